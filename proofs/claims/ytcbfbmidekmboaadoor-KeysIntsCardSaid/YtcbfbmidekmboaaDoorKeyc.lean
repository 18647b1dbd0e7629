/- How the keys of two formed values are held against each other: less, alike, one the other's beginning; plain facts; no condition of ours. -/
import Derived.Test.YtcbfbmidekmboaaDoorKeyo
namespace Go.Proofs.YtcbfbmidekmboaaDoor
open Go.ChangeShapes Go.WideShapes Go.Deep Go.RowKit Go.Lib

theorem cmpB_of_cmpP : ∀ {a b : List UInt8}, cmpP a b ≠ 0 → compareBytes a b = cmpP a b
  | [], b, h => absurd (by rw [cmpP]) h
  | a :: l, [], h => absurd (by rw [cmpP]) h
  | a :: l, b :: r, h => by
    rw [cmpB_cons, cmpP_cons]
    by_cases he : compareInt (a.toNat : Int) (b.toNat : Int) = 0
    · rw [lexI_of he, lexI_of he]
      rw [cmpP_cons, lexI_of he] at h
      exact cmpB_of_cmpP h
    · rw [lexI_at he, lexI_at he]

theorem cmpP_nil_right (l : List UInt8) : cmpP l [] = 0 := by cases l <;> rfl

theorem cmpP_take : ∀ {a b : List UInt8} {n : Nat}, a.take n = b.take n → n = min a.length b.length → cmpP a b = 0
  | [], b, n, _, _ => by rw [cmpP]
  | a :: l, [], n, _, _ => by rw [cmpP]
  | a :: l, b :: r, 0, _, h => by simp at h
  | a :: l, b :: r, n + 1, h, hn => by
    simp only [List.take_succ_cons, List.cons.injEq] at h
    obtain ⟨rfl, h⟩ := h
    rw [cmpP_cons, lexI_of (cmpI_self _)]
    exact cmpP_take h (by simp only [List.length_cons] at hn; omega)

theorem key_cmp {x y : AV} {lv lv' : Nat} {w : World} (hf : AV.formedJ x lv = true) (hf' : AV.formedJ y lv' = true) (hi : x.In w) (hi' : y.In w) : cmpP (AV.key x) (AV.key y) = AV.ord x y := by
  have := AV.cmpP_key x y lv lv' w [] [] hf hf' hi hi'
  rw [List.append_nil, List.append_nil, show cmpP [] [] = 0 from rfl, lexI_nil] at this
  exact this

theorem key_less {x y : AV} {lv lv' : Nat} {w : World} (hf : AV.formedJ x lv = true) (hf' : AV.formedJ y lv' = true) (hi : x.In w) (hi' : y.In w) : compareBytes (AV.key x) (AV.key y) = AV.ord x y := by
  by_cases h : AV.ord x y = 0
  · rw [key_alike hf hf' hi hi' h, h]; exact cmpB_zero.2 rfl
  · rw [cmpB_of_cmpP (by rw [key_cmp hf hf' hi hi']; exact h), key_cmp hf hf' hi hi']

theorem key_same {x y : AV} {lv lv' : Nat} {w : World} (hf : AV.formedJ x lv = true) (hf' : AV.formedJ y lv' = true) (hi : x.In w) (hi' : y.In w) : AV.key x = AV.key y ↔ AV.ord x y = 0 := by
  rw [← key_less hf hf' hi hi', cmpB_zero]

theorem key_begin {x y : AV} {lv lv' : Nat} {w : World} (hf : AV.formedJ x lv = true) (hf' : AV.formedJ y lv' = true) (hi : x.In w) (hi' : y.In w) {n : Nat} (hn : n = min (AV.key x).length (AV.key y).length) (h : AV.ord x y ≠ 0) : (AV.key x).take n ≠ (AV.key y).take n := fun e =>
  h (by rw [← key_cmp hf hf' hi hi']; exact cmpP_take e hn)
end Go.Proofs.YtcbfbmidekmboaaDoor
