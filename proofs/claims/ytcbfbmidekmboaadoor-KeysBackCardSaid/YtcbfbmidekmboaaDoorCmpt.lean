/- Texts compared, by the document: what the call answers; no condition but that a text's length fits a machine's. -/
import Derived.Test.YtcbfbmidekmboaaDoorCmpa
namespace Go.Proofs.YtcbfbmidekmboaaDoor
open Go.ChangeShapes Go.WideShapes Go.Deep Go.RowKit Go.Lib

theorem ret_i64 {a b : Int} (h : a = b) : Ending.returned (.int .i64 a) = .returned (.int .i64 b) := by rw [h]

theorem cmpB_drop {a b : List UInt8} {j : Nat} (h : j < a.length) (h' : j < b.length) : compareBytes (a.drop j) (b.drop j) = if a[j].toNat < b[j].toNat then -1 else if b[j].toNat < a[j].toNat then 1 else compareBytes (a.drop (j + 1)) (b.drop (j + 1)) := by
  rw [List.drop_eq_getElem_cons h, List.drop_eq_getElem_cons h', compareBytes]
  simp only [UInt8.lt_iff_toNat_lt]

theorem cmpB_end {a b : List UInt8} {j : Nat} (hj : j ≤ a.length) (hj' : j ≤ b.length) (h : j = a.length ∨ j = b.length) : compareBytes (a.drop j) (b.drop j) = compareInt a.length b.length := by
  rcases h with h | h
  · rw [List.drop_eq_nil_of_le (by omega)]
    by_cases h' : j = b.length
    · rw [List.drop_eq_nil_of_le (by omega), show a.length = b.length by omega]
      simp [compareBytes, compareInt]
    · obtain ⟨c, l, e⟩ : ∃ c l, b.drop j = c :: l := ⟨_, _, List.drop_eq_getElem_cons (by omega)⟩
      rw [e]
      unfold compareInt
      rw [if_pos (by omega)]
      rfl
  · rw [show b.drop j = [] from List.drop_eq_nil_of_le (by omega)]
    by_cases h' : j = a.length
    · rw [List.drop_eq_nil_of_le (by omega), show a.length = b.length by omega]
      simp [compareBytes, compareInt]
    · obtain ⟨c, l, e⟩ : ∃ c l, a.drop j = c :: l := ⟨_, _, List.drop_eq_getElem_cons (by omega)⟩
      rw [e]
      unfold compareInt
      rw [if_neg (by omega), if_pos (by omega)]
      rfl

end Go.Proofs.YtcbfbmidekmboaaDoor
