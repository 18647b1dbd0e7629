/- What the program appends for a number: its eight bytes; under Go's own limit of length. -/
import Derived.Test.YtcbfbmidekmboaaDoorRtext
namespace Go.Proofs.YtcbfbmidekmboaaDoor
open Go.ChangeShapes Go.WideShapes Go.Deep Go.RowKit Go.Lib

set_option maxHeartbeats 4000000 in
set_option maxRecDepth 100000 in
theorem appNumber_any (B : Nat) (na : Option Addr) (cap : Nat) (l : List UInt8) (n : Nat) (w : World) (hown : w.ownsRow B 5 1 (.slice na l.length cap) l.length (Lib.byteCells l)) (hB : B ≤ w.heap.size) (_hn : n < 18446744073709551616) (hlen : l.length + 8 ≤ 140737488355328) :
    Calls Tryd.prog 35 #[.slice na l.length cap, .int .u64 (n : Int)] w (Wrote B (l ++ bigL n) w) := by
  obtain ⟨T, hT⟩ : ∃ T, l ++ bigL n = T := ⟨_, rfl⟩
  have hTl : T.length ≤ 140737488355328 := by rw [← hT, List.length_append]; exact hlen
  rw [hT]
  have HT := Lib.hid hT
  have HTL := Lib.hid hTl
  have HB := Lib.hid hB
  have H0 := Lib.hid (Took.refl hown)
  clear hT hTl hlen hown hB
  go_enter Tryd.func35, Tryd.ntmps35
  go_wp2_with fail
  go_loopg [0, 5] 8 (fun g b i wr => ∃ (j : Nat) (L : List UInt8), j + g = 8 ∧ i = .int .i64 (56 - 8 * (j : Int)) ∧ Took B b L w wr ∧ L ++ (bigL n).drop j = T)
  case atStart => exact ⟨0, l, by omega, rfl, H0.out, HT.out⟩
  case round =>
    obtain ⟨j, L, hj, rfl, hw, hrest⟩ := hrel
    obtain ⟨nb, cb, rfl⟩ := hw.slice
    have HJ := Lib.hid hj
    have HW := Lib.hid hw
    have hBr := hw.size HB.out
    by_cases h1 : j < 8
    · have hg := bigL_get n j h1
      rw [List.drop_eq_getElem_cons (show j < (bigL n).length from h1), hg] at hrest
      have HREST := Lib.hid hrest
      have HLL : Hid (L.length + 1 ≤ 140737488355328) := Lib.hid (by have := HTL.out; rw [← hrest] at this; simp only [List.length_append, List.length_cons] at this; omega)
      clear hg hrest hj hw
      go_wp2_with (at_builtin; refine wpList_lit rfl _ _ rfl HW.out hBr rfl [UInt8.ofNat (n / 256 ^ (7 - j))] _ 1 rfl rfl ?c1 (by have := HLL.out; simpa using this) ?_)
      case c1 =>
        simp only [Lib.byteCells, List.map_cons, List.map_nil, UInt8.toNat_ofNat']
        rw [show (256 : Nat) ^ (7 - j) = 2 ^ (56 - 8 * j) by rw [show (256 : Nat) = 2 ^ 8 by rfl, ← Nat.pow_mul]; congr 1; omega]
        congr 2
      intro nc cc W2 hW2
      have HW2 := Lib.hid hW2
      clear hW2
      go_wp2_with fail
      go_roundg (gk - 1)
      case measure => have := HJ.out; omega
      case rel => exact ⟨j + 1, _, by have := HJ.out; omega, by go_num, HW2.out, by rw [← HREST.out]; simp⟩
    · have hLT : L = T := by
        rw [← hrest, List.drop_eq_nil_of_le (by rw [bigL_length]; omega), List.append_nil]
      subst hLT
      clear hrest hw hj
      go_wp2_with fail
      go_ret
      exact ⟨nb, cb, rfl, HW.out⟩
end Go.Proofs.YtcbfbmidekmboaaDoor
