/- What the program appends for a text: its bytes; under Go's own limit of length. -/
import Derived.Test.YtcbfbmidekmboaaDoorByts
namespace Go.Proofs.YtcbfbmidekmboaaDoor
open Go.ChangeShapes Go.WideShapes Go.Deep Go.RowKit Go.Lib

theorem zero_lt_byte {c : UInt8} (h : c ≠ 0) : 0 < c.toNat := by
  rcases Nat.eq_zero_or_pos c.toNat with h' | h'
  · exact absurd (UInt8.toNat_inj.1 (by rw [h']; rfl)) h
  · exact h'

set_option maxHeartbeats 4000000 in
set_option maxRecDepth 100000 in
theorem appText_any (B : Nat) (na : Option Addr) (cap : Nat) (l : List UInt8) (s : ByteArray) (w : World) (hown : w.ownsRow B 5 1 (.slice na l.length cap) l.length (Lib.byteCells l)) (hB : B ≤ w.heap.size) (hs : s.size ≤ maxLen) (hlen : l.length + (textL s.data.toList).length ≤ 140737488355328) :
    Calls Tryd.prog 36 #[.slice na l.length cap, .string s] w (Wrote B (l ++ textL s.data.toList) w) := by
  unfold maxLen at hs
  obtain ⟨T, hT⟩ : ∃ T, l ++ textL s.data.toList = T := ⟨_, rfl⟩
  have hTl : T.length ≤ 140737488355328 := by rw [← hT, List.length_append]; exact hlen
  rw [hT]
  have HT := Lib.hid hT
  have HTL := Lib.hid hTl
  have HB := Lib.hid hB
  have H0 := Lib.hid (Took.refl hown)
  clear hT hTl hlen hown hB
  go_enter Tryd.func36, Tryd.ntmps36
  go_wp2_with fail
  go_loopg [0, 8] s.size (fun g b i wr => ∃ (j : Nat) (L : List UInt8), j + g = s.size ∧ i = .int .i64 (j : Int) ∧ Took B b L w wr ∧ L ++ textL (s.data.toList.drop j) = T)
  case atStart => exact ⟨0, l, by omega, rfl, H0.out, HT.out⟩
  case round =>
    obtain ⟨j, L, hj, rfl, hw, hrest⟩ := hrel
    obtain ⟨nb, cb, rfl⟩ := hw.slice
    have HJ := Lib.hid hj
    have HW := Lib.hid hw
    have hBr := hw.size HB.out
    have hB0 := HB.out
    by_cases h1 : j < s.size
    · have hd := textL_drop (l := s.data.toList) (j := j) (by simpa using h1)
      have x1 : s.data.toList[j]'(by simpa using h1) = s[j] := rfl
      rw [x1] at hd
      rw [hd] at hrest
      obtain ⟨c, hc⟩ : ∃ c, s[j] = c := ⟨_, rfl⟩
      rw [hc] at hrest
      have HREST := Lib.hid hrest
      have HLL : Hid (L.length + (escL c).length ≤ 140737488355328) := Lib.hid (by have := HTL.out; rw [← hrest] at this; simp only [List.length_append] at this; omega)
      clear hd hrest x1 hj hw
      by_cases h0 : c = 0
      · have HE : Hid (escL c = [0] ++ [255]) := Lib.hid (by unfold escL; rw [if_pos h0]; rfl)
        have hz : c.toNat = 0 := by rw [h0]; rfl
        clear h0
        go_wp2_with (at_builtin; refine wpList_lit rfl _ _ rfl HW.out hBr rfl [0] _ 1 rfl rfl rfl (by have := HLL.out; rw [HE.out] at this; simp at this ⊢; omega) ?_)
        intro nc cc W2 hW2
        have hB2 := hW2.size hB0
        have HW2 := Lib.hid hW2
        clear hW2
        go_wp2_with (at_builtin; refine wpList_lit rfl _ _ rfl HW2.out hB2 rfl [255] _ 1 rfl rfl rfl (by have := HLL.out; rw [HE.out] at this; simp at this ⊢; omega) ?_)
        intro nd cd W3 hW3
        have HW3 := Lib.hid hW3
        clear hW3
        go_wp2_with fail
        go_roundg (gk - 1)
        case measure => have := HJ.out; omega
        case rel => exact ⟨j + 1, _, by have := HJ.out; omega, by go_num, HW3.out, by rw [← HREST.out, HE.out]; simp⟩
      · have HE : Hid (escL c = [c]) := Lib.hid (by unfold escL; rw [if_neg h0])
        have hz : ((c.toNat : Int) == 0) = false := by rw [beq_eq_false_iff_ne]; have := zero_lt_byte h0; omega
        have hz2 : ¬ (c.toNat : Int) = 0 := by have := zero_lt_byte h0; omega
        clear h0
        go_wp2_with (at_builtin; refine wpList_lit rfl _ _ rfl HW.out hBr rfl [c] _ 1 rfl rfl (byte_of c) (by have := HLL.out; rw [HE.out] at this; simp at this ⊢; omega) ?_)
        intro nc cc W2 hW2
        have HW2 := Lib.hid hW2
        clear hW2
        go_wp2_with fail
        go_roundg (gk - 1)
        case measure => have := HJ.out; omega
        case rel => exact ⟨j + 1, _, by have := HJ.out; omega, by go_num, HW2.out, by rw [← HREST.out, HE.out]; simp⟩
    · have hLT : L.length + 2 ≤ 140737488355328 := by
        rw [textL_end (by simp; omega)] at hrest
        have := HTL.out
        rw [← hrest] at this
        simpa using this
      have hT2 : L ++ [0, 0] = T := by rw [← hrest, textL_end (by simp; omega)]
      subst hT2
      have HLT := Lib.hid hLT
      clear hrest hw hj hLT
      go_wp2_with (at_builtin; refine wpList_lit rfl _ _ rfl HW.out hBr rfl [0, 0] _ 2 rfl rfl rfl (by have := HLT.out; simpa using this) ?_)
      intro nc cc W2 hW2
      have HW2 := Lib.hid hW2
      clear hW2
      go_wp2_with fail
      go_ret
      exact ⟨nc, cc, by simp, by have := HW2.out; simpa using this⟩
end Go.Proofs.YtcbfbmidekmboaaDoor
