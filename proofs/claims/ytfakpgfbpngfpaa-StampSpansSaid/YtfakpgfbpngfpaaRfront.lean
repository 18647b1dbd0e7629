/- What the document makes of a space, a name and a mark: its bytes, in new memory; a space of one byte, a name of at most 1000 bytes. -/
import Derived.Test.YtfakpgfbpngfpaaAppn
namespace Go.Proofs.Ytfakpgfbpngfpaa
open Go.ChangeShapes Go.WideShapes Go.Deep Go.RowKit Go.Lib

set_option maxHeartbeats 4000000 in
set_option maxRecDepth 100000 in
theorem front_any (na : Option Addr) (cap : Nat) (l : List UInt8) (sp : Int) (m : UInt8) (w : World) (h0 : 0 ≤ sp) (h1 : sp ≤ 255) (hin : BytesIn w na l) (hl : l.length ≤ 1000) :
    Calls Try.prog 25 #[.int .i64 sp, .slice na l.length cap, .int .u8 (m.toNat : Int)] w (Wrote w.heap.size (frontL sp l m) w) := by
  obtain ⟨T, hT⟩ : ∃ T, frontL sp l m = T := ⟨_, rfl⟩
  have hTl : T.length ≤ 3000 := by have := (frontL_length sp l m).2; rw [hT] at this; omega
  rw [hT]
  have HT := Lib.hid hT
  have HTL := Lib.hid hTl
  have HIN := Lib.hid hin
  have H0 := Lib.hid (Took.lit1 w h0 h1)
  clear hT hTl hin
  go_enter Try.func25, Try.ntmps25
  go_wp2_with fail
  go_loopg [7, 8] l.length (fun g b i wr => ∃ (j : Nat) (L : List UInt8), j + g = l.length ∧ i = .int .i64 (j : Int) ∧ Took w.heap.size b L w wr ∧ L ++ markL (l.drop j) m = T)
  case atStart => exact ⟨0, _, by omega, rfl, H0.out, by rw [← HT.out]; rfl⟩
  case round =>
    obtain ⟨j, L, hj, rfl, hw, hrest⟩ := hrel
    obtain ⟨nb, cb, rfl⟩ := hw.slice
    have HJ := Lib.hid hj
    have HW := Lib.hid hw
    have hBr := hw.size (Nat.le_refl _)
    have hB0 : w.heap.size ≤ w.heap.size := Nat.le_refl _
    by_cases hlt : j < l.length
    · rw [markL_drop hlt] at hrest
      obtain ⟨ba, oa, rfl, ha⟩ := (HIN.out).resolve_left (by intro e; rw [e] at hlt; simp at hlt)
      have c0 := ha j hlt
      have c1 := cell_kept2 hw.below c0
      obtain ⟨c, hc⟩ : ∃ c, l[j] = c := ⟨_, rfl⟩
      rw [hc] at hrest c1 c0
      have HREST := Lib.hid hrest
      have HLL : Hid (L.length + (escL c).length ≤ 3000) := Lib.hid (by have := HTL.out; rw [← hrest] at this; simp only [List.length_append] at this; omega)
      clear hrest hj hw hc ha
      by_cases hz : c = 0
      · subst hz
        have HE : Hid (escL 0 = [0] ++ [255]) := Lib.hid rfl
        have c2 : wr.cell? ⟨ba, oa + j, none⟩ = some (.int .u8 0) := c1
        clear c1
        have C0 : Hid (w.cell? ⟨ba, oa + j, none⟩ = some (.int .u8 0)) := Lib.hid c0
        clear c0
        go_wp2_with (at_builtin; refine wpList_lit rfl _ _ rfl HW.out hBr rfl [0] _ 1 rfl rfl rfl (by have := HLL.out; rw [HE.out] at this; simp at this ⊢; omega) ?_)
        intro nc cc W2 hW2
        have hB2 := hW2.size hB0
        have c3 := cell_kept2 hW2.below C0.out
        have HW2 := Lib.hid hW2
        clear hW2
        go_wp2_with (at_builtin; refine wpList_lit rfl _ _ rfl HW2.out hB2 rfl [255] _ 1 rfl rfl rfl (by have := HLL.out; rw [HE.out] at this; simp at this ⊢; omega) ?_)
        intro nd cd W3 hW3
        have HW3 := Lib.hid hW3
        clear hW3
        go_wp2_with fail
        go_roundg (gk - 1)
        case measure => have := HJ.out; omega
        case rel => exact ⟨j + 1, _, by have := HJ.out; omega, by go_num, HW3.out, by rw [← HREST.out, HE.out]; simp⟩
      · have HE : Hid (escL c = [c]) := Lib.hid (by unfold escL; rw [if_neg hz])
        have e1 : ((c.toNat : Int) == 0) = false := by rw [beq_eq_false_iff_ne]; have := zero_byte hz; omega
        clear hz
        have C0 := Lib.hid c0
        clear c0
        go_wp2_with (at_builtin; refine wpList_lit rfl _ _ rfl HW.out hBr rfl [c] _ 1 rfl rfl (byte_of c) (by have := HLL.out; rw [HE.out] at this; simp at this ⊢; omega) ?_)
        intro nc cc W2 hW2
        have c3 := cell_kept2 hW2.below C0.out
        have HW2 := Lib.hid hW2
        clear hW2
        go_wp2_with fail
        go_roundg (gk - 1)
        case measure => have := HJ.out; omega
        case rel => exact ⟨j + 1, _, by have := HJ.out; omega, by go_num, HW2.out, by rw [← HREST.out, HE.out]; simp⟩
    · have hT2 : L ++ [0, m] = T := by rw [← hrest, markL_end (by omega)]
      subst hT2
      have hLT : L.length + 2 ≤ 3000 := by have := HTL.out; simpa using this
      clear hrest hw hj
      go_wp2_with (at_builtin; refine wpList_lit rfl _ _ rfl HW.out hBr rfl [0] _ 1 rfl rfl rfl (by simp; omega) ?_)
      intro nc cc W2 hW2
      have hB2 := hW2.size hB0
      have HW2 := Lib.hid hW2
      clear hW2
      go_wp2_with (at_builtin; refine wpList_lit rfl _ _ rfl HW2.out hB2 rfl [m] _ 1 rfl rfl (byte_of m) (by simp; omega) ?_)
      intro nd cd W3 hW3
      have HW3 := Lib.hid hW3
      clear hW3
      go_wp2_with fail
      go_ret
      exact ⟨nd, cd, by simp, by have := HW3.out; simpa using this⟩
end Go.Proofs.Ytfakpgfbpngfpaa
