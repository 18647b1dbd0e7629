/- A text's bytes by the document: what the call answers; under Go's own limit of length. -/
import Derived.Test.YtcbfbmidekmboaaDoorAppt
namespace Go.Proofs.YtcbfbmidekmboaaDoor
open Go.ChangeShapes Go.WideShapes Go.Deep Go.RowKit Go.Lib

theorem BytesIn.of {w : World} {B : Nat} {na : Option Addr} {cap : Nat} {l : List UInt8} (h : w.ownsRow B 5 1 (.slice na l.length cap) l.length (Lib.byteCells l)) : BytesIn w na l := by
  rcases h.2 with ⟨_, h0⟩ | ⟨g, cap', cur, hv, _⟩
  · exact .inl (List.length_eq_zero_iff.1 h0)
  · obtain ⟨rfl, _⟩ : na = some ⟨g, 0, none⟩ ∧ cap = cap' := by simpa using hv
    refine .inr ⟨g, 0, rfl, fun j hj => ?_⟩
    have := h.cells (g := g) rfl j (.int .u8 (l[j].toNat : Int)) (by simp [Lib.byteCells, hj])
    simpa [WideShapes.add_plain] using this

/-- A call that answers such bytes, in new memory. -/
def Gave (l : List UInt8) (w : World) : Ending → World → Prop := fun e w' => ∃ na cap, e = .returned (.slice na l.length cap) ∧ BytesIn w' na l ∧ Below w.heap.size w w'

theorem Took.gave {v : Value} {l : List UInt8} {w w' : World} (h : Took w.heap.size v l w w') {e : Ending} (he : e = .returned v) : Gave l w e w' := by
  obtain ⟨na, cap, rfl⟩ := h.slice
  exact ⟨na, cap, he, BytesIn.of h.own, h.below⟩

set_option maxHeartbeats 4000000 in
set_option maxRecDepth 100000 in
theorem rText_any (s : ByteArray) (w : World) (hs : s.size ≤ maxLen) (hlen : (textL s.data.toList).length ≤ 140737488355328) :
    Calls Tryd.prog 41 #[.string s] w (Gave (textL s.data.toList) w) := by
  unfold maxLen at hs
  obtain ⟨T, hT⟩ : ∃ T, textL s.data.toList = T := ⟨_, rfl⟩
  have hTl : T.length ≤ 140737488355328 := by rw [← hT]; exact hlen
  rw [hT]
  have HT := Lib.hid hT
  have HTL := Lib.hid hTl
  clear hT hTl hlen
  go_enter Tryd.func41, Tryd.ntmps41
  go_wp2_with fail
  go_loopg [3, 4] s.size (fun g b i wr => ∃ (j : Nat) (L : List UInt8), j + g = s.size ∧ i = .int .i64 (j : Int) ∧ Took w.heap.size b L w wr ∧ L ++ textL (s.data.toList.drop j) = T)
  case atStart => exact ⟨0, [], by omega, rfl, Took.nil _ _, HT.out⟩
  case round =>
    obtain ⟨j, L, hj, rfl, hw, hrest⟩ := hrel
    obtain ⟨nb, cb, rfl⟩ := hw.slice
    have HJ := Lib.hid hj
    have HW := Lib.hid hw
    have hBr := hw.size (Nat.le_refl _)
    have hB0 : w.heap.size ≤ w.heap.size := Nat.le_refl _
    by_cases h1 : j < s.size
    · have hd := textL_drop (l := s.data.toList) (j := j) (by simpa using h1)
      have x1 : s.data.toList[j]'(by simpa using h1) = s[j] := rfl
      rw [x1] at hd
      rw [hd] at hrest
      obtain ⟨c, hc⟩ : ∃ c, s[j] = c := ⟨_, rfl⟩
      rw [hc] at hrest
      have HREST := Lib.hid hrest
      have HLL : Hid (L.length + (escL c).length ≤ 140737488355328) := Lib.hid (by have := HTL.out; rw [← hrest] at this; simp only [List.length_append] at this; omega)
      clear hd hrest x1 hj hw
      by_cases h0 : c = 0
      · have HE : Hid (escL c = [0] ++ [255]) := Lib.hid (by unfold escL; rw [if_pos h0]; rfl)
        have hz : c.toNat = 0 := by rw [h0]; rfl
        clear h0
        go_wp2_with (at_builtin; refine wpList_lit rfl _ _ rfl HW.out hBr rfl [0] _ 1 rfl rfl rfl (by have := HLL.out; rw [HE.out] at this; simp at this ⊢; omega) ?_)
        intro nc cc W2 hW2
        have hB2 := hW2.size hB0
        have HW2 := Lib.hid hW2
        clear hW2
        go_wp2_with (at_builtin; refine wpList_lit rfl _ _ rfl HW2.out hB2 rfl [255] _ 1 rfl rfl rfl (by have := HLL.out; rw [HE.out] at this; simp at this ⊢; omega) ?_)
        intro nd cd W3 hW3
        have HW3 := Lib.hid hW3
        clear hW3
        go_wp2_with fail
        go_roundg (gk - 1)
        case measure => have := HJ.out; omega
        case rel => exact ⟨j + 1, _, by have := HJ.out; omega, by go_num, HW3.out, by rw [← HREST.out, HE.out]; simp⟩
      · have HE : Hid (escL c = [c]) := Lib.hid (by unfold escL; rw [if_neg h0])
        have hz : ((c.toNat : Int) == 0) = false := by rw [beq_eq_false_iff_ne]; have := zero_lt_byte h0; omega
        have hz2 : ¬ (c.toNat : Int) = 0 := by have := zero_lt_byte h0; omega
        clear h0
        go_wp2_with (at_builtin; refine wpList_lit rfl _ _ rfl HW.out hBr rfl [c] _ 1 rfl rfl (byte_of c) (by have := HLL.out; rw [HE.out] at this; simp at this ⊢; omega) ?_)
        intro nc cc W2 hW2
        have HW2 := Lib.hid hW2
        clear hW2
        go_wp2_with fail
        go_roundg (gk - 1)
        case measure => have := HJ.out; omega
        case rel => exact ⟨j + 1, _, by have := HJ.out; omega, by go_num, HW2.out, by rw [← HREST.out, HE.out]; simp⟩
    · have hLT : L.length + 2 ≤ 140737488355328 := by
        rw [textL_end (by simp; omega)] at hrest
        have := HTL.out
        rw [← hrest] at this
        simpa using this
      have hT2 : L ++ [0, 0] = T := by rw [← hrest, textL_end (by simp; omega)]
      subst hT2
      have HLT := Lib.hid hLT
      clear hrest hw hj hLT
      go_wp2_with (at_builtin; refine wpList_lit rfl _ _ rfl HW.out hBr rfl [0, 0] _ 2 rfl rfl rfl (by have := HLT.out; simpa using this) ?_)
      intro nc cc W2 hW2
      have HW2 := Lib.hid hW2
      clear hW2
      go_wp2_with fail
      go_ret
      exact HW2.out.gave (by simp)
end Go.Proofs.YtcbfbmidekmboaaDoor
