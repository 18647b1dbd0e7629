/- What the printer writes for a string, and ahead of an item; under Go's own limit of length. -/
import Derived.Test.YtijibjdgnaphiaaDoorChar
namespace Go.Proofs.YtijibjdgnaphiaaDoor
open Go.ChangeShapes Go.WideShapes Go.Deep Go.RowKit Go.Lib

theorem wrote_refl {B b : Nat} {l : List UInt8} {w : World} (h : Bld B b l w) : Wrote B b l w w := ⟨h, Below.refl B w, Lib.OthersKept.refl _ _ w⟩

/-- The bytes of a text, each as it is written. -/
def escs (l : List UInt8) : List UInt8 := l.flatMap esc

/-- A string's text. -/
def quotedL (s : ByteArray) : List UInt8 := 34 :: (escs s.data.toList ++ [34])

theorem escs_length (l : List UInt8) : (escs l).length ≤ 6 * l.length := by
  induction l with
  | nil => simp [escs]
  | cons c l ih =>
    have := esc_length c
    simp only [escs, List.flatMap_cons, List.length_append, List.length_cons] at ih ⊢
    omega

theorem quotedL_length (s : ByteArray) : (quotedL s).length ≤ 6 * s.size + 2 := by
  have := escs_length s.data.toList
  simp [quotedL] at this ⊢
  omega

theorem at_string (s : ByteArray) (j : Nat) (hj : j < s.size) (W : World) : (Instr.index 9 (.string s) (.int .i64 (j : Int))).run Tryd.prog W = .ok (.int .u8 (s[j]'hj).toNat) W := by
  rw [run_index_string W 9 _ _ _ Tryd.underlying9, dif_pos ⟨by omega, by omega⟩]
  rfl

theorem bytes_drop (s : ByteArray) (j : Nat) (hj : j < s.size) : s.data.toList.drop j = s[j]'hj :: s.data.toList.drop (j + 1) := by
  have : s.data.size = s.size := rfl
  rw [List.drop_eq_getElem_cons (by simp; omega)]
  rfl

set_option maxHeartbeats 1000000 in
set_option maxRecDepth 100000 in
theorem quoted_any (B b : Nat) (l : List UInt8) (s : ByteArray) (w : World) (h : Bld B b l w) (hlen : l.length + 6 * s.size + 8 ≤ 140737488355328) (hBw : B ≤ w.heap.size) :
    Calls Tryd.prog 57 #[.pointer (some ⟨b, 0, none⟩), .string s] w fun e w' => e = .returned (.tuple #[]) ∧ Wrote B b (l ++ quotedL s) w w' := by
  have H := Lib.hid h
  obtain ⟨T, hT⟩ : ∃ T, l ++ [34] ++ escs s.data.toList = T := ⟨_, rfl⟩
  have HT := Lib.hid hT
  clear h hT
  go_enter Tryd.func57, Tryd.ntmps57
  go_wp2_with fail
  refine (WriteByte_any B b l 34 _ H.out (by omega) hBw).mono ?_
  rintro e w1 ⟨rfl, hw1⟩
  have HW := Lib.hid hw1
  clear hw1
  go_wp2_with fail
  go_loopg [11] s.size (fun g i wr => ∃ (j : Nat) (L : List UInt8), j + g = s.size ∧ i = .int .i64 (j : Int) ∧ L ++ escs (s.data.toList.drop j) = T ∧ L.length ≤ l.length + 1 + 6 * j ∧ Wrote B b L w wr)
  case atStart => exact ⟨0, l ++ [34], by omega, rfl, HT.out, by simp, HW.out⟩
  case round =>
    obtain ⟨j, L, hj, rfl, hrest, hL, hw⟩ := hrel
    have HJ := Lib.hid hj
    have HREST := Lib.hid hrest
    have HL := Lib.hid hL
    have HWR := Lib.hid hw
    clear hj hrest hL hw
    by_cases hlt : j < s.size
    · have hx := fun W => at_string s j hlt W
      have hd := bytes_drop s j hlt
      obtain ⟨c, hc⟩ : ∃ c, s[j]'hlt = c := ⟨_, rfl⟩
      rw [hc] at hx hd
      have HD := Lib.hid hd
      clear hd hc
      go_wp2_with fail
      refine (char_any B b L c _ HWR.out.bld (by have := HL.out; omega) (HWR.out.size hBw)).mono ?_
      rintro e w3 ⟨rfl, hw3⟩
      have HW3 := Lib.hid (HWR.out.then hw3)
      clear hw3
      go_wp2_with fail
      go_roundg (gk - 1)
      case measure => have := HJ.out; omega
      case rel =>
        refine ⟨j + 1, L ++ esc c, by have := HJ.out; omega, by go_num, ?_, ?_, HW3.out⟩
        · rw [← HREST.out, HD.out]; simp [escs]
        · have := HL.out; have := esc_length c; simp; omega
    · have hLT : L = T := by
        rw [← HREST.out, List.drop_eq_nil_of_le (by have : s.data.size = s.size := rfl; simp; omega)]
        simp [escs]
      go_wp2_with fail
      refine (WriteByte_any B b L 34 _ HWR.out.bld (by have := HL.out; have := HJ.out; omega) (HWR.out.size hBw)).mono ?_
      rintro e w3 ⟨rfl, hw3⟩
      have HW3 := Lib.hid (HWR.out.then hw3)
      clear hw3
      go_wp2_with fail
      go_end0
      have := HW3.out
      rw [hLT, ← HT.out] at this
      exact ⟨rfl, by simpa [quotedL] using this⟩

/-- What is written ahead of item number i. -/
def commaL (i : Nat) : List UInt8 := if i = 0 then [] else [44]

set_option maxHeartbeats 1000000 in
set_option maxRecDepth 100000 in
theorem comma_any (B b : Nat) (l : List UInt8) (i : Nat) (w : World) (h : Bld B b l w) (hlen : l.length + 8 ≤ 140737488355328) (hBw : B ≤ w.heap.size) :
    Calls Tryd.prog 77 #[.pointer (some ⟨b, 0, none⟩), .int .i64 (i : Int)] w fun e w' => e = .returned (.tuple #[]) ∧ Wrote B b (l ++ commaL i) w w' := by
  have H := Lib.hid h
  clear h
  unfold commaL
  by_cases hi : i = 0
  · subst hi
    go_enter Tryd.func77, Tryd.ntmps77
    go_wp2_with fail
    go_end0
    exact ⟨rfl, by simpa using wrote_refl H.out⟩
  · rw [if_neg hi]
    have hpos : (0 : Int) < (i : Int) := by omega
    clear hi
    go_enter Tryd.func77, Tryd.ntmps77
    go_wp2_with fail
    refine (WriteByte_any B b l 44 _ H.out (by omega) hBw).mono ?_
    rintro e w1 ⟨rfl, hw1⟩
    have HW := Lib.hid hw1
    clear hw1
    go_wp2_with fail
    go_end0
    exact ⟨rfl, HW.out⟩
end Go.Proofs.YtijibjdgnaphiaaDoor
