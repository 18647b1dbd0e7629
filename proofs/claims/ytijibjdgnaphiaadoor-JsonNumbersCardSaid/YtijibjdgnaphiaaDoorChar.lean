/- What the printer writes for one byte of a string, and that its builder holds it then; under Go's own limit of length. -/
import Derived.Test.YtijibjdgnaphiaaDoorBld
import Derived.Test.YtijibjdgnaphiaaDoorShelfp
import Derived.StillTailTactics
namespace Go.Proofs.YtijibjdgnaphiaaDoor
open Go.ChangeShapes Go.WideShapes Go.Deep Go.RowKit Go.Lib

/-- A digit of base 16. -/
def hexd (n : Nat) : UInt8 := [48, 49, 50, 51, 52, 53, 54, 55, 56, 57, 97, 98, 99, 100, 101, 102].getD n 0

/-- How a byte is written. -/
def esc (c : UInt8) : List UInt8 :=
  if c = 34 then [92, 34] else if c = 92 then [92, 92] else if c = 8 then [92, 98] else if c = 9 then [92, 116] else if c = 10 then [92, 110] else if c = 12 then [92, 102] else if c = 13 then [92, 114]
  else if c < 32 then [92, 117, 48, 48, hexd (c.toNat / 16), hexd (c.toNat % 16)] else [c]

theorem bld_lt {B b : Nat} {l : List UInt8} {w : World} (h : Bld B b l w) : b < w.heap.size := by
  rcases h with h | h
  all_goals
    obtain ⟨_, v, hbk, _⟩ := h
    rcases Nat.lt_or_ge b w.heap.size with h' | h'
    · exact h'
    · simp [Array.getElem?_eq_none h'] at hbk

theorem bld_drew {B b : Nat} {l : List UInt8} {w : World} (h : Bld B b l w) : Bld B b l w.drew := h
theorem Wrote.drew {B b : Nat} {l : List UInt8} {w w1 : World} (h : Wrote B b l w w1) : Wrote B b l w w1.drew := ⟨h.bld, h.below.drew, h.kept.drew⟩
theorem Wrote.size {B b : Nat} {l : List UInt8} {w w1 : World} (h : Wrote B b l w w1) (hB : B ≤ w.heap.size) : B ≤ w1.heap.size := by have := h.below.size; omega

theorem at_letters (i : Nat) (hi : i < 7) (W : World) : (Instr.index 9 (.string ⟨#[34, 92, 98, 116, 110, 102, 114]⟩) (.int .i64 (i : Int))).run Tryd.prog W = .ok (.int .u8 ((⟨#[34, 92, 98, 116, 110, 102, 114]⟩ : ByteArray)[i]'hi).toNat) W := by
  rw [run_index_string W 9 _ _ _ Tryd.underlying9, dif_pos ⟨by omega, by show (i : Int) < 7; omega⟩]
  rfl

theorem at_hex (i : Nat) (z : Int) (hz : z = (i : Int)) (hi : i < 16) (W : World) : (Instr.index 9 (.string ⟨#[48, 49, 50, 51, 52, 53, 54, 55, 56, 57, 97, 98, 99, 100, 101, 102]⟩) (.int .u8 z)).run Tryd.prog W = .ok (.int .u8 (hexd i).toNat) W := by
  subst hz
  rw [run_index_string W 9 _ _ _ Tryd.underlying9, dif_pos ⟨by omega, by show (i : Int) < 16; omega⟩]
  have : ∀ j : Fin 16, (⟨#[48, 49, 50, 51, 52, 53, 54, 55, 56, 57, 97, 98, 99, 100, 101, 102]⟩ : ByteArray)[j.1]'j.2 = hexd j.1 := by decide
  have h := this ⟨i, hi⟩
  simp only [Int.toNat_natCast]
  rw [h]

set_option maxHeartbeats 1000000 in
set_option maxRecDepth 100000 in
theorem char_letter (B b : Nat) (l : List UInt8) (c : Int) (i : Nat) (d : UInt8) (w : World) (h : Bld B b l w) (hlen : l.length + 6 ≤ 140737488355328) (hBw : B ≤ w.heap.size)
    (hi : i < 7) (hix : Lib.indexByte [34, 92, 8, 9, 10, 12, 13] c.toNat.toUInt8 = (i : Int)) (hd : ((⟨#[34, 92, 98, 116, 110, 102, 114]⟩ : ByteArray)[i]'hi) = d) :
    Calls Tryd.prog 76 #[.pointer (some ⟨b, 0, none⟩), .int .u8 c] w fun e w' => e = .returned (.tuple #[]) ∧ Wrote B b (l ++ [92, d]) w w' := by
  have IX := Lib.hid (Tryd.strings_IndexByte ⟨#[34, 92, 8, 9, 10, 12, 13]⟩ c w)
  rw [show ((⟨#[34, 92, 8, 9, 10, 12, 13]⟩ : ByteArray).data.toList) = [34, 92, 8, 9, 10, 12, 13] from rfl, hix] at IX
  have H := Lib.hid h
  have hx := fun W => at_letters i hi W
  rw [hd] at hx
  clear hix h hd hi
  go_enter Tryd.func76, Tryd.ntmps76
  go_wp2_with fail
  refine IX.out.mono ?_
  rintro e w1 ⟨rfl, rfl⟩
  go_wp2_with fail
  refine (WriteByte_any B b l 92 _ H.out (by omega) hBw).mono ?_
  rintro e w1 ⟨rfl, hw1⟩
  have HW := Lib.hid hw1
  clear hw1
  go_wp2_with fail
  go_still_tail 5, (by kernel_rfl)
  change wpList _ _ _ _ _ w1.drew
  have H2 := Lib.hid HW.out.drew
  clear HW
  generalize w1.drew = w2 at *
  go_wp2_with fail
  refine (WriteByte_any B b (l ++ [92]) d _ H2.out.bld (by simp; omega) (H2.out.size hBw)).mono ?_
  rintro e w3 ⟨rfl, hw3⟩
  have HW3 := Lib.hid (H2.out.then hw3)
  clear hw3
  go_wp2_with fail
  go_end0
  exact ⟨rfl, by simpa using HW3.out⟩

set_option maxHeartbeats 1000000 in
set_option maxRecDepth 100000 in
theorem char_plain (B b : Nat) (l : List UInt8) (c : UInt8) (w : World) (h : Bld B b l w) (hlen : l.length + 6 ≤ 140737488355328) (hBw : B ≤ w.heap.size)
    (hix : Lib.indexByte [34, 92, 8, 9, 10, 12, 13] c = -1) (h32 : 32 ≤ c.toNat) :
    Calls Tryd.prog 76 #[.pointer (some ⟨b, 0, none⟩), .int .u8 (c.toNat : Int)] w fun e w' => e = .returned (.tuple #[]) ∧ Wrote B b (l ++ [c]) w w' := by
  have IX := Lib.hid (Tryd.strings_IndexByte ⟨#[34, 92, 8, 9, 10, 12, 13]⟩ (c.toNat : Int) w)
  rw [show ((⟨#[34, 92, 8, 9, 10, 12, 13]⟩ : ByteArray).data.toList) = [34, 92, 8, 9, 10, 12, 13] from rfl, show ((c.toNat : Int)).toNat.toUInt8 = c by simp, hix] at IX
  have H := Lib.hid h
  have hlt : ¬ ((c.toNat : Int) < 32) := by omega
  clear hix h h32
  go_enter Tryd.func76, Tryd.ntmps76
  go_wp2_with fail
  refine IX.out.mono ?_
  rintro e w1 ⟨rfl, rfl⟩
  go_wp2_with fail
  refine (WriteByte_any B b l c _ H.out (by omega) hBw).mono ?_
  rintro e w1 ⟨rfl, hw1⟩
  have HW := Lib.hid hw1
  clear hw1
  go_wp2_with fail
  go_end0
  exact ⟨rfl, HW.out⟩

set_option maxHeartbeats 1000000 in
set_option maxRecDepth 100000 in
theorem char_low (B b : Nat) (l : List UInt8) (c : UInt8) (w : World) (h : Bld B b l w) (hlen : l.length + 6 ≤ 140737488355328) (hBw : B ≤ w.heap.size)
    (hix : Lib.indexByte [34, 92, 8, 9, 10, 12, 13] c = -1) (h32 : c.toNat < 32) :
    Calls Tryd.prog 76 #[.pointer (some ⟨b, 0, none⟩), .int .u8 (c.toNat : Int)] w fun e w' => e = .returned (.tuple #[]) ∧ Wrote B b (l ++ [92, 117, 48, 48, hexd (c.toNat / 16), hexd (c.toNat % 16)]) w w' := by
  have IX := Lib.hid (Tryd.strings_IndexByte ⟨#[34, 92, 8, 9, 10, 12, 13]⟩ (c.toNat : Int) w)
  rw [show ((⟨#[34, 92, 8, 9, 10, 12, 13]⟩ : ByteArray).data.toList) = [34, 92, 8, 9, 10, 12, 13] from rfl, show ((c.toNat : Int)).toNat.toUInt8 = c by simp, hix] at IX
  have H := Lib.hid h
  have hlt : ((c.toNat : Int) < 32) := by omega
  have hx1 := fun W => at_hex (c.toNat / 16) ((c.toNat : Int) / 16) (by omega) (by omega) W
  have hx2 := fun W => at_hex (c.toNat % 16) ((c.toNat : Int) % 16) (by omega) (by omega) W
  obtain ⟨d1, hd1⟩ : ∃ d, hexd (c.toNat / 16) = d := ⟨_, rfl⟩
  obtain ⟨d2, hd2⟩ : ∃ d, hexd (c.toNat % 16) = d := ⟨_, rfl⟩
  rw [hd1] at hx1 ⊢
  rw [hd2] at hx2 ⊢
  obtain ⟨k, hk⟩ : ∃ k : Nat, c.toNat = k := ⟨_, rfl⟩
  rw [hk] at IX hlt hx1 hx2 ⊢
  clear hix h h32 hd1 hd2 hk
  have q1 : ((k : Int).tdiv 16) = (k : Int) / 16 := by simp
  have q2 : ((k : Int).tmod 16) = (k : Int) % 16 := Int.tmod_eq_emod_of_nonneg (by omega)
  have q3 : IntKind.u8.wrap ((k : Int) / 16) = (k : Int) / 16 := wraps_u8 _ (by omega) (by omega)
  have q4 : IntKind.u8.wrap ((k : Int) % 16) = (k : Int) % 16 := wraps_u8 _ (by omega) (by omega)
  go_enter Tryd.func76, Tryd.ntmps76
  go_wp2_with fail
  refine IX.out.mono ?_
  rintro e w1 ⟨rfl, rfl⟩
  go_wp2_with fail
  refine (WriteString_any B b l ⟨#[92, 117, 48, 48]⟩ _ H.out (by simp [ByteArray.size]; omega) hBw).mono ?_
  rintro e w1 ⟨rfl, hw1⟩
  have HW := Lib.hid hw1
  clear hw1
  go_wp2_with fail
  go_still_tail 6, (by kernel_rfl)
  change wpList _ _ _ _ _ w1.drew
  have H2 := Lib.hid HW.out.drew
  clear HW
  generalize w1.drew = w2 at *
  go_wp2_with fail
  refine (WriteByte_any B b _ d1 _ H2.out.bld (by simp; omega) (H2.out.size hBw)).mono ?_
  rintro e w3 ⟨rfl, hw3⟩
  have HW3 := Lib.hid (H2.out.then hw3)
  clear hw3 H2
  go_wp2_with fail
  go_still_tail 6, (by kernel_rfl)
  change wpList _ _ _ _ _ w3.drew
  have H4 := Lib.hid HW3.out.drew
  clear HW3
  generalize w3.drew = w4 at *
  go_wp2_with fail
  refine (WriteByte_any B b _ d2 _ H4.out.bld (by simp; omega) (H4.out.size hBw)).mono ?_
  rintro e w5 ⟨rfl, hw5⟩
  have HW5 := Lib.hid (H4.out.then hw5)
  clear hw5 H4
  go_wp2_with fail
  go_end0
  exact ⟨rfl, by simpa using HW5.out⟩

theorem esc_length (c : UInt8) : (esc c).length ≤ 6 := by
  unfold esc
  repeat' split
  all_goals simp

theorem index_none (c : UInt8) (h : c ≠ 34 ∧ c ≠ 92 ∧ c ≠ 8 ∧ c ≠ 9 ∧ c ≠ 10 ∧ c ≠ 12 ∧ c ≠ 13) : Lib.indexByte [34, 92, 8, 9, 10, 12, 13] c = -1 := by
  obtain ⟨h1, h2, h3, h4, h5, h6, h7⟩ := h
  simp only [Lib.indexByte, beq_iff_eq, h1.symm, h2.symm, h3.symm, h4.symm, h5.symm, h6.symm, h7.symm, if_false]
  rfl

theorem char_any (B b : Nat) (l : List UInt8) (c : UInt8) (w : World) (h : Bld B b l w) (hlen : l.length + 6 ≤ 140737488355328) (hBw : B ≤ w.heap.size) :
    Calls Tryd.prog 76 #[.pointer (some ⟨b, 0, none⟩), .int .u8 (c.toNat : Int)] w fun e w' => e = .returned (.tuple #[]) ∧ Wrote B b (l ++ esc c) w w' := by
  unfold esc
  by_cases h1 : c = 34
  · subst h1; rw [if_pos rfl]; exact char_letter B b l 34 0 34 w h hlen hBw (by omega) (by decide) rfl
  rw [if_neg h1]
  by_cases h2 : c = 92
  · subst h2; rw [if_pos rfl]; exact char_letter B b l 92 1 92 w h hlen hBw (by omega) (by decide) rfl
  rw [if_neg h2]
  by_cases h3 : c = 8
  · subst h3; rw [if_pos rfl]; exact char_letter B b l 8 2 98 w h hlen hBw (by omega) (by decide) rfl
  rw [if_neg h3]
  by_cases h4 : c = 9
  · subst h4; rw [if_pos rfl]; exact char_letter B b l 9 3 116 w h hlen hBw (by omega) (by decide) rfl
  rw [if_neg h4]
  by_cases h5 : c = 10
  · subst h5; rw [if_pos rfl]; exact char_letter B b l 10 4 110 w h hlen hBw (by omega) (by decide) rfl
  rw [if_neg h5]
  by_cases h6 : c = 12
  · subst h6; rw [if_pos rfl]; exact char_letter B b l 12 5 102 w h hlen hBw (by omega) (by decide) rfl
  rw [if_neg h6]
  by_cases h7 : c = 13
  · subst h7; rw [if_pos rfl]; exact char_letter B b l 13 6 114 w h hlen hBw (by omega) (by decide) rfl
  rw [if_neg h7]
  have hix := index_none c ⟨h1, h2, h3, h4, h5, h6, h7⟩
  by_cases h32 : c < 32
  · rw [if_pos h32]
    exact char_low B b l c w h hlen hBw hix (by simpa [UInt8.lt_iff_toNat_lt] using h32)
  · rw [if_neg h32]
    exact char_plain B b l c w h hlen hBw hix (by have := UInt8.not_lt.1 h32; simpa [UInt8.le_iff_toNat_le] using this)
end Go.Proofs.YtijibjdgnaphiaaDoor
