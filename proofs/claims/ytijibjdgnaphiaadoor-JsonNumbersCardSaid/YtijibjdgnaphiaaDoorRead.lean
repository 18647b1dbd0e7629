/- Reading a text byte by byte: the place that a pointer holds, what 'take' and 'skipBlanks' do to it; under Go's own limit of length. -/
import Derived.Test.YtijibjdgnaphiaaDoorShelfq
import Derived.Test.YtijibjdgnaphiaaDoorShow
import Derived.WalkSpells
namespace Go.Proofs.YtijibjdgnaphiaaDoor
open Go.ChangeShapes Go.WideShapes Go.Deep Go.RowKit Go.Lib

theorem w64r {n : Int} (h0 : -9223372036854775808 ≤ n) (h1 : n ≤ 9223372036854775807) : IntKind.i64.wrap n = n := by rw [IntKind.wrap_i64]; omega

/-- The place p lies in block q. -/
def PlaceAt (q p : Nat) (w : World) : Prop := w.heap[q]? = some (.cells #[.int .i64 (p : Int)] 3 (0, 0))

/-- The place has moved; all else that lay there is as it was. -/
structure Moves (q p : Nat) (w w' : World) : Prop where
  place : PlaceAt q p w'
  os : w'.os = w.os
  tape : w'.tape = w.tape
  output : w'.output = w.output
  size : w.heap.size ≤ w'.heap.size
  block : ∀ k, k < w.heap.size → k ≠ q → w'.heap[k]? = w.heap[k]?

theorem PlaceAt.lt {q p : Nat} {w : World} (h : PlaceAt q p w) : q < w.heap.size := by
  rcases Nat.lt_or_ge q w.heap.size with h' | h'
  · exact h'
  · unfold PlaceAt at h; simp [Array.getElem?_eq_none h'] at h

theorem PlaceAt.cell {q p : Nat} {w : World} (h : PlaceAt q p w) : w.cell? ⟨q, 0, none⟩ = some (.int .i64 (p : Int)) := by rw [Lib.cell_of_heap h]; rfl
theorem PlaceAt.frozen {q p : Nat} {w : World} (h : PlaceAt q p w) : w.frozen? ⟨q, 0, none⟩ = false := Lib.frozen_of_heap h 0

theorem Moves.refl {q p : Nat} {w : World} (h : PlaceAt q p w) : Moves q p w w := ⟨h, rfl, rfl, rfl, Nat.le_refl _, fun _ _ _ => rfl⟩
theorem Moves.trans {q p p' : Nat} {a b c : World} (h : Moves q p a b) (k : Moves q p' b c) : Moves q p' a c :=
  ⟨k.place, k.os.trans h.os, k.tape.trans h.tape, k.output.trans h.output, Nat.le_trans h.size k.size, fun j hj hq => (k.block j (Nat.lt_of_lt_of_le hj h.size) hq).trans (h.block j hj hq)⟩

theorem moves_below {q p : Nat} {w w' : World} (h : PlaceAt q p w) (hb : Below w.heap.size w w') : Moves q p w w' :=
  ⟨(hb.block q h.lt).trans h, hb.os, hb.tape, hb.output, hb.size, fun k hk _ => hb.block k hk⟩

theorem Moves.below {q p B : Nat} {w w' : World} (h : Moves q p w w') (hq : B ≤ q) (hB : B ≤ w.heap.size) : Below B w w' :=
  ⟨h.os, h.tape, h.output, h.size, fun k hk => h.block k (Nat.lt_of_lt_of_le hk hB) (by omega)⟩

theorem Moves.cell {q p : Nat} {w w' : World} (h : Moves q p w w') {n : Nat} {o : Obj} (hn : w.heap[n]? = some o) (hq : n ≠ q) : w'.heap[n]? = some o := by
  have hlt : n < w.heap.size := by
    rcases Nat.lt_or_ge n w.heap.size with h' | h'
    · exact h'
    · simp [Array.getElem?_eq_none h'] at hn
  rw [h.block n hlt hq]; exact hn

theorem moves_set {q p : Nat} {w : World} (h : PlaceAt q p w) (p' : Nat) : Moves q p' w (w.setCell ⟨q, 0, none⟩ (.int .i64 (p' : Int))) := by
  refine ⟨?_, rfl, rfl, rfl, ?_, fun k _ hk => ?_⟩
  · unfold PlaceAt at h ⊢
    simp [World.setCell, Array.getElem?_modify, h]
  · simp [World.setCell]
  · rw [Below.heap_setCell _ _ _ _ (fun e => hk e)]

set_option maxHeartbeats 1000000 in
set_option maxRecDepth 100000 in
theorem take_any (s word : ByteArray) (q p : Nat) (w : World) (h : PlaceAt q p w) (hp : p ≤ s.size) (hs : s.size + word.size ≤ 4611686018427387904) :
    Calls Tryd.prog 79 #[.string s, .pointer (some ⟨q, 0, none⟩), .string word] w fun e w' => e = .returned (.bool (Lib.hasPrefix (s.data.toList.drop p) word.data.toList)) ∧ Moves q (if Lib.hasPrefix (s.data.toList.drop p) word.data.toList then p + word.size else p) w w' := by
  have hc := h.cell
  have hf := h.frozen
  have HPL := Lib.hid h
  have PRE := Lib.hid (fun W => Tryd.strings_HasPrefix (s.extract p s.size) word W)
  have e1 : (s.extract p s.size).data.toList = s.data.toList.drop p := by
    rw [extract_data]
    have : s.data.size = s.size := rfl
    rw [List.take_of_length_le (by simp)]
  rw [e1] at PRE
  obtain ⟨V, hV⟩ : ∃ V, Lib.hasPrefix (s.data.toList.drop p) word.data.toList = V := ⟨_, rfl⟩
  rw [hV] at PRE ⊢
  clear hV e1 h
  cases V
  · go_enter Tryd.func79, Tryd.ntmps79
    go_wp2_with fail
    refine (PRE.out _).mono ?_
    rintro e w1 ⟨rfl, rfl⟩
    go_wp2_with fail
    go_ret
    exact ⟨rfl, by simpa using Moves.refl HPL.out⟩
  · have q1 : IntKind.i64.wrap ((p : Int) + (word.size : Int)) = (p : Int) + (word.size : Int) := w64r (by omega) (by omega)
    go_enter Tryd.func79, Tryd.ntmps79
    go_wp2_with fail
    refine (PRE.out _).mono ?_
    rintro e w1 ⟨rfl, rfl⟩
    go_wp2_with fail
    go_ret
    exact ⟨rfl, by simpa using moves_set HPL.out (p + word.size)⟩

/-- A blank. -/
def isBlank (c : UInt8) : Bool := decide (c = 9 ∨ c = 10 ∨ c = 13 ∨ c = 32)

/-- Where the blanks end. -/
def skip (s : ByteArray) (p : Nat) : Nat := p + ((s.data.toList.drop p).takeWhile isBlank).length

theorem skip_done {s : ByteArray} {p : Nat} (h : ¬ p < s.size) : skip s p = p := by
  unfold skip
  rw [List.drop_eq_nil_of_le (by have : s.data.size = s.size := rfl; simp; omega)]
  simp

theorem skip_here {s : ByteArray} {p : Nat} (h : p < s.size) (hb : isBlank (s[p]'h) = false) : skip s p = p := by
  unfold skip
  rw [bytes_drop s p h, List.takeWhile_cons, if_neg (by rw [hb]; simp)]
  simp

theorem skip_next {s : ByteArray} {p : Nat} (h : p < s.size) (hb : isBlank (s[p]'h) = true) : skip s p = skip s (p + 1) := by
  unfold skip
  rw [bytes_drop s p h, List.takeWhile_cons, if_pos hb]
  simp
  omega

theorem skip_le {s : ByteArray} {p : Nat} (h : p ≤ s.size) : p ≤ skip s p ∧ skip s p ≤ s.size := by
  unfold skip
  have h1 : ((s.data.toList.drop p).takeWhile isBlank).length ≤ (s.data.toList.drop p).length := (List.takeWhile_sublist _).length_le
  have : s.data.size = s.size := rfl
  simp at h1
  omega

theorem blank_index (c : UInt8) : (isBlank c = true → ∃ i : Nat, Lib.indexByte [9, 10, 13, 32] c = (i : Int)) ∧ (isBlank c = false → Lib.indexByte [9, 10, 13, 32] c = -1) := by
  have : ∀ c : Fin 256, (isBlank (UInt8.ofNat c.1) = true → Lib.indexByte [9, 10, 13, 32] (UInt8.ofNat c.1) = ((Lib.indexByte [9, 10, 13, 32] (UInt8.ofNat c.1)).toNat : Int)) ∧ (isBlank (UInt8.ofNat c.1) = false → Lib.indexByte [9, 10, 13, 32] (UInt8.ofNat c.1) = -1) := by decide +kernel
  have h := this ⟨c.toNat, c.toNat_lt⟩
  simp only [UInt8.ofNat_toNat] at h
  exact ⟨fun hb => ⟨_, h.1 hb⟩, h.2⟩

set_option maxHeartbeats 1000000 in
set_option maxRecDepth 100000 in
theorem skipBlanks_any (s : ByteArray) (q p : Nat) (w : World) (h : PlaceAt q p w) (hp : p ≤ s.size) (hs : s.size ≤ 4611686018427387904) :
    Calls Tryd.prog 61 #[.string s, .pointer (some ⟨q, 0, none⟩)] w fun e w' => e = .returned (.tuple #[]) ∧ Moves q (skip s p) w w' := by
  obtain ⟨T, hT⟩ : ∃ T, skip s p = T := ⟨_, rfl⟩
  rw [hT]
  have HT := Lib.hid hT
  have HPL := Lib.hid h
  clear hT h
  go_enter Tryd.func61, Tryd.ntmps61
  go_wp2_with fail
  go_loopg [] (s.size - p) (fun g wr => ∃ j : Nat, j + g = s.size ∧ skip s j = T ∧ Moves q j w wr)
  case atStart => exact ⟨p, by omega, HT.out, Moves.refl HPL.out⟩
  case round =>
    obtain ⟨j, hj, hsk, hm⟩ := hrel
    have HJ := Lib.hid hj
    have HSK := Lib.hid hsk
    have HM := Lib.hid hm
    have hc := hm.place.cell
    have hf := hm.place.frozen
    clear hj hsk hm
    by_cases hlt : j < s.size
    · have hx := fun W => at_string s j hlt W
      have IX := Lib.hid (fun W => Tryd.strings_IndexByte ⟨#[9, 10, 13, 32]⟩ ((s[j]'hlt).toNat : Int) W)
      have hsk1 := skip_here (s := s) (p := j) hlt
      have hsk2 := skip_next (s := s) (p := j) hlt
      obtain ⟨c, hcc⟩ : ∃ c, s[j]'hlt = c := ⟨_, rfl⟩
      rw [hcc] at hx IX hsk1 hsk2
      rw [show ((⟨#[9, 10, 13, 32]⟩ : ByteArray).data.toList) = [9, 10, 13, 32] from rfl, show ((c.toNat : Int)).toNat.toUInt8 = c by simp] at IX
      have q1 : IntKind.i64.wrap ((j : Int) + 1) = (j : Int) + 1 := w64r (by omega) (by omega)
      cases hb : isBlank c
      · rw [(blank_index c).2 hb] at IX
        have HD := Lib.hid ((hsk1 hb).symm.trans HSK.out)
        clear hb hsk1 hsk2 hcc
        go_wp2_with fail
        refine (IX.out _).mono ?_
        rintro e w1 ⟨rfl, rfl⟩
        go_wp2_with fail
        go_end0
        exact ⟨rfl, by rw [← HD.out]; exact HM.out⟩
      · obtain ⟨i, hi⟩ := (blank_index c).1 hb
        rw [hi] at IX
        have HD := Lib.hid ((hsk2 hb).symm.trans HSK.out)
        clear hb hsk1 hsk2 hcc hi
        go_wp2_with fail
        refine (IX.out _).mono ?_
        rintro e w1 ⟨rfl, rfl⟩
        go_wp2_with fail
        go_roundg (gk - 1)
        case measure => have := HJ.out; omega
        case rel => exact ⟨j + 1, by have := HJ.out; omega, HD.out, HM.out.trans (moves_set HM.out.place (j + 1))⟩
    · have hD := (skip_done hlt).symm.trans HSK.out
      go_wp2_with fail
      go_end0
      exact ⟨rfl, by rw [← hD]; exact HM.out⟩
end Go.Proofs.YtijibjdgnaphiaaDoor
