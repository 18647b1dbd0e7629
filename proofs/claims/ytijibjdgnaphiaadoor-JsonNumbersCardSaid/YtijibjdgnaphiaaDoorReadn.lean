/- Reading a number: what it answers where its digits make an int64; under Go's own limit of length. -/
import Derived.Test.YtijibjdgnaphiaaDoorRead
import Derived.Test.YtijibjdgnaphiaaDoorInj
namespace Go.Proofs.YtijibjdgnaphiaaDoor
open Go.ChangeShapes Go.WideShapes Go.Deep Go.RowKit Go.Lib

/-- Where the digits end. -/
def digitsEnd (s : ByteArray) (p : Nat) : Nat := p + ((s.data.toList.drop p).takeWhile isDigit).length

theorem digitsEnd_done {s : ByteArray} {p : Nat} (h : ¬ p < s.size) : digitsEnd s p = p := by
  unfold digitsEnd
  rw [List.drop_eq_nil_of_le (by have : s.data.size = s.size := rfl; simp; omega)]
  simp

theorem digitsEnd_here {s : ByteArray} {p : Nat} (h : p < s.size) (hb : isDigit (s[p]'h) = false) : digitsEnd s p = p := by
  unfold digitsEnd
  rw [bytes_drop s p h, List.takeWhile_cons, if_neg (by rw [hb]; simp)]
  simp

theorem digitsEnd_next {s : ByteArray} {p : Nat} (h : p < s.size) (hb : isDigit (s[p]'h) = true) : digitsEnd s p = digitsEnd s (p + 1) := by
  unfold digitsEnd
  rw [bytes_drop s p h, List.takeWhile_cons, if_pos hb]
  simp
  omega

theorem digitsEnd_le {s : ByteArray} {p : Nat} (h : p ≤ s.size) : p ≤ digitsEnd s p ∧ digitsEnd s p ≤ s.size := by
  unfold digitsEnd
  have h1 : ((s.data.toList.drop p).takeWhile isDigit).length ≤ (s.data.toList.drop p).length := (List.takeWhile_sublist _).length_le
  have : s.data.size = s.size := rfl
  simp at h1
  omega

theorem one_size (s : ByteArray) (a : UInt8) (hs : s.size ≤ 20000) : s.size + (⟨#[a]⟩ : ByteArray).size ≤ 4611686018427387904 := by
  rw [show (⟨#[a]⟩ : ByteArray).size = 1 from rfl]
  omega

theorem Moves.setNew {q p : Nat} {w w' : World} (h : Moves q p w w') (hq : q < w.heap.size) {a : Addr} (ha : w.heap.size ≤ a.block) (v : Value) : Moves q p w (w'.setCell a v) :=
  ⟨by
    unfold PlaceAt
    rw [Below.heap_setCell _ _ _ _ (by omega)]
    exact h.place, h.os, h.tape, h.output, by simpa [World.setCell] using h.size, fun k hk hkq => by
    rw [Below.heap_setCell _ _ _ _ (by omega)]
    exact h.block k hk hkq⟩

theorem Moves.drew {q p : Nat} {w w' : World} (h : Moves q p w w') : Moves q p w w'.drew := ⟨h.place, h.os, h.tape, h.output, h.size, h.block⟩

theorem frozen5 {w : World} {n : Nat} {cs : Array Value} (h : w.heap[n]? = some (.cells cs 25 (0, 0))) :
    w.frozen? ⟨n, 0, none⟩ = false ∧ w.frozen? ⟨n, 1, none⟩ = false ∧ w.frozen? ⟨n, 2, none⟩ = false ∧ w.frozen? ⟨n, 3, none⟩ = false ∧ w.frozen? ⟨n, 4, none⟩ = false :=
  ⟨Lib.frozen_of_heap h 0, Lib.frozen_of_heap h 1, Lib.frozen_of_heap h 2, Lib.frozen_of_heap h 3, Lib.frozen_of_heap h 4⟩

theorem box5 {w : World} {n : Nat} {a b c d e : Value} (h : w.heap[n]? = some (.cells #[a, b, c, d, e] 25 (0, 0))) :
    w.cell? ⟨n, 0, none⟩ = some a ∧ w.cell? ⟨n, 1, none⟩ = some b ∧ w.cell? ⟨n, 2, none⟩ = some c ∧ w.cell? ⟨n, 3, none⟩ = some d ∧ w.cell? ⟨n, 4, none⟩ = some e := by
  refine ⟨?_, ?_, ?_, ?_, ?_⟩ <;> rw [Lib.cell_of_heap h] <;> rfl

/-- The zero value's block. -/
abbrev zeroV : Array Value := #[.int .i64 0, .int .i64 0, .string ⟨#[]⟩, .slice none 0 0, .slice none 0 0]

theorem box_later2 {w w' : World} {n : Nat} {o : Obj} (h : w.heap[n]? = some o) (hb : Below w.heap.size w w') : w'.heap[n]? = some o := by
  have hlt : n < w.heap.size := by
    rcases Nat.lt_or_ge n w.heap.size with h' | h'
    · exact h'
    · simp [Array.getElem?_eq_none h'] at h
  rw [hb.block n hlt]; exact h

set_option maxHeartbeats 2000000 in
set_option maxRecDepth 100000 in
theorem readNumber_zero (s : ByteArray) (q p p1 : Nat) (v : Int) (w : World) (h : PlaceAt q p w) (hs : s.size ≤ 20000) (hp1 : p1 = if Lib.hasPrefix (s.data.toList.drop p) [45] then p + 1 else p) (hle : p1 < s.size) (hp0 : p ≤ s.size)
    (hz : Lib.hasPrefix (s.data.toList.drop p1) [48] = true) (hv : Lib.parseIntB 64 (s.extract p (p1 + 1)).data.toList = .ok v) :
    Calls Tryd.prog 83 #[.string s, .pointer (some ⟨q, 0, none⟩)] w fun e w' => e = .returned (.tuple #[.agg #[.int .i64 3, .int .i64 v, .string ⟨#[]⟩, .slice none 0 0, .slice none 0 0], .bool true]) ∧ Moves q (p1 + 1) w w' := by
  have hqlt := h.lt
  have T1 := Lib.hid (fun W (hW : PlaceAt q p W) => take_any s ⟨#[45]⟩ q p W hW hp0 (one_size s _ hs))
  have T2 := Lib.hid (fun W (hW : PlaceAt q p1 W) => take_any s ⟨#[48]⟩ q p1 W hW (by omega) (one_size s _ hs))
  have PI := Lib.hid (fun W => Tryd.strconv_ParseInt_10_at64_ok (s.extract p (p1 + 1)) (by simp; omega) v hv W)
  rw [show (⟨#[45]⟩ : ByteArray).data.toList = [45] from rfl, show (⟨#[45]⟩ : ByteArray).size = 1 from rfl, ← hp1] at T1
  rw [show (⟨#[48]⟩ : ByteArray).data.toList = [48] from rfl, show (⟨#[48]⟩ : ByteArray).size = 1 from rfl, hz, if_pos rfl] at T2
  obtain ⟨V, hV⟩ : ∃ V, Lib.hasPrefix (s.data.toList.drop p) [45] = V := ⟨_, rfl⟩
  rw [hV] at T1
  have hpp1 : p ≤ p1 := by rw [hp1]; split <;> omega
  have HPL := Lib.hid h
  have hw0 : Moves q p w (w.alloc (.cells zeroV 25)) := moves_below h ((Below.refl w.heap.size w).alloc (Nat.le_refl _) _)
  have HW0 := Lib.hid hw0
  have hbx := box_new w zeroV
  have HBX := Lib.hid hbx
  have hc := hw0.place.cell
  clear hv hz hV h hp1 hw0 hbx
  unfold zeroV at HW0 HBX hc
  go_enter Tryd.func83, Tryd.ntmps83
  go_wp2_with fail
  refine (T1.out _ HW0.out.place).mono ?_
  rintro e w1 ⟨rfl, hm1⟩
  have HM1 := Lib.hid (HW0.out.trans hm1)
  have HB1 := Lib.hid (hm1.cell HBX.out (by omega))
  clear hm1 hc
  go_wp2_with fail
  refine (T2.out _ HM1.out.place).mono ?_
  rintro e w2 ⟨rfl, hm2⟩
  have HM2 := Lib.hid (HM1.out.trans hm2)
  have HB2 := Lib.hid (hm2.cell HB1.out (by omega))
  have hc2 := hm2.place.cell
  clear hm2
  go_wp2_with fail
  refine (PI.out _).mono ?_
  rintro e w3 ⟨rfl, hw3⟩
  have hb3 : Below w2.heap.size w2 w3 := by
    rcases hw3 with rfl | ⟨t, rfl⟩
    · exact Below.refl _ _
    · exact Lib.bytesWorld_below _ _ _
  have HM3 := Lib.hid (HM2.out.trans (moves_below HM2.out.place hb3))
  have HB3 := Lib.hid (box_later2 HB2.out hb3)
  obtain ⟨a0, a1, a2, a3, a4⟩ := box5 HB3.out
  obtain ⟨f0, f1, f2, f3, f4⟩ := frozen5 HB3.out
  go_wp2_with fail
  go_region
  all_goals
    have HM4 := Lib.hid (((((HM3.out.setNew hqlt (a := ⟨w.heap.size, 0, none⟩) (Nat.le_refl _) (.int .i64 3)).setNew hqlt (a := ⟨w.heap.size, 1, none⟩) (Nat.le_refl _) (.int .i64 v)).setNew hqlt (a := ⟨w.heap.size, 2, none⟩) (Nat.le_refl _) (.string ⟨#[]⟩)).setNew hqlt (a := ⟨w.heap.size, 3, none⟩) (Nat.le_refl _) (.slice none 0 0)).setNew hqlt (a := ⟨w.heap.size, 4, none⟩) (Nat.le_refl _) (.slice none 0 0)).drew
    go_wp2_with fail
    refine bodyPost_ret (v := .tuple #[.agg #[.int .i64 3, .int .i64 v, .string ⟨#[]⟩, .slice none 0 0, .slice none 0 0], .bool true]) (by simp [results, Tryd.results83, go_sem, a0, a1, a2, a3, a4]) rfl ⟨rfl, HM4.out⟩
set_option maxHeartbeats 2000000 in
set_option maxRecDepth 100000 in
theorem readNumber_digits (s : ByteArray) (q p p1 p2 : Nat) (v : Int) (w : World) (h : PlaceAt q p w) (hs : s.size ≤ 20000) (hp1 : p1 = if Lib.hasPrefix (s.data.toList.drop p) [45] then p + 1 else p) (hle : p1 ≤ s.size) (hp2 : digitsEnd s p1 = p2) (hp0 : p ≤ s.size)
    (hz : Lib.hasPrefix (s.data.toList.drop p1) [48] = false) (hv : Lib.parseIntB 64 (s.extract p p2).data.toList = .ok v) :
    Calls Tryd.prog 83 #[.string s, .pointer (some ⟨q, 0, none⟩)] w fun e w' => e = .returned (.tuple #[.agg #[.int .i64 3, .int .i64 v, .string ⟨#[]⟩, .slice none 0 0, .slice none 0 0], .bool true]) ∧ Moves q p2 w w' := by
  have hqlt := h.lt
  have T1 := Lib.hid (fun W (hW : PlaceAt q p W) => take_any s ⟨#[45]⟩ q p W hW hp0 (one_size s _ hs))
  have T2 := Lib.hid (fun W (hW : PlaceAt q p1 W) => take_any s ⟨#[48]⟩ q p1 W hW (by omega) (one_size s _ hs))
  have PI := Lib.hid (fun W => Tryd.strconv_ParseInt_10_at64_ok (s.extract p p2) (by simp; omega) v hv W)
  rw [show (⟨#[45]⟩ : ByteArray).data.toList = [45] from rfl, show (⟨#[45]⟩ : ByteArray).size = 1 from rfl, ← hp1] at T1
  rw [show (⟨#[48]⟩ : ByteArray).data.toList = [48] from rfl, show (⟨#[48]⟩ : ByteArray).size = 1 from rfl, hz, if_neg (by simp)] at T2
  obtain ⟨V, hV⟩ : ∃ V, Lib.hasPrefix (s.data.toList.drop p) [45] = V := ⟨_, rfl⟩
  rw [hV] at T1
  have hpp1 : p ≤ p1 := by rw [hp1]; split <;> omega
  have hle2 := digitsEnd_le hle
  rw [hp2] at hle2
  have HP2 := Lib.hid hp2
  have HPL := Lib.hid h
  have hw0 : Moves q p w (w.alloc (.cells zeroV 25)) := moves_below h ((Below.refl w.heap.size w).alloc (Nat.le_refl _) _)
  have HW0 := Lib.hid hw0
  have hbx := box_new w zeroV
  have HBX := Lib.hid hbx
  have hc := hw0.place.cell
  clear hv hz hV h hp1 hw0 hbx hp2
  unfold zeroV at HW0 HBX hc
  go_enter Tryd.func83, Tryd.ntmps83
  go_wp2_with fail
  refine (T1.out _ HW0.out.place).mono ?_
  rintro e w1 ⟨rfl, hm1⟩
  have HM1 := Lib.hid (HW0.out.trans hm1)
  have HB1 := Lib.hid (hm1.cell HBX.out (by omega))
  clear hm1 hc
  go_wp2_with fail
  refine (T2.out _ HM1.out.place).mono ?_
  rintro e w2 ⟨rfl, hm2⟩
  have HM2 := Lib.hid (HM1.out.trans hm2)
  have HB2 := Lib.hid (hm2.cell HB1.out (by omega))
  clear hm2
  go_wp2_with fail
  go_loopg [] (s.size - p1) (fun g wr => ∃ j : Nat, j + g = s.size ∧ p1 ≤ j ∧ digitsEnd s j = p2 ∧ Moves q j w wr ∧ wr.heap[w.heap.size]? = some (.cells #[.int .i64 0, .int .i64 0, .string ⟨#[]⟩, .slice none 0 0, .slice none 0 0] 25 (0, 0)))
  case atStart => exact ⟨p1, by omega, Nat.le_refl _, HP2.out, HM2.out, HB2.out⟩
  case round =>
    obtain ⟨j, hj, hpj, hde, hm, hbox⟩ := hrel
    have HJ := Lib.hid hj
    have HDE := Lib.hid hde
    have HM := Lib.hid hm
    have HBO := Lib.hid hbox
    have hc := hm.place.cell
    have hf := hm.place.frozen
    clear hj hde hm hbox
    by_cases hlt : j < s.size
    · have hx := fun W => at_string s j hlt W
      have hd1 := digitsEnd_here (s := s) (p := j) hlt
      have hd2 := digitsEnd_next (s := s) (p := j) hlt
      obtain ⟨c, hcc⟩ : ∃ c, s[j]'hlt = c := ⟨_, rfl⟩
      rw [hcc] at hx hd1 hd2
      have q1 : IntKind.i64.wrap ((j : Int) + 1) = (j : Int) + 1 := w64r (by omega) (by omega)
      obtain ⟨k, hk⟩ : ∃ k : Nat, c.toNat = k := ⟨_, rfl⟩
      rw [hk] at hx
      by_cases hdig : 48 ≤ k ∧ k ≤ 57
      · have HD := Lib.hid ((hd2 (by unfold isDigit; rw [hk]; exact decide_eq_true hdig)).symm.trans HDE.out)
        have g1 : (48 : Int) ≤ (k : Int) := by omega
        have g2 : (k : Int) ≤ 57 := by omega
        clear hd1 hd2 hcc hk hdig
        go_wp2_with fail
        go_roundg (gk - 1)
        case measure => have := HJ.out; omega
        case rel => exact ⟨j + 1, by have := HJ.out; omega, by omega, HD.out, HM.out.trans (moves_set HM.out.place (j + 1)), (moves_set HM.out.place (j + 1)).cell HBO.out (by omega)⟩
      · have HD := Lib.hid ((hd1 (by unfold isDigit; rw [hk]; exact decide_eq_false hdig)).symm.trans HDE.out)
        clear hd1 hd2 hcc hk
        have hdig' : ¬ (48 : Int) ≤ (k : Int) ∨ ((48 : Int) ≤ (k : Int) ∧ ¬ (k : Int) ≤ 57) := by omega
        clear hdig
        obtain rfl := HD.out
        rcases hdig' with g1 | ⟨g1, g2⟩
        iterate 2
          · go_wp2_with fail
            refine (PI.out _).mono ?_
            rintro e w3 ⟨rfl, hw3⟩
            have hb3 : Below wr.heap.size wr w3 := by
              rcases hw3 with rfl | ⟨t, rfl⟩
              · exact Below.refl _ _
              · exact Lib.bytesWorld_below _ _ _
            have HM3 := Lib.hid (HM.out.trans (moves_below HM.out.place hb3))
            have HB3 := Lib.hid (box_later2 HBO.out hb3)
            obtain ⟨a0, a1, a2, a3, a4⟩ := box5 HB3.out
            obtain ⟨f0, f1, f2, f3, f4⟩ := frozen5 HB3.out
            go_wp2_with fail
            go_region
            all_goals
              have HM4 := Lib.hid (((((HM3.out.setNew hqlt (a := ⟨w.heap.size, 0, none⟩) (Nat.le_refl _) (.int .i64 3)).setNew hqlt (a := ⟨w.heap.size, 1, none⟩) (Nat.le_refl _) (.int .i64 v)).setNew hqlt (a := ⟨w.heap.size, 2, none⟩) (Nat.le_refl _) (.string ⟨#[]⟩)).setNew hqlt (a := ⟨w.heap.size, 3, none⟩) (Nat.le_refl _) (.slice none 0 0)).setNew hqlt (a := ⟨w.heap.size, 4, none⟩) (Nat.le_refl _) (.slice none 0 0)).drew
              go_wp2_with fail
              refine bodyPost_ret (v := .tuple #[.agg #[.int .i64 3, .int .i64 v, .string ⟨#[]⟩, .slice none 0 0, .slice none 0 0], .bool true]) (by simp [results, Tryd.results83, go_sem, a0, a1, a2, a3, a4]) rfl ⟨rfl, HM4.out⟩
    · obtain rfl := (digitsEnd_done hlt).symm.trans HDE.out
      go_wp2_with fail
      refine (PI.out _).mono ?_
      rintro e w3 ⟨rfl, hw3⟩
      have hb3 : Below wr.heap.size wr w3 := by
        rcases hw3 with rfl | ⟨t, rfl⟩
        · exact Below.refl _ _
        · exact Lib.bytesWorld_below _ _ _
      have HM3 := Lib.hid (HM.out.trans (moves_below HM.out.place hb3))
      have HB3 := Lib.hid (box_later2 HBO.out hb3)
      obtain ⟨a0, a1, a2, a3, a4⟩ := box5 HB3.out
      obtain ⟨f0, f1, f2, f3, f4⟩ := frozen5 HB3.out
      go_wp2_with fail
      go_region
      all_goals
        have HM4 := Lib.hid (((((HM3.out.setNew hqlt (a := ⟨w.heap.size, 0, none⟩) (Nat.le_refl _) (.int .i64 3)).setNew hqlt (a := ⟨w.heap.size, 1, none⟩) (Nat.le_refl _) (.int .i64 v)).setNew hqlt (a := ⟨w.heap.size, 2, none⟩) (Nat.le_refl _) (.string ⟨#[]⟩)).setNew hqlt (a := ⟨w.heap.size, 3, none⟩) (Nat.le_refl _) (.slice none 0 0)).setNew hqlt (a := ⟨w.heap.size, 4, none⟩) (Nat.le_refl _) (.slice none 0 0)).drew
        go_wp2_with fail
        refine bodyPost_ret (v := .tuple #[.agg #[.int .i64 3, .int .i64 v, .string ⟨#[]⟩, .slice none 0 0, .slice none 0 0], .bool true]) (by simp [results, Tryd.results83, go_sem, a0, a1, a2, a3, a4]) rfl ⟨rfl, HM4.out⟩
end Go.Proofs.YtijibjdgnaphiaaDoor
