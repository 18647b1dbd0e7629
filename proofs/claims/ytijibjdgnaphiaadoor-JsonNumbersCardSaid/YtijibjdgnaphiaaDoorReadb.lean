/- Reading a value that is a number; under Go's own limit of length. -/
import Derived.Test.YtijibjdgnaphiaaDoorReadn
namespace Go.Proofs.YtijibjdgnaphiaaDoor
open Go.ChangeShapes Go.WideShapes Go.Deep Go.RowKit Go.Lib

/-- No word begins here. -/
def Unlike (s : ByteArray) (p : Nat) (word : List UInt8) : Prop := Lib.hasPrefix (s.data.toList.drop p) word = false

theorem take_not (s : ByteArray) (word : List UInt8) (q p : Nat) (hp : p ≤ s.size) (hs : s.size ≤ 20000) (hw : word.length ≤ 10) (h : Unlike s p word) :
    Hid (∀ W, PlaceAt q p W → Calls Tryd.prog 79 #[.string s, .pointer (some ⟨q, 0, none⟩), .string ⟨word.toArray⟩] W fun e w' => e = .returned (.bool false) ∧ Moves q p W w') := Lib.hid (fun W hW => by
  have e : (⟨word.toArray⟩ : ByteArray).size = word.length := by simp [ByteArray.size]
  have := take_any s ⟨word.toArray⟩ q p W hW hp (by rw [e]; omega)
  have e2 : Lib.hasPrefix (s.data.toList.drop p) (⟨word.toArray⟩ : ByteArray).data.toList = false := h
  rw [e2] at this
  simpa using this)

set_option maxHeartbeats 2000000 in
set_option maxRecDepth 100000 in
theorem readBare_num (s : ByteArray) (q p p2 : Nat) (v : Int) (w : World) (h : PlaceAt q p w) (hs : s.size ≤ 20000) (hp : p ≤ s.size)
    (u0 : Unlike s p [110, 117, 108, 108])
    (u1 : Unlike s p [102, 97, 108, 115, 101])
    (u2 : Unlike s p [116, 114, 117, 101])
    (u3 : Unlike s p [34])
    (u4 : Unlike s p [91])
    (u5 : Unlike s p [123])
    (NUM : Hid (∀ W, PlaceAt q p W → Calls Tryd.prog 83 #[.string s, .pointer (some ⟨q, 0, none⟩)] W fun e w' => e = .returned (.tuple #[.agg #[.int .i64 3, .int .i64 v, .string ⟨#[]⟩, .slice none 0 0, .slice none 0 0], .bool true]) ∧ Moves q p2 W w')) :
    Calls Tryd.prog 62 #[.string s, .pointer (some ⟨q, 0, none⟩)] w fun e w' => e = .returned (.tuple #[.agg #[.int .i64 3, .int .i64 v, .string ⟨#[]⟩, .slice none 0 0, .slice none 0 0], .bool true]) ∧ Moves q p2 w w' := by
  have T0 := take_not s [110, 117, 108, 108] q p hp hs (by decide) u0
  have T1 := take_not s [102, 97, 108, 115, 101] q p hp hs (by decide) u1
  have T2 := take_not s [116, 114, 117, 101] q p hp hs (by decide) u2
  have T3 := take_not s [34] q p hp hs (by decide) u3
  have T4 := take_not s [91] q p hp hs (by decide) u4
  have T5 := take_not s [123] q p hp hs (by decide) u5
  have hqlt := h.lt
  have HM0 := Lib.hid (moves_below h ((Below.refl w.heap.size w).alloc (Nat.le_refl _) (.cells #[.int .i64 0, .int .i64 0, .string ⟨#[]⟩, .slice none 0 0, .slice none 0 0] 25)))
  have HB0 := Lib.hid (box_new w #[.int .i64 0, .int .i64 0, .string ⟨#[]⟩, .slice none 0 0, .slice none 0 0])
  clear h
  go_enter Tryd.func62, Tryd.ntmps62
  go_wp2_with fail
  refine (T0.out _ HM0.out.place).mono ?_
  rintro e w1 ⟨rfl, hm⟩
  have HM1 := Lib.hid (HM0.out.trans hm)
  have HB1 := Lib.hid (hm.cell HB0.out (by omega))
  clear hm
  go_wp2_with fail
  refine (T1.out _ HM1.out.place).mono ?_
  rintro e w2 ⟨rfl, hm⟩
  have HM2 := Lib.hid (HM1.out.trans hm)
  have HB2 := Lib.hid (hm.cell HB1.out (by omega))
  clear hm
  go_wp2_with fail
  refine (T2.out _ HM2.out.place).mono ?_
  rintro e w3 ⟨rfl, hm⟩
  have HM3 := Lib.hid (HM2.out.trans hm)
  have HB3 := Lib.hid (hm.cell HB2.out (by omega))
  clear hm
  go_wp2_with fail
  refine (T3.out _ HM3.out.place).mono ?_
  rintro e w4 ⟨rfl, hm⟩
  have HM4 := Lib.hid (HM3.out.trans hm)
  have HB4 := Lib.hid (hm.cell HB3.out (by omega))
  clear hm
  go_wp2_with fail
  refine (T4.out _ HM4.out.place).mono ?_
  rintro e w5 ⟨rfl, hm⟩
  have HM5 := Lib.hid (HM4.out.trans hm)
  have HB5 := Lib.hid (hm.cell HB4.out (by omega))
  clear hm
  go_wp2_with fail
  refine (T5.out _ HM5.out.place).mono ?_
  rintro e w6 ⟨rfl, hm⟩
  have HM6 := Lib.hid (HM5.out.trans hm)
  have HB6 := Lib.hid (hm.cell HB5.out (by omega))
  clear hm
  go_wp2_with fail
  refine (NUM.out _ HM6.out.place).mono ?_
  rintro e w7 ⟨rfl, hm⟩
  have HM7 := Lib.hid (HM6.out.trans hm)
  have HB7 := Lib.hid (hm.cell HB6.out (by omega))
  clear hm
  obtain ⟨a0, a1, a2, a3, a4⟩ := box5 HB7.out
  obtain ⟨f0, f1, f2, f3, f4⟩ := frozen5 HB7.out
  go_wp2_with fail
  have HM8 := Lib.hid ((((((HM7.out.setNew hqlt (a := ⟨w.heap.size, 0, none⟩) (Nat.le_refl _) (.int .i64 3)).setNew hqlt (a := ⟨w.heap.size, 1, none⟩) (Nat.le_refl _) (.int .i64 v)).setNew hqlt (a := ⟨w.heap.size, 2, none⟩) (Nat.le_refl _) (.string ⟨#[]⟩)).setNew hqlt (a := ⟨w.heap.size, 3, none⟩) (Nat.le_refl _) (.slice none 0 0)).setNew hqlt (a := ⟨w.heap.size, 4, none⟩) (Nat.le_refl _) (.slice none 0 0)))
  refine bodyPost_ret (v := .tuple #[.agg #[.int .i64 3, .int .i64 v, .string ⟨#[]⟩, .slice none 0 0, .slice none 0 0], .bool true]) (by simp [results, Tryd.results62, go_sem, a0, a1, a2, a3, a4]) rfl ⟨rfl, HM8.out⟩

set_option maxHeartbeats 2000000 in
set_option maxRecDepth 100000 in
theorem readValue_num (s : ByteArray) (q p p1 p2 p3 : Nat) (v : Int) (w : World) (h : PlaceAt q p w) (hs : s.size ≤ 20000) (hp : p ≤ s.size) (h1 : skip s p = p1) (hp2 : p2 ≤ s.size) (h3 : skip s p2 = p3)
    (BARE : Hid (∀ W, PlaceAt q p1 W → Calls Tryd.prog 62 #[.string s, .pointer (some ⟨q, 0, none⟩)] W fun e w' => e = .returned (.tuple #[.agg #[.int .i64 3, .int .i64 v, .string ⟨#[]⟩, .slice none 0 0, .slice none 0 0], .bool true]) ∧ Moves q p2 W w')) :
    Calls Tryd.prog 40 #[.string s, .pointer (some ⟨q, 0, none⟩)] w fun e w' => e = .returned (.tuple #[.agg #[.int .i64 3, .int .i64 v, .string ⟨#[]⟩, .slice none 0 0, .slice none 0 0], .bool true]) ∧ Moves q p3 w w' := by
  have S1 := Lib.hid (fun W (hW : PlaceAt q p W) => skipBlanks_any s q p W hW hp (by omega))
  have S2 := Lib.hid (fun W (hW : PlaceAt q p2 W) => skipBlanks_any s q p2 W hW hp2 (by omega))
  rw [h1] at S1
  rw [h3] at S2
  have hqlt := h.lt
  have HM0 := Lib.hid (moves_below h ((Below.refl w.heap.size w).alloc (Nat.le_refl _) (.cells #[.int .i64 0, .int .i64 0, .string ⟨#[]⟩, .slice none 0 0, .slice none 0 0] 25)))
  have HB0 := Lib.hid (box_new w #[.int .i64 0, .int .i64 0, .string ⟨#[]⟩, .slice none 0 0, .slice none 0 0])
  clear h h1 h3
  go_enter Tryd.func40, Tryd.ntmps40
  go_wp2_with fail
  refine (S1.out _ HM0.out.place).mono ?_
  rintro e w1 ⟨rfl, hm⟩
  have HM1 := Lib.hid (HM0.out.trans hm)
  have HB1 := Lib.hid (hm.cell HB0.out (by omega))
  clear hm
  go_wp2_with fail
  refine (BARE.out _ HM1.out.place).mono ?_
  rintro e w2 ⟨rfl, hm⟩
  have HM2 := Lib.hid (HM1.out.trans hm)
  have HB2 := Lib.hid (hm.cell HB1.out (by omega))
  clear hm
  have hz2 : w.heap.size < w2.heap.size := by
    rcases Nat.lt_or_ge w.heap.size w2.heap.size with h' | h'
    · exact h'
    · have := HB2.out; simp [Array.getElem?_eq_none h'] at this
  have HX : Hid (∀ o, PlaceAt q p2 (w2.alloc o) ∧ Moves q p2 w (w2.alloc o) ∧ (w2.alloc o).heap[w.heap.size]? = some (.cells #[.int .i64 0, .int .i64 0, .string ⟨#[]⟩, .slice none 0 0, .slice none 0 0] 25 (0, 0))) := Lib.hid (fun o => by
    have k := moves_below HM2.out.place ((Below.refl w2.heap.size w2).alloc (Nat.le_refl _) o)
    exact ⟨k.place, HM2.out.trans k, (Lib.alloc_old w2 o _ hz2).trans HB2.out⟩)
  have hqlt2 : q < w2.heap.size := by omega
  go_wp2_with fail
  refine (S2.out _ (HX.out _).1).mono ?_
  rintro e w3 ⟨rfl, hm⟩
  have HM3 := Lib.hid ((HX.out _).2.1.trans hm)
  have HB3 := Lib.hid (hm.cell (HX.out _).2.2 (by omega))
  have hbx := hm.cell (box_new w2 _) (by omega)
  obtain ⟨b0, b1, b2, b3, b4⟩ := box5 hbx
  clear hm hbx
  obtain ⟨a0, a1, a2, a3, a4⟩ := box5 HB3.out
  obtain ⟨f0, f1, f2, f3, f4⟩ := frozen5 HB3.out
  go_wp2_with fail
  have HM8 := Lib.hid ((((((HM3.out.setNew hqlt (a := ⟨w.heap.size, 0, none⟩) (Nat.le_refl _) (.int .i64 3)).setNew hqlt (a := ⟨w.heap.size, 1, none⟩) (Nat.le_refl _) (.int .i64 v)).setNew hqlt (a := ⟨w.heap.size, 2, none⟩) (Nat.le_refl _) (.string ⟨#[]⟩)).setNew hqlt (a := ⟨w.heap.size, 3, none⟩) (Nat.le_refl _) (.slice none 0 0)).setNew hqlt (a := ⟨w.heap.size, 4, none⟩) (Nat.le_refl _) (.slice none 0 0)))
  refine bodyPost_ret (v := .tuple #[.agg #[.int .i64 3, .int .i64 v, .string ⟨#[]⟩, .slice none 0 0, .slice none 0 0], .bool true]) (by simp [results, Tryd.results40, go_sem, a0, a1, a2, a3, a4]) rfl ⟨rfl, HM8.out⟩
end Go.Proofs.YtijibjdgnaphiaaDoor
