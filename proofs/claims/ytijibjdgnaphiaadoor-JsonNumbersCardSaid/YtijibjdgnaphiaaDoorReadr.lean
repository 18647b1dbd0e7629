/- Reading a text that is a number with blanks around it; under Go's own limit of length. -/
import Derived.Test.YtijibjdgnaphiaaDoorReadb
namespace Go.Proofs.YtijibjdgnaphiaaDoor
open Go.ChangeShapes Go.WideShapes Go.Deep Go.RowKit Go.Lib

theorem num_in (v : Int) (h0 : -9223372036854775808 ≤ v) (h1 : v ≤ 9223372036854775807) (w : World) : (AV.mk 3 v ⟨#[]⟩ none 0 [] none 0 []).In w := by
  rw [AV.In]
  refine ⟨rfl, ?_, by simp [ByteArray.size, maxLen], by simp, by simp [maxLen], by simp, by simp [maxLen], by simp, .inl rfl, (fun b o e => by cases e), .inl rfl⟩
  unfold Lit.wf
  simp only [Bool.and_eq_true, decide_eq_true_eq]
  exact ⟨h0, h1⟩

theorem num_formed (v : Int) : AV.formedJ (AV.mk 3 v ⟨#[]⟩ none 0 [] none 0 []) 6 = true := by
  rw [AV.formedJ]
  simp

set_option maxHeartbeats 2000000 in
set_option maxRecDepth 100000 in
theorem Read_num (s : ByteArray) (v : Int) (w : World) (hs : s.size ≤ 20000) (h0 : -9223372036854775808 ≤ v) (h1 : v ≤ 9223372036854775807) (hT : Tabs w)
    (VAL : Hid (∀ q W, PlaceAt q 0 W → Calls Tryd.prog 40 #[.string s, .pointer (some ⟨q, 0, none⟩)] W fun e w' => e = .returned (.tuple #[.agg #[.int .i64 3, .int .i64 v, .string ⟨#[]⟩, .slice none 0 0, .slice none 0 0], .bool true]) ∧ Moves q s.size W w')) :
    Calls Tryd.prog 21 #[.string s] w fun e w' => e = .returned (.tuple #[.agg #[.int .i64 3, .int .i64 v, .string ⟨#[]⟩, .slice none 0 0, .slice none 0 0], .int .i64 0]) ∧ Below w.heap.size w w' := by
  have FORM := Lib.hid (fun W (hb : Below w.heap.size w W) => Formed_any (AV.mk 3 v ⟨#[]⟩ none 0 [] none 0 []) W (num_in v h0 h1 W) (hT.later hb))
  rw [num_formed] at FORM
  simp only [AV.val, AV.row, List.length_nil] at FORM
  have hlt : ¬ (20000 : Int) < (s.size : Int) := by omega
  have HB0 := Lib.hid (box_new w #[.int .i64 0, .int .i64 0, .string ⟨#[]⟩, .slice none 0 0, .slice none 0 0])
  clear hT h0 h1
  go_enter Tryd.func21, Tryd.ntmps21
  go_wp2_with fail
  have hpl : PlaceAt (w.heap.size + 1) 0 ((w.alloc (.cells #[.int .i64 0, .int .i64 0, .string ⟨#[]⟩, .slice none 0 0, .slice none 0 0] 25)).alloc (.cells #[.int .i64 0] 3)) := by
    have := heap_alloc_new (w.alloc (.cells #[.int .i64 0, .int .i64 0, .string ⟨#[]⟩, .slice none 0 0, .slice none 0 0] 25)) (.cells #[.int .i64 0] 3)
    rw [show (w.alloc (.cells #[.int .i64 0, .int .i64 0, .string ⟨#[]⟩, .slice none 0 0, .slice none 0 0] 25)).heap.size = w.heap.size + 1 by simp] at this
    exact this
  refine (VAL.out _ _ hpl).mono ?_
  rintro e w1 ⟨rfl, hm⟩
  have hb1 : Below w.heap.size w w1 := (two_below w _ _).trans (hm.below (by omega) (by simp; omega))
  have HPL := Lib.hid hm.place
  have HB1 := Lib.hid (hm.cell ((Lib.alloc_old _ _ _ (by simp)).trans HB0.out) (by omega))
  have hz : w.heap.size + 1 < w1.heap.size := hm.place.lt
  clear hm hpl
  have hc := (show PlaceAt (w.heap.size + 1) s.size (w1.alloc (.cells #[.int .i64 3, .int .i64 v, .string ⟨#[]⟩, .slice none 0 0, .slice none 0 0] 25)) from (Lib.alloc_old _ _ _ hz).trans HPL.out).cell
  go_wp2_with fail
  refine (FORM.out _ (hb1.alloc hb1.size _)).mono ?_
  rintro e w2 ⟨rfl, hq2⟩
  have hb2 : Below w.heap.size w w2 := (hb1.alloc hb1.size _).trans (hq2.mono (by have := hb1.size; simp; omega))
  have hbx := box_later2 (box_new w1 #[.int .i64 3, .int .i64 v, .string ⟨#[]⟩, .slice none 0 0, .slice none 0 0]) hq2
  have hbr := box_later2 ((Lib.alloc_old w1 (.cells #[.int .i64 3, .int .i64 v, .string ⟨#[]⟩, .slice none 0 0, .slice none 0 0] 25) _ (by omega)).trans HB1.out) hq2
  obtain ⟨b0, b1, b2, b3, b4⟩ := box5 hbx
  obtain ⟨a0, a1, a2, a3, a4⟩ := box5 hbr
  obtain ⟨f0, f1, f2, f3, f4⟩ := frozen5 hbr
  clear hbx hbr hq2 hc
  go_wp2_with fail
  have HB3 := Lib.hid (((((hb2.setCell (p := ⟨w.heap.size, 0, none⟩) (Nat.le_refl _) (.int .i64 3)).setCell (p := ⟨w.heap.size, 1, none⟩) (Nat.le_refl _) (.int .i64 v)).setCell (p := ⟨w.heap.size, 2, none⟩) (Nat.le_refl _) (.string ⟨#[]⟩)).setCell (p := ⟨w.heap.size, 3, none⟩) (Nat.le_refl _) (.slice none 0 0)).setCell (p := ⟨w.heap.size, 4, none⟩) (Nat.le_refl _) (.slice none 0 0))
  refine bodyPost_ret (v := .tuple #[.agg #[.int .i64 3, .int .i64 v, .string ⟨#[]⟩, .slice none 0 0, .slice none 0 0], .int .i64 0]) (by simp [results, Tryd.results21, go_sem, a0, a1, a2, a3, a4]) rfl ⟨rfl, HB3.out⟩
end Go.Proofs.YtijibjdgnaphiaaDoor
