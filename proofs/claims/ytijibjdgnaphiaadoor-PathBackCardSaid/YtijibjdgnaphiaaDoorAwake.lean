/- The program is awake (a number is formed); how deep a value is, by the program's and the document's calls. -/
import Derived.Test.YtijibjdgnaphiaaDoorFew
namespace Go.Proofs.YtijibjdgnaphiaaDoor
open Go.ChangeShapes Go.WideShapes Go.Deep Go.RowKit

theorem awake_any (w : World) : Calls Tryd.prog 13 #[] w fun e w' => e = .returned (.bool true) ∧ Below w.heap.size w w' := by
  go_enter Tryd.func13, Tryd.ntmps13
  go_wp2
  go_ret
  exact ⟨rfl, ((Below.refl _ _).alloc (Nat.le_refl _) _).alloc (by simp) _⟩

theorem Depth_any (t : AV) (w : World) (hin : t.In w) : Calls Tryd.prog 17 #[t.val] w fun e w' => e = .returned (.int .i64 (AV.dep t 7 : Nat)) ∧ Below w.heap.size w w' := by
  have CALL := Lib.hid (fun W hW => jdepth_any t 7 W hW (by omega) (by omega))
  obtain ⟨k, n, s, na, nc, ns, xa, xc, xs⟩ := t
  simp only [AV.val, AV.row] at CALL ⊢
  go_enter Tryd.func17, Tryd.ntmps17
  go_wp2_with fail
  refine (CALL.out _ (hin.below ((Below.refl w.heap.size w).alloc (Nat.le_refl _) _) (Nat.le_refl _))).mono ?_
  rintro e w1 ⟨rfl, hb1⟩
  have hb2 : Below w.heap.size w w1 := ((Below.refl w.heap.size w).alloc (Nat.le_refl _) _).trans (hb1.mono (by simp))
  go_wp2_with fail
  go_ret
  exact ⟨rfl, hb2⟩

theorem rDepth_any (t : AV) (w : World) (hin : t.In w) : Calls Tryd.prog 18 #[t.val] w fun e w' => e = .returned (.int .i64 (AV.dep t 7 : Nat)) ∧ Below w.heap.size w w' := by
  have CALL := Lib.hid (fun W hW => rdepth_any t 7 W hW (by omega) (by omega))
  obtain ⟨k, n, s, na, nc, ns, xa, xc, xs⟩ := t
  simp only [AV.val, AV.row] at CALL ⊢
  go_enter Tryd.func18, Tryd.ntmps18
  go_wp2_with fail
  refine (CALL.out _ (hin.below ((Below.refl w.heap.size w).alloc (Nat.le_refl _) _) (Nat.le_refl _))).mono ?_
  rintro e w1 ⟨rfl, hb1⟩
  have hb2 : Below w.heap.size w w1 := ((Below.refl w.heap.size w).alloc (Nat.le_refl _) _).trans (hb1.mono (by simp))
  go_wp2_with fail
  go_ret
  exact ⟨rfl, hb2⟩
end Go.Proofs.YtijibjdgnaphiaaDoor
