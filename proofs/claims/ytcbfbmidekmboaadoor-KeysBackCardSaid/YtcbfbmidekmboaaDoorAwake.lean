/- How deep a value is, by the document's call; no condition. -/
import Derived.Test.YtcbfbmidekmboaaDoorFew
namespace Go.Proofs.YtcbfbmidekmboaaDoor
open Go.ChangeShapes Go.WideShapes Go.Deep Go.RowKit

theorem rDepth_any (t : AV) (w : World) (hin : t.In w) : Calls Tryd.prog 38 #[t.val] w fun e w' => e = .returned (.int .i64 (AV.dep t 7 : Nat)) ∧ Below w.heap.size w w' := by
  have CALL := Lib.hid (fun W hW => rdepth_any t 7 W hW (by omega) (by omega))
  obtain ⟨k, n, s, na, nc, ns, xa, xc, xs⟩ := t
  simp only [AV.val, AV.row] at CALL ⊢
  go_enter Tryd.func38, Tryd.ntmps38
  go_wp2_with fail
  refine (CALL.out _ (hin.below ((Below.refl w.heap.size w).alloc (Nat.le_refl _) _) (Nat.le_refl _))).mono ?_
  rintro e w1 ⟨rfl, hb1⟩
  have hb2 : Below w.heap.size w w1 := ((Below.refl w.heap.size w).alloc (Nat.le_refl _) _).trans (hb1.mono (by simp))
  go_wp2_with fail
  go_ret
  exact ⟨rfl, hb2⟩
end Go.Proofs.YtcbfbmidekmboaaDoor
