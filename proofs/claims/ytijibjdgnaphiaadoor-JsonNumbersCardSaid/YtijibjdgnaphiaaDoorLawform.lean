/- JsonForms: the program and the document answer alike of every value whether it is formed: the walk of the statement. -/
import Derived.Test.YtijibjdgnaphiaaDoorFormed
namespace Go.Proofs.YtijibjdgnaphiaaDoor
open Go.ChangeShapes Go.WideShapes Go.Deep Go.RowKit Go.Lib

theorem eq_self_bool (b : Bool) : (b == b) = true := by cases b <;> rfl

set_option maxHeartbeats 400000 in
set_option maxRecDepth 100000 in
theorem lawform_any (t : AV) (w : World) (hin : t.In w) (hT : Tabs w) : Calls Tryd.prog 3 #[t.val] w fun e w' => e = .returned (.bool true) ∧ Below w.heap.size w w' := by
  have CALLF := Lib.hid (fun W hW => few_any t W hW)
  have CALLJ := Lib.hid (fun W (hb : Below w.heap.size w W) => Formed_any t W (hin.below hb (Nat.le_refl _)) (hT.later hb))
  have CALLR := Lib.hid (fun W (hb : Below w.heap.size w W) => rFormed_any t W (hin.below hb (Nat.le_refl _)))
  obtain ⟨F, hF⟩ : ∃ F, AV.few t = F := ⟨_, rfl⟩
  obtain ⟨R, hR⟩ : ∃ R, AV.formedJ t 6 = R := ⟨_, rfl⟩
  rw [hF] at CALLF
  rw [hR] at CALLJ CALLR
  have HIN := Lib.hid hin
  clear hF hR hin hT
  obtain ⟨k, n, s, na, nc, ns, xa, xc, xs⟩ := t
  simp only [AV.val, AV.row] at CALLF CALLJ CALLR ⊢
  go_enter Tryd.func3, Tryd.ntmps3
  go_wp2_with fail
  refine (awake_any _).mono ?_
  rintro e w1 ⟨rfl, hb1⟩
  have hb2 : Below w.heap.size w w1 := ((Below.refl w.heap.size w).alloc (Nat.le_refl _) _).trans (hb1.mono (by simp))
  have hc0 : w1.cell? ⟨w.heap.size, 0, none⟩ = some (.int .i64 k) := cell_later (by simp) hb1
  have hc1 : w1.cell? ⟨w.heap.size, 1, none⟩ = some (.int .i64 n) := cell_later (by simp) hb1
  have hc2 : w1.cell? ⟨w.heap.size, 2, none⟩ = some (.string s) := cell_later (by simp) hb1
  have hc3 : w1.cell? ⟨w.heap.size, 3, none⟩ = some (.slice na ns.length nc) := cell_later (by simp) hb1
  have hc4 : w1.cell? ⟨w.heap.size, 4, none⟩ = some (.slice xa xs.length xc) := cell_later (by simp) hb1
  go_wp2_with fail
  refine (CALLF.out _ (HIN.out.below hb2 (Nat.le_refl _))).mono ?_
  rintro e w2 ⟨rfl, hb3⟩
  have hb4 := hb2.trans (hb3.mono hb2.size)
  cases F
  · go_wp2_with fail
    refine (awake_any _).mono ?_
    rintro e w3 ⟨rfl, hb5⟩
    go_wp2_with fail
    go_ret
    exact ⟨rfl, hb4.trans (hb5.mono hb4.size)⟩
  · have hq0 := fun d os => cell_regrown (cell_later hc0 hb3) d os
    have hq1 := fun d os => cell_regrown (cell_later hc1 hb3) d os
    have hq2 := fun d os => cell_regrown (cell_later hc2 hb3) d os
    have hq3 := fun d os => cell_regrown (cell_later hc3 hb3) d os
    have hq4 := fun d os => cell_regrown (cell_later hc4 hb3) d os
    go_wp2_with fail
    refine wp_region_quiet_below (by kernel_rfl) (by kernel_rfl) ?_
    repeat (go_big_quiet_step (first | (go_at_call 15; exact Calls.regrown_of (CALLJ.out _ (hb4.trans ((below_regrown _ _ _).mono hb4.size)))) | (go_at_call 16; exact Calls.regrown_of (CALLR.out _ (hb4.trans ((below_regrown _ _ _).mono hb4.size))))))
    refine wpQuiet_nil ?_
    intro _ hw'
    obtain ⟨⟨dq, osq⟩, hw''⟩ := hw'
    subst hw''
    have hbq := below_regrown w2 dq osq
    clear hq0 hq1 hq2 hq3 hq4
    generalize Go.Sort.grow (redrawn w2 dq) osq = wq at *
    go_wp2_with fail
    go_ret
    exact ⟨ret_bool (by simp), hb4.trans (hbq.mono hb4.size)⟩
end Go.Proofs.YtijibjdgnaphiaaDoor
