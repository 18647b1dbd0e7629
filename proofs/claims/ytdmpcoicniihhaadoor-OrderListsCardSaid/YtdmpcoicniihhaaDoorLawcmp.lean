/- OrderCompares: every two values are compared as the document says: the walk of the statement. -/
import Derived.Test.YtdmpcoicniihhaaDoorFewl
import Derived.Test.YtdmpcoicniihhaaDoorRcmpc
namespace Go.Proofs.YtdmpcoicniihhaaDoor
open Go.ChangeShapes Go.WideShapes Go.Deep Go.RowKit Go.Lib

theorem row_new (w : World) (cs : List Value) (t : TypeId) : (w.alloc (.cells cs.toArray t)).rangeAt w.heap.size 0 cs := fun j v hv => by
  rw [Lib.cell_of_heap (heap_alloc_new w _)]
  simpa using hv

set_option maxHeartbeats 4000000 in
set_option maxRecDepth 100000 in
theorem lawcmp_any (a b : AV) (w : World) (ha : a.In w) (hb : b.In w) (hT : Tabs w) : Calls Tryd.prog 3 #[a.val, b.val] w fun e w' => e = .returned (.bool true) ∧ Below w.heap.size w w' := by
  have AWAKE := Lib.hid (fun W (h : Below w.heap.size w W) => awake_any W (hT.later h))
  have CMP := Lib.hid (fun W (h : Below w.heap.size w W) => Compare_any a b W (ha.below h (Nat.le_refl _)) (hb.below h (Nat.le_refl _)) (hT.later h))
  have RCMP := Lib.hid (fun W (h : Below w.heap.size w W) => rCompare_any a b W (ha.below h (Nat.le_refl _)) (hb.below h (Nat.le_refl _)))
  have FEW := Lib.hid (fun W x c (h : Below w.heap.size w W) (hr : W.rangeAt x 0 (a.row ++ b.row)) => fewL_any (some ⟨x, 0, none⟩) c [a, b] W (.inr ⟨x, 0, rfl, fun i hi => by
    rcases i with _ | _ | i
    · exact ⟨fun j v hv => hr j v (by rw [List.getElem?_append_left (by rw [AV.row_length]; have := (List.getElem?_eq_some_iff.1 hv).1; simpa [AV.row_length] using this)]; exact hv), ha.below h (Nat.le_refl _)⟩
    · refine ⟨fun j v hv => ?_, hb.below h (Nat.le_refl _)⟩
      have := hr (5 + j) v (by rw [List.getElem?_append_right (by rw [AV.row_length]; omega), AV.row_length, Nat.add_sub_cancel_left]; exact hv)
      simpa [Nat.add_assoc, Nat.add_comm] using this
    · simp at hi; omega⟩) (by simp))
  obtain ⟨C, hC⟩ : ∃ C, cmpV a b = C := ⟨_, rfl⟩
  obtain ⟨F, hF⟩ : ∃ F, fewL 0 [a, b] = F := ⟨_, rfl⟩
  rw [hC] at CMP RCMP
  simp only [hF] at FEW
  clear hC hF ha hb hT
  obtain ⟨k, n, s, na, nc, ns, xa, xc, xs⟩ := a
  obtain ⟨k', n', s', na', nc', ns', xa', xc', xs'⟩ := b
  simp only [AV.val, AV.row] at CMP RCMP FEW ⊢
  have hb0 := two_below w (.cells #[.int .i64 k, .int .i64 n, .string s, .slice na ns.length nc, .slice xa xs.length xc] 25) (.cells #[.int .i64 k', .int .i64 n', .string s', .slice na' ns'.length nc', .slice xa' xs'.length xc'] 25)
  have hbx := two_box w #[.int .i64 k, .int .i64 n, .string s, .slice na ns.length nc, .slice xa xs.length xc] #[.int .i64 k', .int .i64 n', .string s', .slice na' ns'.length nc', .slice xa' xs'.length xc']
  have HBX := Lib.hid hbx
  clear hbx
  go_enter Tryd.func3, Tryd.ntmps3
  go_wp2_with fail
  generalize (w.alloc (.cells #[.int .i64 k, .int .i64 n, .string s, .slice na ns.length nc, .slice xa xs.length xc] 25)).alloc (.cells #[.int .i64 k', .int .i64 n', .string s', .slice na' ns'.length nc', .slice xa' xs'.length xc'] 25) = W0 at *
  refine (AWAKE.out _ hb0).mono ?_
  rintro e w1 ⟨rfl, hq1⟩
  have hb1 := hb0.trans (hq1.mono hb0.size)
  have x1 := box_later HBX.out.1 hq1
  have y1 := box_later HBX.out.2 hq1
  obtain ⟨a0, a1, a2, a3, a4⟩ := box_cells x1
  obtain ⟨d0, d1, d2, d3, d4⟩ := box_cells y1
  have X1 := Lib.hid x1
  have Y1 := Lib.hid y1
  clear x1 y1 HBX
  go_wp2_with fail
  have hba : Below w1.heap.size w1 (w1.alloc (.cells #[.int .i64 k, .int .i64 n, .string s, .slice na ns.length nc, .slice xa xs.length xc, .int .i64 k', .int .i64 n', .string s', .slice na' ns'.length nc', .slice xa' xs'.length xc'] 25)) := (Below.refl _ _).alloc (Nat.le_refl _) _
  have hb2 := hb1.trans (hba.mono hb1.size)
  have X2 := Lib.hid (box_later X1.out hba)
  have Y2 := Lib.hid (box_later Y1.out hba)
  refine (FEW.out _ w1.heap.size 2 hb2 (row_new w1 [.int .i64 k, .int .i64 n, .string s, .slice na ns.length nc, .slice xa xs.length xc, .int .i64 k', .int .i64 n', .string s', .slice na' ns'.length nc', .slice xa' xs'.length xc'] 25)).mono ?_
  rintro e w2 ⟨rfl, hq2⟩
  have hb3 := hb2.trans (hq2.mono hb2.size)
  have X3 := Lib.hid (box_later X2.out hq2)
  have Y3 := Lib.hid (box_later Y2.out hq2)
  clear a0 a1 a2 a3 a4 d0 d1 d2 d3 d4 X1 Y1 X2 Y2 hba hb2 hq2
  cases F
  · go_wp2_with fail
    refine (AWAKE.out _ hb3).mono ?_
    rintro e w3 ⟨rfl, hq3⟩
    go_wp2_with fail
    go_ret
    exact ⟨rfl, hb3.trans (hq3.mono hb3.size)⟩
  obtain ⟨a0, a1, a2, a3, a4⟩ := box_cells X3.out
  obtain ⟨d0, d1, d2, d3, d4⟩ := box_cells Y3.out
  have e0 := fun d os => cell_regrown a0 d os
  have e1 := fun d os => cell_regrown a1 d os
  have e2 := fun d os => cell_regrown a2 d os
  have e3 := fun d os => cell_regrown a3 d os
  have e4 := fun d os => cell_regrown a4 d os
  have f0 := fun d os => cell_regrown d0 d os
  have f1 := fun d os => cell_regrown d1 d os
  have f2 := fun d os => cell_regrown d2 d os
  have f3 := fun d os => cell_regrown d3 d os
  have f4 := fun d os => cell_regrown d4 d os
  have CMP3 := Lib.hid (fun W (h : Below w2.heap.size w2 W) => CMP.out W (hb3.trans (h.mono hb3.size)))
  have RCMP3 := Lib.hid (fun W (h : Below w2.heap.size w2 W) => RCMP.out W (hb3.trans (h.mono hb3.size)))
  clear a0 a1 a2 a3 a4 d0 d1 d2 d3 d4
  go_wp2_with fail
  refine wp_region_quiet_below (by kernel_rfl) (by kernel_rfl) ?_
  repeat (go_big_quiet_step (first | exact Calls.regrown_of (CMP3.out _ (below_regrown _ _ _)) | exact Calls.regrown_of (RCMP3.out _ (below_regrown _ _ _))))
  refine wpQuiet_nil ?_
  intro _ hw'
  obtain ⟨⟨dq, osq⟩, hw''⟩ := hw'
  subst hw''
  have hbq := below_regrown w2 dq osq
  clear e0 e1 e2 e3 e4 f0 f1 f2 f3 f4
  generalize Go.Sort.grow (redrawn w2 dq) osq = wq at *
  go_wp2_with fail
  go_ret
  exact ⟨ret_bool (by simp), hb3.trans (hbq.mono hb3.size)⟩
end Go.Proofs.YtdmpcoicniihhaaDoor
