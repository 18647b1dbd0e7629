/- OrderTotal: the order turns round, passes on, and tells only the same values to be alike: the walk of the statement. -/
import Derived.Test.YtdmpcoicniihhaaDoorLawcmp
namespace Go.Proofs.YtdmpcoicniihhaaDoor
open Go.ChangeShapes Go.WideShapes Go.Deep Go.RowKit Go.Lib

theorem three_below (w : World) (o o' o'' : Obj) : Below w.heap.size w (((w.alloc o).alloc o').alloc o'') := (two_below w o o').alloc (by simp; omega) _

theorem three_box (w : World) (cs cs' cs'' : Array Value) : (((w.alloc (.cells cs 25)).alloc (.cells cs' 25)).alloc (.cells cs'' 25)).heap[w.heap.size]? = some (.cells cs 25 (0, 0)) ∧ (((w.alloc (.cells cs 25)).alloc (.cells cs' 25)).alloc (.cells cs'' 25)).heap[w.heap.size + 1]? = some (.cells cs' 25 (0, 0)) ∧
    (((w.alloc (.cells cs 25)).alloc (.cells cs' 25)).alloc (.cells cs'' 25)).heap[w.heap.size + 1 + 1]? = some (.cells cs'' 25 (0, 0)) := by
  obtain ⟨h1, h2⟩ := two_box w cs cs'
  refine ⟨?_, ?_, ?_⟩
  · rw [Lib.alloc_old _ _ _ (by simp; omega)]; exact h1
  · rw [Lib.alloc_old _ _ _ (by simp)]; exact h2
  · have := heap_alloc_new ((w.alloc (.cells cs 25)).alloc (.cells cs' 25)) (.cells cs'' 25)
    rw [show ((w.alloc (.cells cs 25)).alloc (.cells cs' 25)).heap.size = w.heap.size + 1 + 1 by simp] at this
    exact this

theorem cmpV_neg (a b : AV) : cmpV b a = -cmpV a b := by
  unfold cmpV
  by_cases h : AV.formedJ a 6 = true ∧ AV.formedJ b 6 = true
  · rw [if_pos h, if_pos h.symm, AV.ord_neg]
  · rw [if_neg h, if_neg (fun h' => h h'.symm)]; rfl

theorem cmpV_self (a : AV) : cmpV a a = 0 := by
  have := cmpV_neg a a
  omega

theorem cmpV_sig (a b : AV) : Sig (cmpV a b) := by
  unfold cmpV
  split
  · exact AV.ord_sig a b
  · exact .inr (.inl rfl)

theorem five_at {l r : List Value} {L : List Value} {a b c d e : Value} {j : Nat} {v : Value} (hL : L = l ++ [a, b, c, d, e] ++ r) (hv : [a, b, c, d, e][j]? = some v) : L[l.length + j]? = some v := by
  have hj := (List.getElem?_eq_some_iff.1 hv).1
  rw [hL, List.append_assoc, List.getElem?_append_right (by omega), Nat.add_sub_cancel_left, List.getElem?_append_left hj]
  exact hv

/-- What is asked of three formed values. -/
structure Three (X Y Z : Int) (V : Bool) : Prop where
  x : Sig X
  y : Sig Y
  z : Sig Z
  fit : Fit X Y Z
  same : X = 0 ↔ V = true

theorem three_of {a b c : AV} (ha : AV.formedJ a 6 = true) (hb : AV.formedJ b 6 = true) (hc : AV.formedJ c 6 = true) : Three (cmpV a b) (cmpV b c) (cmpV a c) (AV.eqv a b) where
  x := cmpV_sig _ _
  y := cmpV_sig _ _
  z := cmpV_sig _ _
  fit := by
    unfold cmpV
    rw [if_pos ⟨ha, hb⟩, if_pos ⟨hb, hc⟩, if_pos ⟨ha, hc⟩]
    exact AV.ord_fit a b c
  same := by
    unfold cmpV
    rw [if_pos ⟨ha, hb⟩]
    exact AV.ord_zero a b ⟨6, ha⟩ ⟨6, hb⟩

set_option maxHeartbeats 8000000 in
set_option maxRecDepth 100000 in
theorem lawtot_any (a b c : AV) (w : World) (ha : a.In w) (hb : b.In w) (hc : c.In w) (hT : Tabs w) : Calls Tryd.prog 5 #[a.val, b.val, c.val] w fun e w' => e = .returned (.bool true) ∧ Below w.heap.size w w' := by
  have AWAKE := Lib.hid (fun W (h : Below w.heap.size w W) => awake_any W (hT.later h))
  have FA := Lib.hid (fun W (h : Below w.heap.size w W) => Formed_any a W (ha.below h (Nat.le_refl _)) (hT.later h))
  have FB := Lib.hid (fun W (h : Below w.heap.size w W) => Formed_any b W (hb.below h (Nat.le_refl _)) (hT.later h))
  have FC := Lib.hid (fun W (h : Below w.heap.size w W) => Formed_any c W (hc.below h (Nat.le_refl _)) (hT.later h))
  have CAB := Lib.hid (fun W (h : Below w.heap.size w W) => Compare_any a b W (ha.below h (Nat.le_refl _)) (hb.below h (Nat.le_refl _)) (hT.later h))
  have CBC := Lib.hid (fun W (h : Below w.heap.size w W) => Compare_any b c W (hb.below h (Nat.le_refl _)) (hc.below h (Nat.le_refl _)) (hT.later h))
  have CAC := Lib.hid (fun W (h : Below w.heap.size w W) => Compare_any a c W (ha.below h (Nat.le_refl _)) (hc.below h (Nat.le_refl _)) (hT.later h))
  have CBA := Lib.hid (fun W (h : Below w.heap.size w W) => Compare_any b a W (hb.below h (Nat.le_refl _)) (ha.below h (Nat.le_refl _)) (hT.later h))
  have CAA := Lib.hid (fun W (h : Below w.heap.size w W) => Compare_any a a W (ha.below h (Nat.le_refl _)) (ha.below h (Nat.le_refl _)) (hT.later h))
  have SAME := Lib.hid (fun W (h : Below w.heap.size w W) => rsame_any a b W (ha.below h (Nat.le_refl _)) (hb.below h (Nat.le_refl _)))
  have FEW := Lib.hid (fun W x d (h : Below w.heap.size w W) (hr : W.rangeAt x 0 a.row) (hr1 : W.rangeAt x 5 b.row) (hr2 : W.rangeAt x 10 c.row) => fewL_any (some ⟨x, 0, none⟩) d [a, b, c] W (.inr ⟨x, 0, rfl, fun i hi => by
    rcases i with _ | _ | _ | i
    · exact ⟨by simpa using hr, ha.below h (Nat.le_refl _)⟩
    · exact ⟨by simpa using hr1, hb.below h (Nat.le_refl _)⟩
    · exact ⟨by simpa using hr2, hc.below h (Nat.le_refl _)⟩
    · simp at hi; omega⟩) (by simp))
  have THREE := fun h1 h2 h3 => Lib.hid (three_of (a := a) (b := b) (c := c) h1 h2 h3)
  rw [cmpV_neg a b] at CBA
  rw [cmpV_self a] at CAA
  obtain ⟨X, hX⟩ : ∃ C, cmpV a b = C := ⟨_, rfl⟩
  obtain ⟨Y, hY⟩ : ∃ C, cmpV b c = C := ⟨_, rfl⟩
  obtain ⟨Z, hZ⟩ : ∃ C, cmpV a c = C := ⟨_, rfl⟩
  obtain ⟨V, hV⟩ : ∃ C, AV.eqv a b = C := ⟨_, rfl⟩
  obtain ⟨A, hA⟩ : ∃ C, AV.formedJ a 6 = C := ⟨_, rfl⟩
  obtain ⟨B, hB⟩ : ∃ C, AV.formedJ b 6 = C := ⟨_, rfl⟩
  obtain ⟨C, hC⟩ : ∃ C, AV.formedJ c 6 = C := ⟨_, rfl⟩
  obtain ⟨F, hF⟩ : ∃ F, fewL 0 [a, b, c] = F := ⟨_, rfl⟩
  rw [hX] at CAB CBA THREE
  rw [hY] at CBC THREE
  rw [hZ] at CAC THREE
  rw [hV] at SAME THREE
  rw [hA] at FA THREE
  rw [hB] at FB THREE
  rw [hC] at FC THREE
  simp only [hF] at FEW
  clear hX hY hZ hV hA hB hC hF ha hb hc hT
  obtain ⟨k, n, s, na, nc, ns, xa, xc, xs⟩ := a
  obtain ⟨k', n', s', na', nc', ns', xa', xc', xs'⟩ := b
  obtain ⟨k'', n'', s'', na'', nc'', ns'', xa'', xc'', xs''⟩ := c
  simp only [AV.val, AV.row] at FA FB FC CAB CBC CAC CBA CAA SAME FEW ⊢
  have hb0 := three_below w (.cells #[.int .i64 k, .int .i64 n, .string s, .slice na ns.length nc, .slice xa xs.length xc] 25) (.cells #[.int .i64 k', .int .i64 n', .string s', .slice na' ns'.length nc', .slice xa' xs'.length xc'] 25) (.cells #[.int .i64 k'', .int .i64 n'', .string s'', .slice na'' ns''.length nc'', .slice xa'' xs''.length xc''] 25)
  have hbx := three_box w #[.int .i64 k, .int .i64 n, .string s, .slice na ns.length nc, .slice xa xs.length xc] #[.int .i64 k', .int .i64 n', .string s', .slice na' ns'.length nc', .slice xa' xs'.length xc'] #[.int .i64 k'', .int .i64 n'', .string s'', .slice na'' ns''.length nc'', .slice xa'' xs''.length xc'']
  have HBX := Lib.hid hbx
  have hTH := THREE
  have HTH := Lib.hid hTH
  clear hbx THREE hTH
  go_enter Tryd.func5, Tryd.ntmps5
  go_wp2_with fail
  generalize ((w.alloc (.cells #[.int .i64 k, .int .i64 n, .string s, .slice na ns.length nc, .slice xa xs.length xc] 25)).alloc (.cells #[.int .i64 k', .int .i64 n', .string s', .slice na' ns'.length nc', .slice xa' xs'.length xc'] 25)).alloc (.cells #[.int .i64 k'', .int .i64 n'', .string s'', .slice na'' ns''.length nc'', .slice xa'' xs''.length xc''] 25) = W0 at *
  refine (AWAKE.out _ hb0).mono ?_
  rintro e w1 ⟨rfl, hq1⟩
  have hb1 := hb0.trans (hq1.mono hb0.size)
  have X1 := Lib.hid (box_later HBX.out.1 hq1)
  have Y1 := Lib.hid (box_later HBX.out.2.1 hq1)
  have Z1 := Lib.hid (box_later HBX.out.2.2 hq1)
  obtain ⟨a0, a1, a2, a3, a4⟩ := box_cells X1.out
  obtain ⟨d0, d1, d2, d3, d4⟩ := box_cells Y1.out
  obtain ⟨g0, g1, g2, g3, g4⟩ := box_cells Z1.out
  clear HBX
  go_wp2_with fail
  have hba : Below w1.heap.size w1 (w1.alloc (.cells #[.int .i64 k, .int .i64 n, .string s, .slice na ns.length nc, .slice xa xs.length xc, .int .i64 k', .int .i64 n', .string s', .slice na' ns'.length nc', .slice xa' xs'.length xc', .int .i64 k'', .int .i64 n'', .string s'', .slice na'' ns''.length nc'', .slice xa'' xs''.length xc''] 25)) := (Below.refl _ _).alloc (Nat.le_refl _) _
  have hb2 := hb1.trans (hba.mono hb1.size)
  have X2 := Lib.hid (box_later X1.out hba)
  have Y2 := Lib.hid (box_later Y1.out hba)
  have Z2 := Lib.hid (box_later Z1.out hba)
  have hrow := row_new w1 [.int .i64 k, .int .i64 n, .string s, .slice na ns.length nc, .slice xa xs.length xc, .int .i64 k', .int .i64 n', .string s', .slice na' ns'.length nc', .slice xa' xs'.length xc', .int .i64 k'', .int .i64 n'', .string s'', .slice na'' ns''.length nc'', .slice xa'' xs''.length xc''] 25
  refine (FEW.out _ w1.heap.size 3 hb2 (fun j v hv => by have := hrow (0 + j) v (five_at (l := []) rfl hv); simpa using this) (fun j v hv => by have := hrow (5 + j) v (five_at (l := [_, _, _, _, _]) rfl hv); simpa using this) (fun j v hv => by have := hrow (10 + j) v (five_at (l := [_, _, _, _, _, _, _, _, _, _]) (r := []) rfl hv); simpa using this)).mono ?_
  rintro e w2 ⟨rfl, hq2⟩
  have hb3 := hb2.trans (hq2.mono hb2.size)
  have X3 := Lib.hid (box_later X2.out hq2)
  have Y3 := Lib.hid (box_later Y2.out hq2)
  have Z3 := Lib.hid (box_later Z2.out hq2)
  clear a0 a1 a2 a3 a4 d0 d1 d2 d3 d4 g0 g1 g2 g3 g4 X1 Y1 Z1 X2 Y2 Z2 hba hb2 hq2 hrow
  cases F
  · go_wp2_with fail
    refine (AWAKE.out _ hb3).mono ?_
    rintro e w3 ⟨rfl, hq3⟩
    go_wp2_with fail
    go_ret
    exact ⟨rfl, hb3.trans (hq3.mono hb3.size)⟩
  obtain ⟨a0, a1, a2, a3, a4⟩ := box_cells X3.out
  go_wp2_with fail
  refine (FA.out _ hb3).mono ?_
  rintro e w3 ⟨rfl, hq3⟩
  have hb4 := hb3.trans (hq3.mono hb3.size)
  cases A
  · go_wp2_with fail
    refine (AWAKE.out _ hb4).mono ?_
    rintro e w4 ⟨rfl, hq4⟩
    go_wp2_with fail
    go_ret
    exact ⟨rfl, hb4.trans (hq4.mono hb4.size)⟩
  clear a0 a1 a2 a3 a4
  have X4 := Lib.hid (box_later X3.out hq3)
  have Y4 := Lib.hid (box_later Y3.out hq3)
  have Z4 := Lib.hid (box_later Z3.out hq3)
  clear X3 Y3 Z3
  obtain ⟨d0, d1, d2, d3, d4⟩ := box_cells Y4.out
  go_wp2_with fail
  refine (FB.out _ hb4).mono ?_
  rintro e w4 ⟨rfl, hq4⟩
  have hb5 := hb4.trans (hq4.mono hb4.size)
  cases B
  · go_wp2_with fail
    refine (AWAKE.out _ hb5).mono ?_
    rintro e w5 ⟨rfl, hq5⟩
    go_wp2_with fail
    go_ret
    exact ⟨rfl, hb5.trans (hq5.mono hb5.size)⟩
  clear d0 d1 d2 d3 d4
  have X5 := Lib.hid (box_later X4.out hq4)
  have Y5 := Lib.hid (box_later Y4.out hq4)
  have Z5 := Lib.hid (box_later Z4.out hq4)
  clear X4 Y4 Z4
  obtain ⟨g0, g1, g2, g3, g4⟩ := box_cells Z5.out
  go_wp2_with fail
  refine (FC.out _ hb5).mono ?_
  rintro e w5 ⟨rfl, hq5⟩
  have hb6 := hb5.trans (hq5.mono hb5.size)
  cases C
  · go_wp2_with fail
    refine (AWAKE.out _ hb6).mono ?_
    rintro e w6 ⟨rfl, hq6⟩
    go_wp2_with fail
    go_ret
    exact ⟨rfl, hb6.trans (hq6.mono hb6.size)⟩
  clear g0 g1 g2 g3 g4
  have X6 := Lib.hid (box_later X5.out hq5)
  have Y6 := Lib.hid (box_later Y5.out hq5)
  have Z6 := Lib.hid (box_later Z5.out hq5)
  have TH := HTH.out (by simp) (by simp) (by simp)
  clear X5 Y5 Z5 HTH
  obtain ⟨a0, a1, a2, a3, a4⟩ := box_cells X6.out
  obtain ⟨d0, d1, d2, d3, d4⟩ := box_cells Y6.out
  obtain ⟨g0, g1, g2, g3, g4⟩ := box_cells Z6.out
  have e0 := fun d os => cell_regrown a0 d os
  have e1 := fun d os => cell_regrown a1 d os
  have e2 := fun d os => cell_regrown a2 d os
  have e3 := fun d os => cell_regrown a3 d os
  have e4 := fun d os => cell_regrown a4 d os
  have f0 := fun d os => cell_regrown d0 d os
  have f1 := fun d os => cell_regrown d1 d os
  have f2 := fun d os => cell_regrown d2 d os
  have f3 := fun d os => cell_regrown d3 d os
  have f4 := fun d os => cell_regrown d4 d os
  have h0 := fun d os => cell_regrown g0 d os
  have h1 := fun d os => cell_regrown g1 d os
  have h2 := fun d os => cell_regrown g2 d os
  have h3 := fun d os => cell_regrown g3 d os
  have h4 := fun d os => cell_regrown g4 d os
  have CAB3 := Lib.hid (fun W (h : Below w5.heap.size w5 W) => CAB.out W (hb6.trans (h.mono hb6.size)))
  have CBC3 := Lib.hid (fun W (h : Below w5.heap.size w5 W) => CBC.out W (hb6.trans (h.mono hb6.size)))
  have CAC3 := Lib.hid (fun W (h : Below w5.heap.size w5 W) => CAC.out W (hb6.trans (h.mono hb6.size)))
  clear a0 a1 a2 a3 a4 d0 d1 d2 d3 d4 g0 g1 g2 g3 g4
  go_wp2_with fail
  refine wp_region_quiet_below (by kernel_rfl) (by kernel_rfl) ?_
  iterate 3 (go_big_quiet_step (exact Calls.regrown_of (CAB3.out _ (below_regrown _ _ _))))
  iterate 3 (go_big_quiet_step (exact Calls.regrown_of (CBC3.out _ (below_regrown _ _ _))))
  repeat (go_big_quiet_step (exact Calls.regrown_of (CAC3.out _ (below_regrown _ _ _))))
  refine wpQuiet_nil ?_
  intro _ hw'
  obtain ⟨⟨dq, osq⟩, hw''⟩ := hw'
  subst hw''
  have hbq := below_regrown w5 dq osq
  have hb7 := hb6.trans (hbq.mono hb6.size)
  have X7 := Lib.hid (box_later X6.out hbq)
  have Y7 := Lib.hid (box_later Y6.out hbq)
  clear e0 e1 e2 e3 e4 f0 f1 f2 f3 f4 h0 h1 h2 h3 h4 CAB CAB3 CBC CBC3 CAC CAC3 X6 Y6 Z6
  generalize Go.Sort.grow (redrawn w5 dq) osq = w6 at *
  have hxs := TH.out.x
  have hys := TH.out.y
  have hzs := TH.out.z
  have hft := TH.out.fit
  have hV : V = decide (X = 0) := by
    have := TH.out.same
    cases V
    · rw [decide_eq_false (fun h => by simpa using this.1 h)]
    · rw [decide_eq_true (this.2 rfl)]
  subst hV
  have HYS := Lib.hid hys
  have HZS := Lib.hid hzs
  have HFT := Lib.hid hft
  clear hys hzs hft TH
  obtain ⟨a0, a1, a2, a3, a4⟩ := box_cells X7.out
  obtain ⟨d0, d1, d2, d3, d4⟩ := box_cells Y7.out
  rcases hxs with rfl | rfl | rfl
  all_goals
    go_wp2_with fail
    refine (CBA.out _ hb7).mono ?_
    rintro e w7 ⟨rfl, hq7⟩
    have hb8 := hb7.trans (hq7.mono hb7.size)
    have X8 := Lib.hid (box_later X7.out hq7)
    have Y8 := Lib.hid (box_later Y7.out hq7)
    clear a0 a1 a2 a3 a4 d0 d1 d2 d3 d4
    obtain ⟨a0, a1, a2, a3, a4⟩ := box_cells X8.out
    obtain ⟨d0, d1, d2, d3, d4⟩ := box_cells Y8.out
    go_wp2_with fail
    refine (SAME.out _ hb8).mono ?_
    rintro e w8 ⟨rfl, hq8⟩
    have hb9 := hb8.trans (hq8.mono hb8.size)
    have X9 := Lib.hid (box_later X8.out hq8)
    clear a0 a1 a2 a3 a4 d0 d1 d2 d3 d4
    obtain ⟨a0, a1, a2, a3, a4⟩ := box_cells X9.out
    go_wp2_with fail
    refine (CAA.out _ hb9).mono ?_
    rintro e w9 ⟨rfl, hq9⟩
    have hbA := hb9.trans (hq9.mono hb9.size)
    clear a0 a1 a2 a3 a4
    have hys := HYS.out
    have hzs := HZS.out
    rcases hys with rfl | rfl | rfl
    all_goals
      rcases hzs with rfl | rfl | rfl
      all_goals
        first
          | (exfalso; obtain ⟨h1, h2, h3⟩ := HFT.out; omega)
          | (go_wp2_with fail; go_ret; exact ⟨rfl, hbA⟩)
end Go.Proofs.YtdmpcoicniihhaaDoor
