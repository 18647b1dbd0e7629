/- One member of two values, compared by the program; no condition of ours. -/
import Derived.Test.YtcbfbmidekmboaaDoorOrd
import Derived.Test.YtcbfbmidekmboaaDoorCmpt
import Derived.Test.YtcbfbmidekmboaaDoorShelfc
namespace Go.Proofs.YtcbfbmidekmboaaDoor
open Go.ChangeShapes Go.WideShapes Go.Deep Go.RowKit Go.Lib

/-- Formed, at some level. -/
def Fd (x : AV) : Prop := ∃ lv, AV.formedJ x lv = true

/-- What is asked of the call for each item. -/
def CmpAt (x : AV) : Prop := ∀ (y : AV) (w : World), Fd x → Fd y → x.In w → y.In w → Calls Tryd.prog 30 #[x.val, y.val] w fun e w' => e = .returned (.int .i64 (AV.ord x y)) ∧ Below w.heap.size w w'

/-- Names that differ. -/
theorem member_name (n n' : Int) (s s' : ByteArray) (na na' : Option Addr) (nc nc' : Nat) (ns ns' : List ByteArray) (xa xa' : Option Addr) (xc xc' : Nat) (xs xs' : List AV) (w : World) (i : Nat)
    (hi : i < ns.length) (hi' : i < ns'.length) (hnin : AV.NamesIn w na ns) (hnin' : AV.NamesIn w na' ns') (hne : ns[i] ≠ ns'[i]) :
    Calls Tryd.prog 63 #[(AV.mk 6 n s na nc ns xa xc xs).val, (AV.mk 6 n' s' na' nc' ns' xa' xc' xs').val, .int .i64 (i : Int)] w fun e w' => e = .returned (.int .i64 (cmpT ns[i] ns'[i])) ∧ Below w.heap.size w w' := by
  obtain ⟨bx, ox, rfl, hit⟩ := hnin.resolve_left (by intro e; rw [e] at hi; simp at hi)
  obtain ⟨by', oy, rfl, hit'⟩ := hnin'.resolve_left (by intro e; rw [e] at hi'; simp at hi')
  have f1 : w.cell? ⟨bx, ox + i, none⟩ = some (.string ns[i]) := hit i hi
  have f2 : w.cell? ⟨by', oy + i, none⟩ = some (.string ns'[i]) := hit' i hi'
  obtain ⟨x, hx⟩ : ∃ x, ns[i] = x := ⟨_, rfl⟩
  obtain ⟨y, hy⟩ : ∃ y, ns'[i] = y := ⟨_, rfl⟩
  rw [hx, hy] at hne
  rw [hx] at f1
  rw [hy] at f2
  rw [hx, hy]
  have e1 := str_ne hne
  have e2 := str_eq_false hne
  clear hx hy hit hit' hne hnin hnin'
  have hb2 := two_below w (.cells #[.int .i64 6, .int .i64 n, .string s, .slice (some ⟨bx, ox, none⟩) ns.length nc, .slice xa xs.length xc] 25) (.cells #[.int .i64 6, .int .i64 n', .string s', .slice (some ⟨by', oy, none⟩) ns'.length nc', .slice xa' xs'.length xc'] 25)
  have hbx := two_box w #[.int .i64 6, .int .i64 n, .string s, .slice (some ⟨bx, ox, none⟩) ns.length nc, .slice xa xs.length xc] #[.int .i64 6, .int .i64 n', .string s', .slice (some ⟨by', oy, none⟩) ns'.length nc', .slice xa' xs'.length xc']
  have HBX := Lib.hid hbx
  clear hbx
  simp only [AV.val, AV.row]
  go_enter Tryd.func63, Tryd.ntmps63
  go_wp2_with fail
  obtain ⟨c0, c1, c2, c3, c4⟩ := box_cells HBX.out.1
  obtain ⟨d0, d1, d2, d3, d4⟩ := box_cells HBX.out.2
  have f1' := cell_later f1 hb2
  have f2' := cell_later f2 hb2
  generalize (w.alloc (.cells #[.int .i64 6, .int .i64 n, .string s, .slice (some ⟨bx, ox, none⟩) ns.length nc, .slice xa xs.length xc] 25)).alloc (.cells #[.int .i64 6, .int .i64 n', .string s', .slice (some ⟨by', oy, none⟩) ns'.length nc', .slice xa' xs'.length xc'] 25) = W0 at *
  clear HBX
  go_quiet (fail)
  go_wp2_with fail
  have hf : ∀ a, (W0.drewN nq).cell? a = W0.cell? a := fun _ => rfl
  have hb3 : Below w.heap.size w (W0.drewN nq) := hb2.trans ⟨rfl, rfl, rfl, Nat.le_refl _, fun _ _ => rfl⟩
  rw [← hf] at c3 d3 f1' f2'
  clear c0 c1 c2 c4 d0 d1 d2 d4 hb2
  generalize W0.drewN nq = W1 at *
  clear hf
  go_quiet ((go_at_call 50; exact Calls.quiet_of_same (Tryd.strings_Compare _ _ _)))
  go_wp2_with fail
  go_ret
  exact ⟨rfl, hb3.trans ⟨rfl, rfl, rfl, Nat.le_refl _, fun _ _ => rfl⟩⟩

set_option maxHeartbeats 2000000 in
set_option maxRecDepth 100000 in
/-- The items, where the names tell nothing. -/
theorem member_item (k n n' : Int) (s s' : ByteArray) (na na' : Option Addr) (nc nc' : Nat) (ns ns' : List ByteArray) (xa xa' : Option Addr) (xc xc' : Nat) (xs xs' : List AV) (w : World) (i : Nat)
    (hi : i < xs.length) (hi' : i < xs'.length) (hits : AV.Its w xa xs) (hits' : AV.Its w xa' xs') (hnin : AV.NamesIn w na ns) (hnin' : AV.NamesIn w na' ns') (hcase : k ≠ 6 ∨ (k = 6 ∧ ∃ (h : i < ns.length) (h' : i < ns'.length), ns[i] = ns'[i])) (IH : CmpAt xs[i]) (hf : Fd xs[i]) (hf' : Fd xs'[i]) :
    Calls Tryd.prog 63 #[(AV.mk k n s na nc ns xa xc xs).val, (AV.mk k n' s' na' nc' ns' xa' xc' xs').val, .int .i64 (i : Int)] w fun e w' => e = .returned (.int .i64 (AV.ord xs[i] xs'[i])) ∧ Below w.heap.size w w' := by
  obtain ⟨bx, ox, rfl, hit⟩ := hits.resolve_left (by intro e; rw [e] at hi; simp at hi)
  obtain ⟨by', oy, rfl, hit'⟩ := hits'.resolve_left (by intro e; rw [e] at hi'; simp at hi')
  have hb2 := two_below w (.cells #[.int .i64 k, .int .i64 n, .string s, .slice na ns.length nc, .slice (some ⟨bx, ox, none⟩) xs.length xc] 25) (.cells #[.int .i64 k, .int .i64 n', .string s', .slice na' ns'.length nc', .slice (some ⟨by', oy, none⟩) xs'.length xc'] 25)
  have hbx := two_box w #[.int .i64 k, .int .i64 n, .string s, .slice na ns.length nc, .slice (some ⟨bx, ox, none⟩) xs.length xc] #[.int .i64 k, .int .i64 n', .string s', .slice na' ns'.length nc', .slice (some ⟨by', oy, none⟩) xs'.length xc']
  have HBX := Lib.hid hbx
  have hr := AV.rangeAt_old (fun a ha => hb2.cell ha) (hit i hi).1
  have hr' := AV.rangeAt_old (fun a ha => hb2.cell ha) (hit' i hi').1
  have hxin := (hit i hi).2.below hb2 (Nat.le_refl _)
  have hyin := (hit' i hi').2.below hb2 (Nat.le_refl _)
  obtain ⟨x, hx⟩ : ∃ x, xs[i] = x := ⟨_, rfl⟩
  obtain ⟨y, hy⟩ : ∃ y, xs'[i] = y := ⟨_, rfl⟩
  rw [hx] at hr hxin hf IH
  rw [hy] at hr' hyin hf'
  rw [hx, hy]
  obtain ⟨V, hV⟩ : ∃ V, AV.ord x y = V := ⟨_, rfl⟩
  rw [hV]
  have HV := Lib.hid hV
  clear hV
  have HC := Lib.hid hcase
  have HN := Lib.hid hnin
  have HN' := Lib.hid hnin'
  clear hx hy hit hit' hits hits' hbx hcase hnin hnin'
  simp only [AV.val, AV.row]
  go_enter Tryd.func63, Tryd.ntmps63
  go_wp2_with fail
  obtain ⟨c0, c1, c2, c3, c4⟩ := box_cells HBX.out.1
  obtain ⟨d0, d1, d2, d3, d4⟩ := box_cells HBX.out.2
  generalize (w.alloc (.cells #[.int .i64 k, .int .i64 n, .string s, .slice na ns.length nc, .slice (some ⟨bx, ox, none⟩) xs.length xc] 25)).alloc (.cells #[.int .i64 k, .int .i64 n', .string s', .slice na' ns'.length nc', .slice (some ⟨by', oy, none⟩) xs'.length xc'] 25) = W0 at *
  clear HBX
  have CALL2 := Lib.hid (fun (W : World) (hW : Below W0.heap.size W0 W) => IH y W hf hf' (hxin.below hW (Nat.le_refl _)) (hyin.below hW (Nat.le_refl _)))
  clear IH hxin hyin hf hf'
  rw [HV.out] at CALL2
  clear HV
  rcases HC.out with hk | ⟨rfl, h, h', he⟩
  · have hk' : (k == 6) = false := by simpa using hk
    clear hk
    go_quiet (fail)
    go_wp2_with fail
    have hf : ∀ a, (W0.drewN nq).cell? a = W0.cell? a := fun _ => rfl
    have hb3 : Below w.heap.size w (W0.drewN nq) := hb2.trans ⟨rfl, rfl, rfl, Nat.le_refl _, fun _ _ => rfl⟩
    have r1 : (W0.drewN nq).rangeAt bx (ox + i * 5) x.row := hr
    have r2 : (W0.drewN nq).rangeAt by' (oy + i * 5) y.row := hr'
    have CALL3 := Lib.hid (fun (W : World) (hW : Below (W0.drewN nq).heap.size (W0.drewN nq) W) => CALL2.out W (Below.trans (show Below W0.heap.size W0 (W0.drewN nq) from ⟨rfl, rfl, rfl, Nat.le_refl _, fun _ _ => rfl⟩) hW))
    rw [← hf] at c4 d4
    clear c0 c1 c2 c3 d0 d1 d2 d3 hb2 CALL2 hr hr'
    generalize W0.drewN nq = W1 at *
    clear hf
    obtain ⟨k1, n1, s1, na1, nc1, ns1, xa1, xc1, xs1⟩ := x
    obtain ⟨k2, n2, s2, na2, nc2, ns2, xa2, xc2, xs2⟩ := y
    have a0 := fun d os => cell_regrown (r1 0 _ rfl) d os
    have a1 := fun d os => cell_regrown (r1 1 _ rfl) d os
    have a2 := fun d os => cell_regrown (r1 2 _ rfl) d os
    have a3 := fun d os => cell_regrown (r1 3 _ rfl) d os
    have a4 := fun d os => cell_regrown (r1 4 _ rfl) d os
    have b0 := fun d os => cell_regrown (r2 0 _ rfl) d os
    have b1 := fun d os => cell_regrown (r2 1 _ rfl) d os
    have b2 := fun d os => cell_regrown (r2 2 _ rfl) d os
    have b3 := fun d os => cell_regrown (r2 3 _ rfl) d os
    have b4 := fun d os => cell_regrown (r2 4 _ rfl) d os
    have e4 := fun d os => cell_regrown c4 d os
    have f4 := fun d os => cell_regrown d4 d os
    simp only [Nat.add_zero] at a0 b0
    clear r1 r2 c4 d4
    refine wp_region_quiet_below (by kernel_rfl) (by kernel_rfl) ?_
    repeat (go_big_quiet_step (exact Calls.regrown_of (CALL3.out _ (below_regrown _ _ _))))
    refine wpQuiet_nil ?_
    intro _ hw'
    obtain ⟨⟨dq, osq⟩, hw''⟩ := hw'
    subst hw''
    have hbq := below_regrown W1 dq osq
    clear a0 a1 a2 a3 a4 b0 b1 b2 b3 b4 e4 f4
    generalize Go.Sort.grow (redrawn W1 dq) osq = wq at *
    go_wp2_with fail
    go_ret
    exact ⟨rfl, hb3.trans (hbq.mono hb3.size)⟩
  · obtain ⟨bn, on', rfl, hit⟩ := HN.out.resolve_left (by intro e; rw [e] at h; simp at h)
    obtain ⟨bm, om, rfl, hit'⟩ := HN'.out.resolve_left (by intro e; rw [e] at h'; simp at h')
    have f1 := cell_later (hit i h) hb2
    have f2 := cell_later (hit' i h') hb2
    rw [← he] at f2
    clear hit hit'
    generalize ns[i] = z at *
    clear he
    go_quiet (fail)
    go_wp2_with fail
    have hf : ∀ a, (W0.drewN nq).cell? a = W0.cell? a := fun _ => rfl
    have hb3 : Below w.heap.size w (W0.drewN nq) := hb2.trans ⟨rfl, rfl, rfl, Nat.le_refl _, fun _ _ => rfl⟩
    have r1 : (W0.drewN nq).rangeAt bx (ox + i * 5) x.row := hr
    have r2 : (W0.drewN nq).rangeAt by' (oy + i * 5) y.row := hr'
    have CALL3 := Lib.hid (fun (W : World) (hW : Below (W0.drewN nq).heap.size (W0.drewN nq) W) => CALL2.out W (Below.trans (show Below W0.heap.size W0 (W0.drewN nq) from ⟨rfl, rfl, rfl, Nat.le_refl _, fun _ _ => rfl⟩) hW))
    rw [← hf] at c4 d4
    clear c0 c1 c2 c3 d0 d1 d2 d3 hb2 CALL2 hr hr'
    generalize W0.drewN nq = W1 at *
    clear hf
    obtain ⟨k1, n1, s1, na1, nc1, ns1, xa1, xc1, xs1⟩ := x
    obtain ⟨k2, n2, s2, na2, nc2, ns2, xa2, xc2, xs2⟩ := y
    have a0 := fun d os => cell_regrown (r1 0 _ rfl) d os
    have a1 := fun d os => cell_regrown (r1 1 _ rfl) d os
    have a2 := fun d os => cell_regrown (r1 2 _ rfl) d os
    have a3 := fun d os => cell_regrown (r1 3 _ rfl) d os
    have a4 := fun d os => cell_regrown (r1 4 _ rfl) d os
    have b0 := fun d os => cell_regrown (r2 0 _ rfl) d os
    have b1 := fun d os => cell_regrown (r2 1 _ rfl) d os
    have b2 := fun d os => cell_regrown (r2 2 _ rfl) d os
    have b3 := fun d os => cell_regrown (r2 3 _ rfl) d os
    have b4 := fun d os => cell_regrown (r2 4 _ rfl) d os
    have e4 := fun d os => cell_regrown c4 d os
    have f4 := fun d os => cell_regrown d4 d os
    simp only [Nat.add_zero] at a0 b0
    clear r1 r2 c4 d4
    refine wp_region_quiet_below (by kernel_rfl) (by kernel_rfl) ?_
    repeat (go_big_quiet_step (exact Calls.regrown_of (CALL3.out _ (below_regrown _ _ _))))
    refine wpQuiet_nil ?_
    intro _ hw'
    obtain ⟨⟨dq, osq⟩, hw''⟩ := hw'
    subst hw''
    have hbq := below_regrown W1 dq osq
    clear a0 a1 a2 a3 a4 b0 b1 b2 b3 b4 e4 f4
    generalize Go.Sort.grow (redrawn W1 dq) osq = wq at *
    go_wp2_with fail
    go_ret
    exact ⟨rfl, hb3.trans (hbq.mono hb3.size)⟩
end Go.Proofs.YtcbfbmidekmboaaDoor
