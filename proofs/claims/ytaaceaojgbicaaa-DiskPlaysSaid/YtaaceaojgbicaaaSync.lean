/- Sync, where it is done: all pending writes are laid over what lasts; under 2^30 writes. -/
import Derived.Test.YtaaceaojgbicaaaSyncd
namespace Go.Proofs.Ytaaceaojgbicaaa
open Go.ChangeShapes Go.WideShapes Go.Deep Go.RowKit Go.Lib Go.Maps

set_option maxHeartbeats 4000000 in
set_option maxRecDepth 100000 in
theorem sync_some {a : DA} {s : DS} {w : World} (h : DiskAt w a s) (hk : s.k < 1073741824) (hd : s.down = false) (ho : s.okB = true) :
    Calls Try.prog 20 #[ptr a] w fun e w' => e = .returned (.int .i64 0) ∧ Became a w s.spent.didSync w' := by
  have DOWN := Lib.hid (down_any h)
  have SPEND := Lib.hid (spend_any h)
  have HK : Hid (s.spent.k < 1073741824) := Lib.hid (by rw [(spent_eq s).2.2.2.1]; exact hk)
  rw [hd] at DOWN
  rw [ho] at SPEND
  clear hk hd ho h
  generalize s.spent = t at *
  obtain ⟨db, lb, nb, pv⟩ := a
  have ZW := zero72
  obtain ⟨Z, hZ⟩ : ∃ Z, zeroW.toArray = Z := ⟨_, rfl⟩
  rw [hZ] at ZW
  have hZs : Hid (Z.size = 257) := Lib.hid (by rw [← hZ]; exact zeroW_length)
  have hmm := @run_makeMap Try.prog
  clear hZ
  unfold ptr at DOWN SPEND ⊢
  go_enter Try.func20, Try.ntmps20
  go_wp2_with fail
  refine (DOWN.out).mono ?_
  rintro e w1 ⟨rfl, rfl⟩
  go_wp2_with fail
  refine (SPEND.out).mono ?_
  rintro e w1 ⟨rfl, hd1, hO1⟩
  clear DOWN SPEND
  obtain ⟨pa, pc, hpv, hpc1, hpc2⟩ := pv_slice hd1
  dsimp only at hpv
  subst hpv
  have HD1 := Lib.hid hd1
  have HO1 := Lib.hid hO1
  have c2 := hd1.cells.2.2.1
  dsimp only at c2
  have HPK : Hid (t.pend.length < 1073741824) := Lib.hid (by
    obtain ⟨_, _, _, h1, _⟩ := hd1.last
    have := HK.out
    omega)
  clear hd1 hO1 hpc1 hpc2
  go_wp2_with fail
  clear c2
  have hp1 : t.pend.length ≤ 1073741824 := Nat.le_of_lt HPK.out
  go_loopw [17] (fun i wr => ∃ k : Nat, k ≤ t.pend.length ∧ i = .int .i64 k ∧ Only (fun j => j = lb) w1 wr ∧ ∃ n, MidAt wr lb (over t.last (t.pend.take k)) n ∧ n + t.pend.length ≤ t.k + k) (fun i _ => t.pend.length - (intOf i).toNat)
  case atStart =>
    obtain ⟨m, D, h1, h2, h3⟩ := HD1.out.last
    exact ⟨0, Nat.zero_le _, rfl, Only.refl _ _, m, ⟨m, D, h1, Nat.le_refl _, h3⟩, h2⟩
  case round =>
    obtain ⟨k, hk, rfl, hOr, m, hM, hmk⟩ := hrel
    have HOR := Lib.hid hOr
    have HM := Lib.hid hM
    have HMK := Lib.hid hmk
    clear hOr hM hmk
    by_cases hlt : k < t.pend.length
    · obtain ⟨p, hp⟩ : ∃ p, t.pend[k]? = some p := ⟨_, List.getElem?_eq_getElem hlt⟩
      obtain ⟨g, cap, hpv, -, -⟩ := HD1.out.pendHead hp
      simp only [Value.slice.injEq, true_and] at hpv
      obtain ⟨rfl, rfl⟩ := hpv
      have HP := Lib.hid hp
      have HRNG := Lib.hid (rangeAt_only (HD1.out.pendAt rfl hp) HOR.out (HD1.out.pv_lb g rfl))
      have HPL := Lib.hid (HD1.out.lens p (List.mem_of_getElem? hp))
      have HPW := Lib.hid (HD1.out.wfs p (List.mem_of_getElem? hp))
      have HBX : Hid (wr.heap[db]? = some (.cells (boxOf ⟨db, lb, nb, .slice (some ⟨g, 0, none⟩) t.pend.length pc⟩ t) 66 (0, 0))) := Lib.hid (HOR.out.heap HD1.out.box HD1.out.db_lb)
      have HWL := Lib.hid (wrow_length p HPL.out)
      have hs : Hid ((wrow p).toArray.size = 257) := Lib.hid (by simpa using HWL.out)
      have hone : Hid ((wrow p).toArray.all (·.oneCell') = true) := Lib.hid (all_oneCell_toArray (wrow_one p))
      have hlt' : (k : Int) < (t.pend.length : Int) := by omega
      clear hp
      go_wp2_with (first | (refine wpList_load_mid rfl 72 (.tmp 19) rfl g (k * 257) rfl (wrow p) _ HRNG.out Try.underlying72 rfl (by rw [HWL.out]; exact hi72) ?_) | (refine wpList_store_row rfl 72 (.tmp 4) (.tmp 20) rfl wr.heap.size (wrow p).toArray rfl rfl 72 Z (heap_alloc_last _ _) (by rw [hs.out]; exact hi72) (by rw [hZs.out, hs.out]) hone.out ?_; rw [World.setRow_alloc_new]))
      have hbx : (wr.alloc (.cells (wrow p).toArray 72)).heap[db]? = some (.cells (boxOf ⟨db, lb, nb, .slice (some ⟨g, 0, none⟩) t.pend.length pc⟩ t) 66 (0, 0)) := by
        rw [Below.heap_alloc _ _ _ (heap_lt HBX.out)]; exact HBX.out
      have x1 : (wr.alloc (.cells (wrow p).toArray 72)).cell? ⟨db, 1, none⟩ = some (.map (some lb)) := by rw [Lib.cell_of_heap hbx]; rfl
      have x2 : (wr.alloc (.cells (wrow p).toArray 72)).cell? ⟨wr.heap.size, 0, none⟩ = some (.int .i64 p.1) := by rw [Lib.cell_of_heap (heap_alloc_last _ _)]; simp [wrow]
      have HR2 : Hid ((wr.alloc (.cells (wrow p).toArray 72)).rangeAt wr.heap.size 1 (Lib.byteCells p.2)) := Lib.hid (fun j v hv => by
        rw [Lib.cell_of_heap (heap_alloc_last _ _), Nat.add_comm 1 j]
        simpa [wrow] using hv)
      have HOW := Lib.hid (HOR.out.alloc (.cells (wrow p).toArray 72))
      have HMW : Hid (MidAt (wr.alloc (.cells (wrow p).toArray 72)) lb (over t.last (t.pend.take k)) m) := Lib.hid (HM.out.only ((Only.refl (fun _ => False) wr).alloc _) (fun e => e))
      clear hbx
      generalize wr.alloc (.cells (wrow p).toArray 72) = W at *
      (try go_frame)
      refine wp_region_still_tail 8 (by kernel_rfl) (by kernel_rfl) ?_
      simp only [List.take_succ_cons, List.take_zero, List.drop_succ_cons, List.drop_zero]
      still_step
      still_step
      still_step
      still_step
      still_step
      still_step
      still_step
      refine wpStill_step (fun K hK => ?_)
      refine step_still_load rfl 70 (.tmp 27) rfl wr.heap.size 1 rfl (Lib.byteCells p.2) _ HR2.out Try.underlying70 rfl (by simp [Lib.byteCells, HPL.out, hi70]) ?_
      refine hK _ ?_
      clear hK K
      refine wpStill_nil ?_
      change wpList _ _ _ _ _ W.drew
      have HO3 := Lib.hid HOW.out.drew
      have HM3 : Hid (MidAt W.drew lb (over t.last (t.pend.take k)) m) := Lib.hid HMW.out
      generalize W.drew = W3 at *
      clear HOW HMW x1 x2 HR2
      obtain ⟨m', D, hom, hmm', hli⟩ := HM3.out
      have HOM := Lib.hid hom
      have HLI := Lib.hid hli
      have HMM := Lib.hid hmm'
      clear hom hli hmm'
      go_wp2_with (at_mapUpdate; refine wpList_mapUpdate_own _ rfl _ _ _ 57 rfl 3 70 key3 Try.underlying57 secElem lb m' D rfl HOM.out (by have h1 := HMM.out; have h2 := HMK.out; have h3 := HK.out; unfold maxLen; omega) _ (secV p.2) (kInt p.1) rfl rfl (keyOf_int_mk Try.underlying3 HPW.out) (.lit (.string p.2)) [] (secElem_mk HPL.out) ?_; intro w5 hown5 hgrow5)
      have HO5 := Lib.hid (HO3.out.trans (Only.of_grown (S := fun j => j = lb) hgrow5 (fun j hj => (Option.some.inj hj).symm)) (fun j e => .inl e))
      have HM5 : Hid (MidAt w5 lb (over t.last (t.pend.take (k + 1))) (m + 1)) := Lib.hid (by
        rw [over_take HP.out]
        exact ⟨m' + 1, _, hown5, by have := HMM.out; omega, lastIs_put HLI.out HOM.out.isMap p.1 p.2⟩)
      clear hown5 hgrow5
      go_wp2_with fail
      go_roundw
      case rel => exact ⟨k + 1, by omega, by go_num, HO5.out, m + 1, HM5.out, by have := HMK.out; omega⟩
      case measure => simp [intOf]; omega
    · obtain rfl : k = t.pend.length := by omega
      have HB := Lib.hid (HOR.out.heap HD1.out.box HD1.out.db_lb)
      have y0 : wr.frozen? ⟨db, 2, none⟩ = false := by simp [World.frozen?, HB.out]
      have y1 : wr.frozen? ⟨db, 3, none⟩ = false := by simp [World.frozen?, HB.out]
      have y2 : wr.cell? ⟨db, 2, none⟩ = some (.slice pa t.pend.length pc) := by rw [Lib.cell_of_heap HB.out]; rfl
      have y3 : wr.cell? ⟨db, 3, none⟩ = some (.map (some nb)) := by rw [Lib.cell_of_heap HB.out]; rfl
      have hdl := heap_lt HB.out
      dsimp only at hdl
      have hS := sync_disk HD1.out HOR.out (by
        have h1 := HM.out
        rw [List.take_length] at h1
        obtain ⟨m', D, h2, h3, h4⟩ := h1
        exact ⟨m', D, h2, by have := HMK.out; omega, h4⟩)
      dsimp only at hS
      rw [World.setCell_alloc_past _ _ _ _ hdl, World.setCell_alloc_past _ _ _ _ (by simpa [World.setCell] using hdl)] at hS
      obtain ⟨hd6, hO6, hf6⟩ := hS
      have HD6 := Lib.hid hd6
      have HO6 := Lib.hid hO6
      have HF6 := Lib.hid hf6
      clear hd6 hO6 hf6
      go_wp2_with fail
      generalize (((wr.setCell ⟨db, 2, none⟩ (.slice none 0 0)).setCell ⟨db, 3, none⟩ (.map (some wr.heap.size))).alloc (.map #[] 0)) = w6 at *
      refine (addS_any HD6.out).mono ?_
      rintro e w7 ⟨rfl, hd7, hO7⟩
      have HEND : Hid (Became ⟨db, lb, nb, .slice pa t.pend.length pc⟩ w t.didSync w7) := Lib.hid (
        Became.andThen (a := ⟨db, lb, nb, .slice pa t.pend.length pc⟩) ((HO1.out.mono (T := DA.foot ⟨db, lb, nb, .slice pa t.pend.length pc⟩) (fun j e => .inl e)).trans HO6.out (fun j e => .inl e)) (fun k hk => (HF6.out k hk).imp id (fun h => Nat.le_trans HO1.out.size h)) rfl (Became.same hd7 (hO7.mono (fun j e => .inl e))))
      clear hd7 hO7
      go_wp2_with fail
      go_ret
      exact ⟨rfl, HEND.out⟩

set_option maxHeartbeats 4000000 in
set_option maxRecDepth 100000 in
theorem sync_down {a : DA} {s : DS} {w : World} (h : DiskAt w a s) (hd : s.down = true) :
    Calls Try.prog 20 #[ptr a] w fun e w' => e = .returned (.int .i64 7) ∧ w = w' := by
  have DOWN := Lib.hid (down_any h)
  rw [hd] at DOWN
  clear h hd
  unfold ptr at DOWN ⊢
  go_enter Try.func20, Try.ntmps20
  go_wp2_with fail
  refine (DOWN.out).mono ?_
  rintro e w1 ⟨rfl, rfl⟩
  go_wp2_with fail
  go_ret
  exact ⟨rfl, rfl⟩

set_option maxHeartbeats 4000000 in
set_option maxRecDepth 100000 in
theorem sync_lost {a : DA} {s : DS} {w : World} (h : DiskAt w a s) (hd : s.down = false) (ho : s.okB = false) :
    Calls Try.prog 20 #[ptr a] w fun e w' => e = .returned (.int .i64 7) ∧ DiskAt w' a s.spent ∧ Only (fun k => k = a.db) w w' := by
  have DOWN := Lib.hid (down_any h)
  have SPEND := Lib.hid (spend_any h)
  rw [hd] at DOWN
  rw [ho] at SPEND
  clear h hd ho
  unfold ptr at DOWN SPEND ⊢
  go_enter Try.func20, Try.ntmps20
  go_wp2_with fail
  refine (DOWN.out).mono ?_
  rintro e w1 ⟨rfl, rfl⟩
  go_wp2_with fail
  refine (SPEND.out).mono ?_
  rintro e w1 ⟨rfl, hd1, hO1⟩
  have HD1 := Lib.hid hd1
  have HO1 := Lib.hid hO1
  clear hd1 hO1
  go_wp2_with fail
  go_ret
  exact ⟨rfl, HD1.out, HO1.out⟩

/-- What is answered, and the disk behind it. -/
def DS.synced (s : DS) : Int × DS := if s.down then (7, s) else if s.okB then (0, s.spent.didSync) else (7, s.spent)

theorem sync_any {a : DA} {s : DS} {w : World} (h : DiskAt w a s) (hk : s.k < 1073741824) :
    Calls Try.prog 20 #[ptr a] w fun e w' => e = .returned (.int .i64 s.synced.1) ∧ Became a w s.synced.2 w' := by
  rcases hd : s.down with _ | _
  · rcases ho : s.okB with _ | _
    · rw [show s.synced = (7, s.spent) by unfold DS.synced; rw [hd, ho]; rfl]
      exact (sync_lost h hd ho).mono fun e w' ⟨h1, h2, h3⟩ => ⟨h1, Became.same h2 (h3.mono (fun j e => .inl e))⟩
    · rw [show s.synced = (0, s.spent.didSync) by unfold DS.synced; rw [hd, ho]; rfl]
      exact sync_some h hk hd ho
  · rw [show s.synced = (7, s) by unfold DS.synced; rw [hd]; rfl]
    exact (sync_down h hd).mono fun e w' ⟨h1, h2⟩ => ⟨h1, h2 ▸ Became.refl h⟩
end Go.Proofs.Ytaaceaojgbicaaa
