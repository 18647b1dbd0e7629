/- Cut: a new disk of what lasts and of the pending writes that are kept; this one stays; under 2^30 writes. -/
import Derived.Test.YtaaceaojgbicaaaCutd
namespace Go.Proofs.Ytaaceaojgbicaaa
open Go.ChangeShapes Go.WideShapes Go.Deep Go.RowKit Go.Lib Go.Maps

theorem ownsMap_zero {w : World} {b : Nat} {D : DataW Unit} {R : Value → Option (DataW Unit × List MemPlace)} (h : w.ownsMap Try.prog 3 R b 0 D) : D = .map [] := by
  obtain ⟨es, clock, _, _, hs, rfl⟩ := h
  have : es = #[] := Array.eq_empty_of_size_eq_zero (by omega)
  subst this
  rfl

set_option maxHeartbeats 4000000 in
set_option maxRecDepth 100000 in
theorem cut_any {a : DA} {s : DS} {w : World} (h : DiskAt w a s) (hk : s.k < 1073741824) (ka : Option Addr) (kc : Nat) (ks : List Bool) (hin : BoolsIn w ka ks) (hks : ks.length ≤ 9223372036854775807) :
    Calls Try.prog 22 #[ptr a, .slice ka ks.length kc] w (MadeDisk (s.cut ks) w) := by
  have SIZE := Lib.hid (size_any h)
  have NEW := Lib.hid (new_any s.size w)
  have hcl : clampN s.size = s.size := by have := h.size; unfold clampN; omega
  rw [hcl] at NEW
  have Z70 := zero70r
  obtain ⟨Z, hZ⟩ : ∃ Z, (Lib.byteCells zeroS).toArray = Z := ⟨_, rfl⟩
  have hZs : Hid (Z.size = 256) := Lib.hid (by rw [← hZ]; simp [Lib.byteCells, zeroS_length])
  rw [show secV zeroS = .agg Z by rw [← hZ]; rfl] at Z70
  have ZW := zero72
  obtain ⟨Y, hY⟩ : ∃ Z, zeroW.toArray = Z := ⟨_, rfl⟩
  rw [hY] at ZW
  have hYs : Hid (Y.size = 257) := Lib.hid (by rw [← hY]; exact zeroW_length)
  have H := Lib.hid h
  have HIN := Lib.hid hin
  have HK := Lib.hid hk
  obtain ⟨pa, pc, hpv, -, -⟩ := pv_slice h
  clear hZ hY hcl h hin hk
  obtain ⟨db, lb, nb, pv⟩ := a
  dsimp only at hpv
  subst hpv
  unfold ptr at SIZE ⊢
  go_enter Try.func22, Try.ntmps22
  go_wp2_with fail
  refine (SIZE.out).mono ?_
  rintro e w1 ⟨rfl, rfl⟩
  go_wp2_with fail
  refine (NEW.out).mono ?_
  rintro e w1 ⟨a2, rfl, hd2, hb2, hf2⟩
  clear SIZE NEW
  obtain ⟨cdb, clb, cnb, cpv⟩ := a2
  have HD1 := Lib.hid (H.out.below hb2)
  have HC1 := Lib.hid hd2
  have HB1 := Lib.hid hb2
  have HF1 := Lib.hid hf2
  have HI1 := Lib.hid (HIN.out.below hb2)
  clear hd2 hb2 hf2
  have c1 := HD1.out.cells.2.1
  dsimp only at c1
  obtain ⟨m0, D0, hom0, hmk0, hli0⟩ := HD1.out.last
  have HOM0 := Lib.hid hom0
  have HMK0 := Lib.hid hmk0
  have HLI0 := Lib.hid hli0
  clear hom0 hmk0 hli0
  unfold ptr
  dsimp only
  go_wp2_with (at_range; refine wpList_range_own _ rfl _ 57 rfl 3 70 key3 Try.underlying57 secElem lb m0 D0 rfl HOM0.out ?_; intro w0 hrg0 hg0 hs0)
  (try go_frame)
  clear c1
  have HLB : Hid (lb ≠ clb ∧ lb ≠ w1.heap.size ∧ clb < w1.heap.size ∧ cdb ≠ clb ∧ db ≠ clb) := Lib.hid ⟨fun e => by
      have h1 := H.out.lt lb (.inr (.inl rfl))
      have h2 := HF1.out clb (.inr (.inl rfl))
      omega, fun e => by have := HD1.out.lt lb (.inr (.inl rfl)); omega, HC1.out.lt clb (.inr (.inl rfl)), HC1.out.db_lb, fun e => by
      have h1 := H.out.lt db (.inl rfl)
      have h2 := HF1.out clb (.inr (.inl rfl))
      omega⟩
  go_loopw [6] (fun _ wr => ∃ (left : Lit → Bool) (cnt : Nat) (Dout : DataW Unit), wr.ranges Try.prog 3 secElem lb w1.heap.size m0 D0 left cnt ∧ cnt ≤ Maps.size D0 ∧ wr.ownsMap Try.prog 3 secElem clb (Maps.size D0 - cnt) Dout ∧ Agree Dout D0 left ∧ Only (fun j => j = clb) w1 wr)
    (fun _ wr => wr.rangeLeft lb w1.heap.size)
  case atStart =>
    obtain ⟨n, D, h1, h2, h3⟩ := HC1.out.last
    have h4 : n = 0 := by simp [freshD] at h2; omega
    subst h4
    obtain rfl := ownsMap_zero h1
    exact ⟨_, _, .map [], hrg0, Nat.le_refl _, ((h1.kept hg0 (by simp)).mono (Nat.zero_le _)), agree_start D0, Only.of_grown (S := fun j => j = clb) hg0 (fun k hk => by cases hk)⟩
  case round =>
    obtain ⟨left, cnt, Dout, hrg, hcs, hout, hA, hO⟩ := hrel
    have HRG := Lib.hid hrg
    have HOUT := Lib.hid hout
    have HA := Lib.hid hA
    have HO := Lib.hid hO
    have HCS := Lib.hid hcs
    clear hrg hout hA hO hcs
    go_wp2_with (at_next; refine wpList_next_sec _ rfl _ rfl lb w1.heap.size m0 D0 left cnt rfl HRG.out ?_ ?_)
    · intro hc0 hl0
      subst hc0
      have HE := Lib.hid (agree_end HA.out hl0 (HOUT.out.canon key3) (HOM0.out.canon key3))
      have HM0 : Hid (MidAt wr clb s.last (Maps.size D0)) := Lib.hid ⟨_, D0, HE.out ▸ HOUT.out, by omega, HLI0.out⟩
      have HSZ : Hid (Maps.size D0 + s.pend.length ≤ s.k) := Lib.hid (by have h1 := HOM0.out.size_le; have h2 := HMK0.out; omega)
      have HBR := Lib.hid (HO.out.heap HD1.out.box HLB.out.2.2.2.2)
      have c2 : wr.cell? ⟨db, 2, none⟩ = some (.slice pa s.pend.length pc) := by rw [Lib.cell_of_heap HBR.out]; rfl
      have hpk : s.pend.length ≤ 1073741824 := by have := HSZ.out; have := HK.out; omega
      clear HRG HOUT HA HCS HE hl0
      go_wp2_with fail
      clear c2
      go_loopw [37] (fun i wx => ∃ k : Nat, k ≤ s.pend.length ∧ i = .int .i64 k ∧ Only (fun j => j = clb) w1 wx ∧ ∃ m, MidAt wx clb (over s.last (kept ks 0 (s.pend.take k))) m ∧ m + s.pend.length ≤ s.k + k) (fun i _ => s.pend.length - (intOf i).toNat)
      case atStart => exact ⟨0, Nat.zero_le _, rfl, HO.out, _, HM0.out, by have := HSZ.out; omega⟩
      case round =>
        obtain ⟨k, hk, rfl, hOr, m, hM, hmk⟩ := hrel
        have HOX := Lib.hid hOr
        have HM := Lib.hid hM
        have HMK := Lib.hid hmk
        clear hOr hM hmk HO HM0 HBR
        by_cases hlt : k < s.pend.length
        · obtain ⟨p, hp⟩ : ∃ p, s.pend[k]? = some p := ⟨_, List.getElem?_eq_getElem hlt⟩
          obtain ⟨g, cap, hpv, -, -⟩ := HD1.out.pendHead hp
          simp only [Value.slice.injEq, true_and] at hpv
          obtain ⟨rfl, rfl⟩ := hpv
          have HP := Lib.hid hp
          have HRNG := Lib.hid (rangeAt_only (HD1.out.pendAt rfl hp) HOX.out (fun e => by
            have h1 := H.out.lt g (.inr (.inr (.inr rfl)))
            have h2 := HF1.out clb (.inr (.inl rfl))
            omega))
          have HPL := Lib.hid (HD1.out.lens p (List.mem_of_getElem? hp))
          have HPW := Lib.hid (HD1.out.wfs p (List.mem_of_getElem? hp))
          have HWL := Lib.hid (wrow_length p HPL.out)
          have hs : Hid ((wrow p).toArray.size = 257) := Lib.hid (by simpa using HWL.out)
          have hone : Hid ((wrow p).toArray.all (·.oneCell') = true) := Lib.hid (all_oneCell_toArray (wrow_one p))
          have hlt' : (k : Int) < (s.pend.length : Int) := by omega
          have HOW := Lib.hid (HOX.out.alloc (.cells (wrow p).toArray 72))
          have HMW : Hid (MidAt (wr.alloc (.cells (wrow p).toArray 72)) clb (over s.last (kept ks 0 (s.pend.take k))) m) := Lib.hid (HM.out.only ((Only.refl (fun _ => False) wr).alloc _) (fun e => e))
          clear hp
          by_cases hks0 : ks = []
          · have HKB : Hid (keepB ks k = true) := Lib.hid (by rw [hks0]; rfl)
            have HKS := Lib.hid hks0
            have e0 : ((ks.length : Int) == 0) = true := by rw [HKS.out]; rfl
            clear hks0
            go_wp2_with (first | (refine wpList_load_mid rfl 72 (.tmp 40) rfl g (k * 257) rfl (wrow p) _ HRNG.out Try.underlying72 rfl (by rw [HWL.out]; exact hi72) ?_) | (refine wpList_store_row rfl 72 (.tmp 9) (.tmp 41) rfl wr.heap.size (wrow p).toArray rfl rfl 72 Y (heap_alloc_last _ _) (by rw [hs.out]; exact hi72) (by rw [hYs.out, hs.out]) hone.out ?_; rw [World.setRow_alloc_new]))
            have hbx : (wr.alloc (.cells (wrow p).toArray 72)).heap[cdb]? = some (.cells (boxOf ⟨cdb, clb, cnb, cpv⟩ (freshD s.size)) 66 (0, 0)) := by
              have h1 := HOX.out.heap HC1.out.box HC1.out.db_lb
              rw [Below.heap_alloc _ _ _ (heap_lt h1)]; exact h1
            have x1 : (wr.alloc (.cells (wrow p).toArray 72)).cell? ⟨cdb, 1, none⟩ = some (.map (some clb)) := by rw [Lib.cell_of_heap hbx]; rfl
            have x2 : (wr.alloc (.cells (wrow p).toArray 72)).cell? ⟨wr.heap.size, 0, none⟩ = some (.int .i64 p.1) := by rw [Lib.cell_of_heap (heap_alloc_last _ _)]; simp [wrow]
            have HR2 : Hid ((wr.alloc (.cells (wrow p).toArray 72)).rangeAt wr.heap.size 1 (Lib.byteCells p.2)) := Lib.hid (fun j v hv => by
              rw [Lib.cell_of_heap (heap_alloc_last _ _), Nat.add_comm 1 j]
              simpa [wrow] using hv)
            clear hbx
            generalize wr.alloc (.cells (wrow p).toArray 72) = W at *
            (try go_frame)
            refine wp_region_still_tail 8 (by kernel_rfl) (by kernel_rfl) ?_
            simp only [List.take_succ_cons, List.take_zero, List.drop_succ_cons, List.drop_zero]
            still_step
            still_step
            still_step
            still_step
            still_step
            still_step
            still_step
            refine wpStill_step (fun K hK => ?_)
            refine step_still_load rfl 70 (.tmp 60) rfl wr.heap.size 1 rfl (Lib.byteCells p.2) _ HR2.out Try.underlying70 rfl (by simp [Lib.byteCells, HPL.out, hi70]) ?_
            refine hK _ ?_
            clear hK K
            refine wpStill_nil ?_
            change wpList _ _ _ _ _ W.drew
            have HO3 := Lib.hid HOW.out.drew
            have HM3 : Hid (MidAt W.drew clb (over s.last (kept ks 0 (s.pend.take k))) m) := Lib.hid HMW.out
            generalize W.drew = W3 at *
            clear HOW HMW x1 x2 HR2
            obtain ⟨m', D, hom, hmm', hli⟩ := HM3.out
            have HOM := Lib.hid hom
            have HLI := Lib.hid hli
            have HMM := Lib.hid hmm'
            clear hom hli hmm'
            go_wp2_with (at_mapUpdate; refine wpList_mapUpdate_own _ rfl _ _ _ 57 rfl 3 70 key3 Try.underlying57 secElem clb m' D rfl HOM.out (by have h1 := HMM.out; have h2 := HMK.out; have h3 := HK.out; unfold maxLen; omega) _ (secV p.2) (kInt p.1) rfl rfl (keyOf_int_mk Try.underlying3 HPW.out) (.lit (.string p.2)) [] (secElem_mk HPL.out) ?_; intro w5 hown5 hgrow5; go_frame)
            have HO5 := Lib.hid (HO3.out.trans (Only.of_grown (S := fun j => j = clb) hgrow5 (fun j hj => (Option.some.inj hj).symm)) (fun j e => .inl e))
            have HM5 : Hid (MidAt w5 clb (over s.last (kept ks 0 (s.pend.take (k + 1)))) (m + 1)) := Lib.hid (by
              rw [kept_take ks HP.out, if_pos HKB.out, over_snoc]
              exact ⟨m' + 1, _, hown5, by have := HMM.out; omega, lastIs_put HLI.out HOM.out.isMap p.1 p.2⟩)
            clear hown5 hgrow5
            go_wp2_with fail
            go_roundw
            case rel => exact ⟨k + 1, by omega, by go_num, HO5.out, m + 1, HM5.out, by have := HMK.out; omega⟩
            case measure => simp [intOf]; omega
          · have hpos : 0 < ks.length := List.length_pos_iff.2 hks0
            have hne := hks0
            clear hks0
            have e0 : ((ks.length : Int) == 0) = false := by rw [beq_eq_false_iff_ne]; omega
            obtain ⟨q, hq⟩ : ∃ q, k % ks.length = q := ⟨_, rfl⟩
            have hql : q < ks.length := hq ▸ Nat.mod_lt _ hpos
            obtain ⟨kb, ko, rfl, hkc⟩ : ∃ b o, ka = some ⟨b, o, none⟩ ∧ ∀ j (h : j < ks.length), w.cell? ⟨b, o + j, none⟩ = some (.bool ks[j]) := by
              rcases HIN.out with h | h
              · exact absurd h hne
              · exact h
            have hkb : keepB ks k = ks[q] := by
              unfold keepB
              rw [hq, List.getD_eq_getElem?_getD, List.getElem?_eq_getElem hql]
              cases ks with
              | nil => simp at hpos
              | cons _ _ => rfl
            have hkw : (wr.alloc (.cells (wrow p).toArray 72)).cell? ⟨kb, ko + q, none⟩ = some (.bool ks[q]) := by
              have h1 := hkc q hql
              have h2 : kb < w.heap.size := World.block_lt_of_cell? w _ h1
              have h3 : w.heap.size ≤ clb := HF1.out clb (.inr (.inl rfl))
              have h4 := HB1.out.size
              have h5 := HOX.out.size
              rw [World.cell?_of_block (w := w) (a := ⟨kb, ko + q, none⟩) (by
                show (wr.alloc _).heap[kb]? = w.heap[kb]?
                rw [Below.heap_alloc _ _ _ (by omega), HOX.out.block kb (by omega) (by omega), HB1.out.block kb h2])]
              exact h1
            have q1 : (k : Int) % (ks.length : Int) = (q : Int) := by rw [← hq]; exact (Int.natCast_emod k ks.length).symm
            have q2 : Int.tmod (k : Int) (ks.length : Int) = (q : Int) := by rw [← q1]; exact Int.tmod_eq_emod_of_nonneg (by omega)
            have hql' : (q : Int) < (ks.length : Int) := by omega
            rw [← hkb] at hkw
            clear hq hkc hne
            rcases hKB : keepB ks k with _ | _
            · rw [hKB] at hkw
              have HKB := Lib.hid hKB
              clear hKB hkb
              go_wp2_with (first | (refine wpList_load_mid rfl 72 (.tmp 40) rfl g (k * 257) rfl (wrow p) _ HRNG.out Try.underlying72 rfl (by rw [HWL.out]; exact hi72) ?_) | (refine wpList_store_row rfl 72 (.tmp 9) (.tmp 41) rfl wr.heap.size (wrow p).toArray rfl rfl 72 Y (heap_alloc_last _ _) (by rw [hs.out]; exact hi72) (by rw [hYs.out, hs.out]) hone.out ?_; rw [World.setRow_alloc_new]))
              clear hkw e0 q1 q2 HMW
              go_roundw
              case rel => exact ⟨k + 1, by omega, by go_num, HOW.out, m, by
                have h1 := HM.out.only ((Only.refl (fun _ => False) wr).alloc (.cells (wrow p).toArray 72)) (fun e => e)
                rw [kept_take ks HP.out, if_neg (by rw [HKB.out]; decide), List.append_nil]
                exact h1, by have := HMK.out; omega⟩
              case measure => simp [intOf]; omega
            · rw [hKB] at hkw
              have HKB := Lib.hid hKB
              clear hKB hkb
              go_wp2_with (first | (refine wpList_load_mid rfl 72 (.tmp 40) rfl g (k * 257) rfl (wrow p) _ HRNG.out Try.underlying72 rfl (by rw [HWL.out]; exact hi72) ?_) | (refine wpList_store_row rfl 72 (.tmp 9) (.tmp 41) rfl wr.heap.size (wrow p).toArray rfl rfl 72 Y (heap_alloc_last _ _) (by rw [hs.out]; exact hi72) (by rw [hYs.out, hs.out]) hone.out ?_; rw [World.setRow_alloc_new]))
              clear hkw e0 q1 q2
              have hbx : (wr.alloc (.cells (wrow p).toArray 72)).heap[cdb]? = some (.cells (boxOf ⟨cdb, clb, cnb, cpv⟩ (freshD s.size)) 66 (0, 0)) := by
                have h1 := HOX.out.heap HC1.out.box HC1.out.db_lb
                rw [Below.heap_alloc _ _ _ (heap_lt h1)]; exact h1
              have x1 : (wr.alloc (.cells (wrow p).toArray 72)).cell? ⟨cdb, 1, none⟩ = some (.map (some clb)) := by rw [Lib.cell_of_heap hbx]; rfl
              have x2 : (wr.alloc (.cells (wrow p).toArray 72)).cell? ⟨wr.heap.size, 0, none⟩ = some (.int .i64 p.1) := by rw [Lib.cell_of_heap (heap_alloc_last _ _)]; simp [wrow]
              have HR2 : Hid ((wr.alloc (.cells (wrow p).toArray 72)).rangeAt wr.heap.size 1 (Lib.byteCells p.2)) := Lib.hid (fun j v hv => by
                rw [Lib.cell_of_heap (heap_alloc_last _ _), Nat.add_comm 1 j]
                simpa [wrow] using hv)
              clear hbx
              generalize wr.alloc (.cells (wrow p).toArray 72) = W at *
              (try go_frame)
              refine wp_region_still_tail 8 (by kernel_rfl) (by kernel_rfl) ?_
              simp only [List.take_succ_cons, List.take_zero, List.drop_succ_cons, List.drop_zero]
              still_step
              still_step
              still_step
              still_step
              still_step
              still_step
              still_step
              refine wpStill_step (fun K hK => ?_)
              refine step_still_load rfl 70 (.tmp 60) rfl wr.heap.size 1 rfl (Lib.byteCells p.2) _ HR2.out Try.underlying70 rfl (by simp [Lib.byteCells, HPL.out, hi70]) ?_
              refine hK _ ?_
              clear hK K
              refine wpStill_nil ?_
              change wpList _ _ _ _ _ W.drew
              have HO3 := Lib.hid HOW.out.drew
              have HM3 : Hid (MidAt W.drew clb (over s.last (kept ks 0 (s.pend.take k))) m) := Lib.hid HMW.out
              generalize W.drew = W3 at *
              clear HOW HMW x1 x2 HR2
              obtain ⟨m', D, hom, hmm', hli⟩ := HM3.out
              have HOM := Lib.hid hom
              have HLI := Lib.hid hli
              have HMM := Lib.hid hmm'
              clear hom hli hmm'
              go_wp2_with (at_mapUpdate; refine wpList_mapUpdate_own _ rfl _ _ _ 57 rfl 3 70 key3 Try.underlying57 secElem clb m' D rfl HOM.out (by have h1 := HMM.out; have h2 := HMK.out; have h3 := HK.out; unfold maxLen; omega) _ (secV p.2) (kInt p.1) rfl rfl (keyOf_int_mk Try.underlying3 HPW.out) (.lit (.string p.2)) [] (secElem_mk HPL.out) ?_; intro w5 hown5 hgrow5; go_frame)
              have HO5 := Lib.hid (HO3.out.trans (Only.of_grown (S := fun j => j = clb) hgrow5 (fun j hj => (Option.some.inj hj).symm)) (fun j e => .inl e))
              have HM5 : Hid (MidAt w5 clb (over s.last (kept ks 0 (s.pend.take (k + 1)))) (m + 1)) := Lib.hid (by
                rw [kept_take ks HP.out, if_pos HKB.out, over_snoc]
                exact ⟨m' + 1, _, hown5, by have := HMM.out; omega, lastIs_put HLI.out HOM.out.isMap p.1 p.2⟩)
              clear hown5 hgrow5
              go_wp2_with fail
              go_roundw
              case rel => exact ⟨k + 1, by omega, by go_num, HO5.out, m + 1, HM5.out, by have := HMK.out; omega⟩
              case measure => simp [intOf]; omega
        · obtain rfl : k = s.pend.length := by omega
          have HEND : Hid (DiskAt wr ⟨cdb, clb, cnb, cpv⟩ (s.cut ks)) := Lib.hid (cut_disk HC1.out HOX.out (by
            have h1 := HM.out
            rw [List.take_length] at h1
            obtain ⟨m', D, h2, h3, h4⟩ := h1
            exact ⟨m', D, h2, by have := HMK.out; omega, h4⟩) (over_length H.out.lastlen (fun p hp => H.out.lens p (kept_mem ks 0 _ p hp))))
          go_wp2_with fail
          go_ret
          exact ⟨⟨cdb, clb, cnb, cpv⟩, rfl, HEND.out, HB1.out.trans (HOX.out.below HB1.out.size (fun j e => e ▸ HF1.out clb (.inr (.inl rfl)))), HF1.out⟩
    · intro x c w2 cnt2 hwx hlc hlx hat hrg2 hlt2 hg2 hs2 hen
      have HRG2 := Lib.hid hrg2
      have HAT := Lib.hid hat
      have HG2 := Lib.hid hg2
      have HLC := Lib.hid hlc
      have HWX := Lib.hid hwx
      have HLT2 := Lib.hid hlt2
      have HO2 : Hid (Only (fun j => j = clb) w1 w2) := Lib.hid (HO.out.trans (Only.of_grown (S := fun j => j = w1.heap.size) hg2 (fun k hk => (Option.some.inj hk).symm)) (fun j e => .inr (Nat.le_of_eq e.symm)))
      have HOUT2 : Hid (w2.ownsMap Try.prog 3 secElem clb (Maps.size D0 - cnt) Dout) := Lib.hid (HOUT.out.kept hg2 (fun e => by have := Option.some.inj e; have := HLB.out.2.2.1; omega))
      clear hrg2 hat hg2 hlc hwx hlt2 hlx hs2
      have hcs : Hid ((Lib.byteCells c).toArray.size = 256) := Lib.hid (by simp [Lib.byteCells, HLC.out])
      have hcone : Hid ((Lib.byteCells c).toArray.all (·.oneCell') = true) := Lib.hid (all_oneCell_toArray (byteCells_one _))
      go_wp2_with (refine wpList_store_row rfl 70 (.tmp 7) (.tmp 25) rfl w2.heap.size (Lib.byteCells c).toArray rfl rfl 70 Z (heap_alloc_last _ _) (by rw [hcs.out]; exact hi70) (by rw [hZs.out, hcs.out]) hcone.out ?_; rw [World.setRow_alloc_new])
      have hbx : (w2.alloc (.cells (Lib.byteCells c).toArray 70)).heap[cdb]? = some (.cells (boxOf ⟨cdb, clb, cnb, cpv⟩ (freshD s.size)) 66 (0, 0)) := by
        have h1 := HO2.out.heap HC1.out.box HC1.out.db_lb
        rw [Below.heap_alloc _ _ _ (heap_lt h1)]; exact h1
      have x1 : (w2.alloc (.cells (Lib.byteCells c).toArray 70)).cell? ⟨cdb, 1, none⟩ = some (.map (some clb)) := by rw [Lib.cell_of_heap hbx]; rfl
      have HR2 : Hid ((w2.alloc (.cells (Lib.byteCells c).toArray 70)).rangeAt w2.heap.size 0 (Lib.byteCells c)) := Lib.hid (fun j v hv => by
        rw [Lib.cell_of_heap (heap_alloc_last _ _), Nat.zero_add]
        simpa using hv)
      have HOW := Lib.hid (HO2.out.alloc (.cells (Lib.byteCells c).toArray 70))
      have HRW := Lib.hid (HRG2.out.alloc (.cells (Lib.byteCells c).toArray 70))
      have HUW := Lib.hid (HOUT2.out.alloc (.cells (Lib.byteCells c).toArray 70))
      clear hbx hen
      generalize w2.alloc (.cells (Lib.byteCells c).toArray 70) = W at *
      (try go_frame)
      refine wp_region_still_tail 6 (by kernel_rfl) (by kernel_rfl) ?_
      simp only [List.take_succ_cons, List.take_zero, List.drop_succ_cons, List.drop_zero]
      still_step
      still_step
      still_step
      still_step
      still_step
      refine wpStill_step (fun K hK => ?_)
      refine step_still_load rfl 70 (.tmp 7) rfl w2.heap.size 0 rfl (Lib.byteCells c) _ HR2.out Try.underlying70 rfl (by simp [Lib.byteCells, HLC.out, hi70]) ?_
      refine hK _ ?_
      clear hK K
      refine wpStill_nil ?_
      change wpList _ _ _ _ _ W.drew
      have HO3 := Lib.hid HOW.out.drew
      have HR3 : Hid (W.drew.ranges Try.prog 3 secElem lb w1.heap.size m0 D0 (fun z => left z && !z.sameKey (kInt x)) cnt2) := Lib.hid HRW.out
      have HU3 : Hid (W.drew.ownsMap Try.prog 3 secElem clb (Maps.size D0 - cnt) Dout) := Lib.hid HUW.out
      generalize W.drew = W3 at *
      clear HOW HRW HUW x1 HR2
      go_wp2_with (at_mapUpdate; refine wpList_mapUpdate_own _ rfl _ _ _ 57 rfl 3 70 key3 Try.underlying57 secElem clb _ Dout rfl HU3.out (by have h1 := HOM0.out.size_le; have h2 := HMK0.out; have h3 := HK.out; unfold maxLen; omega) _ (secV c) (kInt x) rfl rfl (keyOf_int_mk Try.underlying3 HWX.out) (.lit (.string c)) [] (secElem_mk HLC.out) ?_; intro w5 hown5 hgrow5; go_frame)
      have HO5 := Lib.hid (HO3.out.trans (Only.of_grown (S := fun j => j = clb) hgrow5 (fun j hj => (Option.some.inj hj).symm)) (fun j e => .inl e))
      have HR5 := Lib.hid (HR3.out.kept hgrow5 (fun e => HLB.out.1 (Option.some.inj e)) (fun e => by have := Option.some.inj e; have := HLB.out.2.2.1; omega))
      have HU5 := Lib.hid hown5
      clear hown5 hgrow5
      go_wp2_with fail
      go_roundw
      case rel => exact ⟨_, cnt2, _, HR5.out, by have := HLT2.out; have := HCS.out; omega, HU5.out.mono (by have := HLT2.out; have := HCS.out; omega), agree_step HA.out HU3.out.isMap (isKey x) HAT.out, HO5.out⟩
      case measure => rw [HR5.out.left_eq, HRG.out.left_eq]; exact HLT2.out
end Go.Proofs.Ytaaceaojgbicaaa
