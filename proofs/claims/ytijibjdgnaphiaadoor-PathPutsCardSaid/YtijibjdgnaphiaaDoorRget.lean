/- The value at a path's place, by the document's answer; for every value that lies in memory and every text of at most 2000 bytes. -/
import Derived.Test.YtijibjdgnaphiaaDoorPget
import Derived.Test.YtijibjdgnaphiaaDoorRplace
import Derived.Test.YtijibjdgnaphiaaDoorFormed
import Derived.Lib.QuietBelow
namespace Go.Proofs.YtijibjdgnaphiaaDoor
open Go.ChangeShapes Go.WideShapes Go.Deep Go.RowKit Go.Lib

set_option maxHeartbeats 1600000 in
set_option maxRecDepth 100000 in
theorem rget_bad (t : AV) (s : ByteArray) (w : World) (hin : t.In w) (hs : s.size ≤ 2000) (hbad : ¬ (stepErr s.data.toList = 0 ∧ AV.formedJ t 6 = true)) : Calls Tryd.prog 29 #[t.val, .string s] w (GetEnd none w) := by
  have ST := Lib.hid (fun W => (rSteps_any s W hs).mono fun _ _ h => StepsEnd.told h)
  have FO := Lib.hid (fun W (h : Below w.heap.size w W) => rFormed_any t W (hin.below h (Nat.le_refl _)))
  obtain ⟨er, her⟩ : ∃ er, stepErr s.data.toList = er := ⟨_, rfl⟩
  obtain ⟨F, hF⟩ : ∃ F, AV.formedJ t 6 = F := ⟨_, rfl⟩
  rw [her, hF] at hbad
  rw [her] at ST
  rw [hF] at FO
  have her2 : er = 0 ∨ er = 2 := by
    rw [← her]; unfold stepErr; split <;> simp
  clear her hF
  obtain ⟨k, n, str, na, nc, ns, xa, xc, xs⟩ := t
  simp only [AV.val, AV.row] at FO ⊢
  clear hin
  rcases her2 with rfl | rfl
  · have hF : F = false := by
      cases F
      · rfl
      · exact absurd ⟨rfl, rfl⟩ hbad
    subst hF
    clear hbad
    go_enter Tryd.func29, Tryd.ntmps29
    go_wp2_with fail
    refine (ST.out _).mono ?_
    rintro e w1 ⟨sa, sc, rfl, _, hb1, _⟩
    have hbx : w1.heap[w.heap.size]? = some (.cells #[.int .i64 k, .int .i64 n, .string str, .slice na ns.length nc, .slice xa xs.length xc] 25 (0, 0)) := by
      rw [hb1.block _ (by simp; omega)]; exact (two_box w _ _).1
    have hby : w1.heap[w.heap.size + 1]? = some (.cells #[.int .i64 0, .int .i64 0, .string ⟨#[]⟩, .slice none 0 0, .slice none 0 0] 25 (0, 0)) := by
      rw [hb1.block _ (by simp)]; exact (two_box w _ _).2
    have hbl : Below w.heap.size w w1 := (((Below.refl w.heap.size w).alloc (Nat.le_refl _) _).alloc (by simp) _).trans (hb1.mono (by simp; omega))
    obtain ⟨c0, c1, c2, c3, c4⟩ := bx5 hbx
    clear hb1 hbx
    go_wp2_with fail
    refine (FO.out _ hbl).mono ?_
    rintro e w2 ⟨rfl, hb2⟩
    have hby2 := (hb2.block _ (block_lt hby)).trans hby
    obtain ⟨d0, d1, d2, d3, d4⟩ := bx5 hby2
    obtain ⟨f0, f1, f2, f3, f4⟩ := fz5 hby2
    have hbl2 := hbl.trans (hb2.mono hbl.size)
    clear hby hby2 hb2 c0 c1 c2 c3 c4
    go_wp2_with fail
    exact bodyPost_ret (v := .tuple #[.agg #[.int .i64 0, .int .i64 0, .string ⟨#[]⟩, .slice none 0 0, .slice none 0 0], .bool false]) (by simp [results, Tryd.results29, go_sem, d0, d1, d2, d3, d4]) rfl ⟨below_five hbl2 (Nat.le_succ _) _ _ _ _ _, AV.zero, rfl, zero_in _, rfl⟩
  · clear hbad FO
    go_enter Tryd.func29, Tryd.ntmps29
    go_wp2_with fail
    refine (ST.out _).mono ?_
    rintro e w1 ⟨sa, sc, rfl, _, hb1, _⟩
    have hby : w1.heap[w.heap.size + 1]? = some (.cells #[.int .i64 0, .int .i64 0, .string ⟨#[]⟩, .slice none 0 0, .slice none 0 0] 25 (0, 0)) := by
      rw [hb1.block _ (by simp)]; exact (two_box w _ _).2
    have hbl : Below w.heap.size w w1 := (((Below.refl w.heap.size w).alloc (Nat.le_refl _) _).alloc (by simp) _).trans (hb1.mono (by simp; omega))
    obtain ⟨d0, d1, d2, d3, d4⟩ := bx5 hby
    obtain ⟨f0, f1, f2, f3, f4⟩ := fz5 hby
    clear hb1 hby
    go_wp2_with fail
    exact bodyPost_ret (v := .tuple #[.agg #[.int .i64 0, .int .i64 0, .string ⟨#[]⟩, .slice none 0 0, .slice none 0 0], .bool false]) (by simp [results, Tryd.results29, go_sem, d0, d1, d2, d3, d4]) rfl ⟨below_five hbl (Nat.le_succ _) _ _ _ _ _, AV.zero, rfl, zero_in _, rfl⟩

set_option maxHeartbeats 3200000 in
set_option maxRecDepth 100000 in
theorem rget_good (t : AV) (s : ByteArray) (w : World) (hin : t.In w) (hs : s.size ≤ 2000) (her : stepErr s.data.toList = 0) (hf : AV.formedJ t 6 = true) : Calls Tryd.prog 29 #[t.val, .string s] w (GetEnd (t.at (stepNames s.data.toList)) w) := by
  have ST := Lib.hid (fun W => (rSteps_any s W hs).mono fun _ _ h => StepsEnd.told h)
  have FO := Lib.hid (fun W (h : Below w.heap.size w W) => rFormed_any t W (hin.below h (Nat.le_refl _)))
  have SZ : Hid (∀ p ∈ stepNames s.data.toList, 0 < p.size ∧ p.size ≤ 60) := Lib.hid fun p hp => step_sizes hp
  have hlen := steps_len s.data.toList
  obtain ⟨ns, hns⟩ : ∃ ns, stepNames s.data.toList = ns := ⟨_, rfl⟩
  rw [her, hns] at ST
  rw [hf] at FO
  rw [hns] at SZ hlen ⊢
  obtain ⟨R, hR⟩ : ∃ R, t.at ns = R := ⟨_, rfl⟩
  rw [hR]
  have ALL : Hid (t.In w ∧ AV.formedJ t 6 = true ∧ t.at ns = R) := Lib.hid ⟨hin, hf, hR⟩
  clear her hf hns hR hin
  obtain ⟨k, n, str, na, nc, nms, xa, xc, xs⟩ := t
  simp only [AV.val, AV.row] at FO ⊢
  go_enter Tryd.func29, Tryd.ntmps29
  go_wp2_with fail
  refine (ST.out _).mono ?_
  rintro e w1 ⟨sa, sc, rfl, hsn, hb1, hfr⟩
  have HFR : Hid (∀ a, sa = some a → w.heap.size + 2 ≤ a.block) := Lib.hid (by simpa using hfr)
  clear hfr
  have hbx : w1.heap[w.heap.size]? = some (.cells #[.int .i64 k, .int .i64 n, .string str, .slice na nms.length nc, .slice xa xs.length xc] 25 (0, 0)) := by
    rw [hb1.block _ (by simp; omega)]; exact (two_box w _ _).1
  have hby : w1.heap[w.heap.size + 1]? = some (.cells #[.int .i64 0, .int .i64 0, .string ⟨#[]⟩, .slice none 0 0, .slice none 0 0] 25 (0, 0)) := by
    rw [hb1.block _ (by simp)]; exact (two_box w _ _).2
  have hbl : Below w.heap.size w w1 := (((Below.refl w.heap.size w).alloc (Nat.le_refl _) _).alloc (by simp) _).trans (hb1.mono (by simp; omega))
  obtain ⟨c0, c1, c2, c3, c4⟩ := bx5 hbx
  have HSN := Lib.hid hsn
  have HBX := Lib.hid hbx
  have HBY := Lib.hid hby
  clear hb1 hbx hby hsn
  go_wp2_with fail
  refine (FO.out _ hbl).mono ?_
  rintro e w2 ⟨rfl, hb2⟩
  have HBX2 := Lib.hid ((hb2.block _ (block_lt HBX.out)).trans HBX.out)
  have HBY2 := Lib.hid ((hb2.block _ (block_lt HBY.out)).trans HBY.out)
  have HSN2 := Lib.hid (NamesIn.later HSN.out hb2)
  have hbl2 := hbl.trans (hb2.mono hbl.size)
  clear hb2 c0 c1 c2 c3 c4 HBX HBY HSN hbl
  go_wp2_with fail
  go_loopg [8] ns.length (fun g iv wr => ∃ (j : Nat) (cur : AV) (lv : Nat), j + g = ns.length ∧ iv = .int .i64 (j : Int) ∧ Boxed w.heap.size cur wr ∧ wr.heap[w.heap.size + 1]? = some (.cells #[.int .i64 0, .int .i64 0, .string ⟨#[]⟩, .slice none 0 0, .slice none 0 0] 25 (0, 0)) ∧
    cur.In w ∧ AV.formedJ cur lv = true ∧ cur.at (ns.drop j) = R ∧ AV.NamesIn wr sa ns ∧ Below w.heap.size w wr)
  case atStart => exact ⟨0, .mk k n str na nc nms xa xc xs, 6, by omega, rfl, HBX2.out, HBY2.out, ALL.out.1, ALL.out.2.1, ALL.out.2.2, HSN2.out, hbl2⟩
  case round =>
    obtain ⟨j, cur, lv, hj, rfl, hbx, hby, hcin, hcf, hat, hsn, hb⟩ := hrel
    have HJ := Lib.hid hj
    have HAT := Lib.hid hat
    have HCF := Lib.hid hcf
    have HCIN := Lib.hid hcin
    have HBX := Lib.hid hbx
    have HBY := Lib.hid hby
    clear hj hat hcf hcin hby
    by_cases hlt : j < ns.length
    · obtain ⟨b, o, rfl, hit⟩ := hsn.resolve_left (by intro e; rw [e] at hlt; simp at hlt)
      have hc1 := hit j hlt
      obtain ⟨p, hp⟩ : ∃ p, ns[j] = p := ⟨_, rfl⟩
      have hdrop : ns.drop j = p :: ns.drop (j + 1) := by rw [List.drop_eq_getElem_cons hlt, hp]
      have hsz := SZ.out p (by rw [← hp]; exact List.getElem_mem hlt)
      rw [hp] at hc1
      have HSNW : Hid (AV.NamesIn wr (some ⟨b, o, none⟩) ns) := Lib.hid (.inr ⟨b, o, rfl, hit⟩)
      have FI := Lib.hid (fun W (h : Below w.heap.size w W) => rplace_any cur p W (HCIN.out.below h (Nat.le_refl _)) (by omega) lv HCF.out)
      have HD := Lib.hid hdrop
      have hq5 := fun d os => cell_regrown hc1 d os
      clear hp hdrop hit hsn hsz
      cases hpl : cur.place p with
      | none =>
        have hno : R = none := by rw [← HAT.out, HD.out, at_none hpl]
        rw [hpl] at FI
        clear hpl
        obtain ⟨k', n', s', na', nc', ns', xa', xc', xs'⟩ := cur
        unfold Boxed at hbx
        simp only [AV.val, AV.row, numI] at FI hbx
        obtain ⟨c0, c1, c2, c3, c4⟩ := bx5 hbx
        have hq0 := fun d os => cell_regrown c0 d os
        have hq1 := fun d os => cell_regrown c1 d os
        have hq2 := fun d os => cell_regrown c2 d os
        have hq3 := fun d os => cell_regrown c3 d os
        have hq4 := fun d os => cell_regrown c4 d os
        subst hno
        clear hbx
        go_wp2_with fail
        refine wp_region_quiet_below (by kernel_rfl) (by kernel_rfl) ?_
        repeat (go_big_quiet_step (exact Calls.regrown_of (FI.out _ (hb.trans ((below_regrown _ _ _).mono hb.size)))))
        refine wpQuiet_nil ?_
        intro _ hw'
        obtain ⟨⟨dq, osq⟩, hw''⟩ := hw'
        subst hw''
        have hbq := below_regrown wr dq osq
        clear hq0 hq1 hq2 hq3 hq4 hq5
        generalize Go.Sort.grow (redrawn wr dq) osq = w3 at *
        have hby3 := (hbq.block _ (block_lt HBY.out)).trans HBY.out
        obtain ⟨a0, a1, a2, a3, a4⟩ := bx5 hby3
        obtain ⟨b0, b1, b2, b3, b4⟩ := fz5 hby3
        have hb4 := hb.trans (hbq.mono hb.size)
        clear hby3 hbq
        go_wp2_with fail
        exact bodyPost_ret (v := .tuple #[.agg #[.int .i64 0, .int .i64 0, .string ⟨#[]⟩, .slice none 0 0, .slice none 0 0], .bool false]) (by simp [results, Tryd.results29, go_sem, a0, a1, a2, a3, a4]) rfl ⟨below_five hb4 (Nat.le_succ _) _ _ _ _ _, AV.zero, rfl, zero_in _, rfl⟩
      | some i =>
        have hil := place_lt HCF.out hpl
        have hat2 := at_step (r := ns.drop (j + 1)) hpl hil
        rw [← HD.out, HAT.out] at hat2
        rw [hpl] at FI
        clear hpl
        obtain ⟨k', n', s', na', nc', ns', xa', xc', xs'⟩ := cur
        simp only [AV.items] at hil hat2
        have hcf2 := formed_item HCF.out xs'[i] (List.getElem_mem hil)
        have hx24 := formed_len HCF.out
        obtain ⟨bx, ox, rfl, hitx⟩ := HCIN.out.item (by intro e; rw [e] at hil; simp at hil)
        obtain ⟨hr, hxin⟩ := hitx i hil
        obtain ⟨y, hy⟩ : ∃ y, xs'[i] = y := ⟨_, rfl⟩
        rw [hy] at hr hxin hcf2 hat2
        have hr2 : wr.rangeAt bx (ox + i * 5) y.row := AV.rangeAt_old (fun a ha => hb.cell ha) hr
        have HYIN := Lib.hid hxin
        have HYF := Lib.hid hcf2
        have HYAT := Lib.hid hat2
        unfold Boxed at hbx
        simp only [AV.val, AV.row, numI] at FI hbx
        obtain ⟨c0, c1, c2, c3, c4⟩ := bx5 hbx
        have hq0 := fun d os => cell_regrown c0 d os
        have hq1 := fun d os => cell_regrown c1 d os
        have hq2 := fun d os => cell_regrown c2 d os
        have hq3 := fun d os => cell_regrown c3 d os
        have hq4 := fun d os => cell_regrown c4 d os
        clear hitx hy hr hxin hcf2 hat2
        go_wp2_with fail
        refine wp_region_quiet_below (by kernel_rfl) (by kernel_rfl) ?_
        repeat (go_big_quiet_step (exact Calls.regrown_of (FI.out _ (hb.trans ((below_regrown _ _ _).mono hb.size)))))
        refine wpQuiet_nil ?_
        intro _ hw'
        obtain ⟨⟨dq, osq⟩, hw''⟩ := hw'
        subst hw''
        have hb3 := below_regrown wr dq osq
        clear hq0 hq1 hq2 hq3 hq4 hq5
        generalize Go.Sort.grow (redrawn wr dq) osq = w3 at *
        have hr3 := AV.rangeAt_old (fun a ha => hb3.cell ha) hr2
        have HBX3 := Lib.hid ((hb3.block _ (block_lt hbx)).trans hbx)
        obtain ⟨a0, a1, a2, a3, a4⟩ := bx5 HBX3.out
        obtain ⟨b0, b1, b2, b3, b4⟩ := fz5 HBX3.out
        have HBY3 := Lib.hid ((hb3.block _ (block_lt HBY.out)).trans HBY.out)
        have HSN3 := Lib.hid (NamesIn.later HSNW.out hb3)
        have hb4 := hb.trans (hb3.mono hb.size)
        clear hb3 c0 c1 c2 c3 c4 hr2 hbx
        obtain ⟨k2, n2, s2, na2, nc2, ns2, xa2, xc2, xs2⟩ := y
        have HR := Lib.hid hr3
        clear hr3
        go_wp2_with (first | ((with_reducible refine wpList_item_out HR.out ?_ ?_); rfl))
        go_roundg (gk - 1)
        case measure => have := HJ.out; omega
        case rel =>
          have hbo := HFR.out _ rfl
          refine ⟨j + 1, .mk k2 n2 s2 na2 nc2 ns2 xa2 xc2 xs2, lv - 1, by have := HJ.out; omega, by go_num, block5 HBX3.out, ?_, HYIN.out, HYF.out, HYAT.out.symm, ?_, below_five hb4 (Nat.le_refl _) _ _ _ _ _⟩
          · rw [Below.heap_setCell _ _ _ _ (by simp), Below.heap_setCell _ _ _ _ (by simp), Below.heap_setCell _ _ _ _ (by simp), Below.heap_setCell _ _ _ _ (by simp), Below.heap_setCell _ _ _ _ (by simp)]
            exact HBY3.out
          · rcases HSN3.out with h0 | ⟨b', o', e, hit⟩
            · exact .inl h0
            · cases e
              refine .inr ⟨_, _, rfl, fun i hi => ?_⟩
              simp only at hbo
              rw [World.cell?_setCell_far _ _ _ _ (by simp; omega), World.cell?_setCell_far _ _ _ _ (by simp; omega), World.cell?_setCell_far _ _ _ _ (by simp; omega), World.cell?_setCell_far _ _ _ _ (by simp; omega), World.cell?_setCell_far _ _ _ _ (by simp; omega)]
              exact hit i hi
    · have hyes : R = some cur := by rw [← HAT.out, List.drop_eq_nil_of_le (by omega), AV.at]
      subst hyes
      unfold Boxed at hbx
      obtain ⟨k', n', s', na', nc', ns', xa', xc', xs'⟩ := cur
      simp only [AV.row] at hbx
      obtain ⟨c0, c1, c2, c3, c4⟩ := bx5 hbx
      obtain ⟨a0, a1, a2, a3, a4⟩ := bx5 HBY.out
      obtain ⟨b0, b1, b2, b3, b4⟩ := fz5 HBY.out
      have HLT := Lib.hid (block_lt HBY.out)
      clear hbx
      go_wp2_with fail
      refine bodyPost_ret (v := .tuple #[.agg #[.int .i64 k', .int .i64 n', .string s', .slice na' ns'.length nc', .slice xa' xs'.length xc'], .bool true]) (by simp [results, Tryd.results29, go_sem, a0, a1, a2, a3, a4]) rfl ⟨below_five hb (Nat.le_succ _) _ _ _ _ _, .mk k' n' s' na' nc' ns' xa' xc' xs', rfl, ?_, AV.eqv_refl _⟩
      exact HCIN.out.below (below_five hb (Nat.le_succ _) _ _ _ _ _) (Nat.le_refl _)

theorem rGet_any (t : AV) (s : ByteArray) (w : World) (hin : t.In w) (hs : s.size ≤ 2000) : Calls Tryd.prog 29 #[t.val, .string s] w (GetEnd (getSpec t s.data.toList) w) := by
  unfold getSpec
  by_cases h : stepErr s.data.toList = 0 ∧ AV.formedJ t 6 = true
  · rw [if_pos h]
    exact rget_good t s w hin hs h.1 h.2
  · rw [if_neg h]
    exact rget_bad t s w hin hs h
end Go.Proofs.YtijibjdgnaphiaaDoor
