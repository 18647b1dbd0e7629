/- Write, where it is done: the disk's newest writes and its pending ones; under 2^30 writes. -/
import Derived.Test.YtaaceaojgbicaaaWdisk
namespace Go.Proofs.Ytaaceaojgbicaaa
open Go.ChangeShapes Go.WideShapes Go.Deep Go.RowKit Go.Lib Go.Maps

set_option maxHeartbeats 4000000 in
set_option maxRecDepth 100000 in
theorem write_some {a : DA} {s : DS} {w : World} (h : DiskAt w a s) (hk : s.k < 1073741824) (n : Int) (hn : wfI n) (na : Option Addr) (cap : Nat) (l : List UInt8) (hin : BytesIn w na l) (hl : l.length = 256) (hd : s.down = false) (hh : s.hasB n = true) (ho : s.okB = true)
    (hna : ∀ x, na = some x → ¬ a.foot x.block) :
    Calls Try.prog 18 #[ptr a, .int .i64 n, .slice na 256 cap] w fun e w' => e = .returned (.int .i64 0) ∧ Became a w (s.wrote n l).2 w' := by
  have DOWN := Lib.hid (down_any h)
  have HAS := Lib.hid (has_any h n)
  have SPEND := Lib.hid (spend_any h)
  have HK : Hid (s.spent.k < 1073741824) := Lib.hid (by rw [(spent_eq s).2.2.2.1]; exact hk)
  rw [show s.wrote n l = (0, { s.spent with pend := s.spent.pend ++ [(n, l)], w := wrap64 (s.spent.w + 1), k := s.spent.k + 1 }) by
    unfold DS.wrote; rw [if_neg (by rw [hd]; decide), hh, hl, ho]; rfl]
  rw [hd] at DOWN
  rw [hh] at HAS
  rw [ho] at SPEND
  clear hk hd hh ho h
  generalize s.spent = t at *
  obtain ⟨db, lb, nb, pv⟩ := a
  have HIN := Lib.hid hin
  have HL := Lib.hid hl
  have HN := Lib.hid hn
  have HNA := Lib.hid hna
  clear hin hl hn hna
  unfold ptr at DOWN HAS SPEND ⊢
  go_enter Try.func18, Try.ntmps18
  go_wp2_with fail
  refine (DOWN.out).mono ?_
  rintro e w1 ⟨rfl, rfl⟩
  go_wp2_with fail
  refine (HAS.out).mono ?_
  rintro e w1 ⟨rfl, rfl⟩
  go_wp2_with fail
  refine (SPEND.out).mono ?_
  rintro e w1 ⟨rfl, hd1, hO1⟩
  clear DOWN HAS SPEND
  obtain ⟨pa, pc, hpv, hpc1, hpc2⟩ := pv_slice hd1
  dsimp only at hpv
  subst hpv
  have HD1 := Lib.hid hd1
  have HO1 := Lib.hid hO1
  obtain ⟨c0, c1, c2, c3, c4, c5, c6, c7, c8, c9⟩ := hd1.cells
  have f2 := hd1.free 2
  clear hd1 hO1 hpc1 hpc2
  go_wp2_with fail
  go_still_tail 10, (by kernel_rfl)
  change wpList _ _ _ _ _ w1.drew
  have HD2 := Lib.hid HD1.out.drew
  have HO2 := Lib.hid HO1.out.drew
  generalize w1.drew = w2 at *
  clear HD1 HO1 c0 c1 c2 c3 c4 c5 c6 c7 c8 c9 f2
  obtain ⟨DN, hnm, hni⟩ := HD2.out.new
  have HNM := Lib.hid hnm
  have HNI := Lib.hid hni
  clear hnm hni
  have HPK : Hid (t.pend.length < 1073741824) := Lib.hid (by
    obtain ⟨_, _, _, h1, _⟩ := HD2.out.last
    have := HK.out
    omega)
  go_wp2_with (at_mapUpdate; refine wpList_mapUpdate_own _ rfl _ _ _ 58 rfl 3 3 key3 Try.underlying58 _ nb _ DN rfl HNM.out (by have := HPK.out; unfold maxLen; omega) _ _ _ rfl rfl (keyOf_int_mk Try.underlying3 HN.out) _ [] (plainElem_int Try.underlying3 (len_wf HPK.out)) ?_; intro w3 hown3 hgrow3)
  have HG3 := Lib.hid (Only.of_grown (S := fun k => k = nb) hgrow3 (fun k hk => (Option.some.inj hk).symm))
  have HM3 := Lib.hid hown3
  have HO3 : Hid (Only (fun k => k = db ∨ k = nb) w w3) := Lib.hid ((HO2.out.mono (T := fun k => k = db ∨ k = nb) (fun j e => .inl e)).trans HG3.out (fun j e => .inl (.inr e)))
  clear hown3 hgrow3
  have HB3 : Hid (w3.heap[db]? = some (.cells (boxOf ⟨db, lb, nb, .slice pa t.pend.length pc⟩ t) 66 (0, 0))) := Lib.hid (HG3.out.heap HD2.out.box HD2.out.db_nb)
  have HBX : Hid (∀ W, Below w3.heap.size w3 W → W.cell? ⟨db, 2, none⟩ = some (Value.slice pa t.pend.length pc) ∧ W.frozen? ⟨db, 2, none⟩ = false) := Lib.hid (fun W hb => by
    have hx : W.heap[db]? = some (.cells (boxOf ⟨db, lb, nb, .slice pa t.pend.length pc⟩ t) 66 (0, 0)) := by rw [hb.block _ (heap_lt HB3.out)]; exact HB3.out
    exact ⟨by rw [Lib.cell_of_heap hx]; rfl, by simp [World.frozen?, hx]⟩)
  have HROW : Hid (∀ W, Below w3.heap.size w3 W → W.ownsRow 0 72 257 (.slice pa t.pend.length pc) t.pend.length (rows t.pend)) := Lib.hid (fun W hb =>
    ownsRow_only (ownsRow_only HD2.out.pend HG3.out (fun k hk => HD2.out.pv_nb k hk)) (Only.of_below hb (fun _ => False)) (fun _ _ h => h))
  have FR : Hid (∀ w4 w5, Below w3.heap.size w3 w4 → ∀ {Z : Array Value}, (w4.alloc (.cells Z 72)).grownBy w5 (Value.slice pa t.pend.length pc).ownBlock → w5.cell? ⟨db, 2, none⟩ = some (Value.slice pa t.pend.length pc) ∧ w5.frozen? ⟨db, 2, none⟩ = false) := Lib.hid (fun w4 w5 hb Z hg => by
    have hx : w5.heap[db]? = some (.cells (boxOf ⟨db, lb, nb, .slice pa t.pend.length pc⟩ t) 66 (0, 0)) :=
      (((Only.of_below hb (fun k => (Value.slice pa t.pend.length pc).ownBlock = some k)).alloc (.cells Z 72)).trans (Only.of_grown (S := fun k => (Value.slice pa t.pend.length pc).ownBlock = some k) hg (fun k hk => hk)) (fun j e => .inl e)).heap HB3.out (fun e => HD2.out.pv_db _ e rfl)
    exact ⟨by rw [Lib.cell_of_heap hx]; rfl, by simp [World.frozen?, hx]⟩)
  have HIN3 : Hid (BytesIn w3 na l) := Lib.hid (HIN.out.only HO3.out (fun x hx e => HNA.out x hx (e.elim (fun e => .inl e) (fun e => .inr (.inr (.inl e))))))
  have WOF := Lib.hid (fun W (hb : Below w3.heap.size w3 W) => (wof_any n na cap l W (HIN3.out.below hb) HL.out).mono (R' := fun e w' => e = .returned (.agg (wrow (n, l)).toArray) ∧ Below w3.heap.size w3 w') (fun e w' h => ⟨h.1, hb.trans (h.2.mono hb.size)⟩))
  have hs2 : Hid ((wrow (n, l)).toArray.size = 257) := Lib.hid (by simpa using wrow_length (n, l) HL.out)
  have HNW : Hid (∀ w4 : World, ∀ j u, (wrow (n, l))[j]? = some u → (w4.alloc (.cells (wrow (n, l)).toArray 72)).cell? ((⟨w4.heap.size, 0, none⟩ : Addr).add j) = some u) := Lib.hid (fun w4 => World.news_of_block (heap_alloc_new w4 (.cells (wrow (n, l)).toArray 72)))
  obtain ⟨Z2, hZ2⟩ : ∃ Z, (wrow (n, l)).toArray = Z := ⟨_, rfl⟩
  rw [hZ2] at WOF hs2 HNW
  clear hZ2
  have WD : Hid (∀ w4 w5 g pc5, Below w3.heap.size w3 w4 → w5.ownsRow 0 72 257 (.slice (some ⟨g, 0, none⟩) (t.pend.length + 1) pc5) (t.pend.length + 1) (rows t.pend ++ wrow (n, l)) → (w4.alloc (.cells Z2 72)).grownBy w5 (Value.slice pa t.pend.length pc).ownBlock → ((Value.slice pa t.pend.length pc).ownBlock = some g ∨ g = (w4.alloc (.cells Z2 72)).heap.size) → _) := Lib.hid (fun w4 w5 g pc5 hb ho hg hl => write_disk HD2.out HL.out HN.out HNI.out HNM.out.isMap HM3.out HG3.out hb ho hg hl)
  have HEND : Hid (∀ (a' : DA) (w6 w7 : World) (hO : Only (DA.foot ⟨db, lb, nb, .slice pa t.pend.length pc⟩) w2 w6) (hf : ∀ k, a'.foot k → DA.foot ⟨db, lb, nb, .slice pa t.pend.length pc⟩ k ∨ w2.heap.size ≤ k) (hB : Became a' w6 { t with pend := t.pend ++ [(n, l)], w := wrap64 (t.w + 1), k := t.k + 1 } w7) (he : a'.db = db), Became ⟨db, lb, nb, .slice pa t.pend.length pc⟩ w { t with pend := t.pend ++ [(n, l)], w := wrap64 (t.w + 1), k := t.k + 1 } w7) := Lib.hid (fun a' w6 w7 hO hf hB he =>
    Became.andThen (Only.mono HO2.out (fun j e => .inl e) |>.trans hO (fun j e => .inl e)) (fun k hk => (hf k hk).imp id (fun h => Nat.le_trans HO2.out.size h)) he hB)
  obtain ⟨i0, hi, hz0, hz1, hz2⟩ := info_parts info72z
  have HI := Lib.hid (And.intro hi (And.intro hz0 (And.intro hz1 hz2)))
  have HNL : Hid ((wrow (n, l)).length = 1 * 257) := Lib.hid (by rw [wrow_length (n, l) HL.out])
  obtain ⟨b2, g2⟩ := HBX.out w3 (Below.refl _ _)
  clear hi hz0 hz1 hz2
  try go_frame
  refine wp_region_any (by kernel_rfl) ?_
  change wpAny _ _ _ _ _ _ _ (World.drew _)
  refine wpAny_take (i := 0) (v := ?_) rfl (by kernel_rfl) (by kernel_rfl) (by kernel_rfl) (fun _ _ _ h => h) (Or.inl ⟨by rfl, ?_⟩) ?_
  rotate_left
  · intro w; go_simp <;> with_reducible rfl
  refine wpAny_take (i := 1) (v := ?_) rfl (by kernel_rfl) (by kernel_rfl) (by kernel_rfl) (fun _ _ _ h => h) (Or.inl ⟨by rfl, ?_⟩) ?_
  rotate_left
  · intro w; go_simp <;> with_reducible rfl
  refine wpAny_take (i := 2) (v := ?_) rfl (by kernel_rfl) (by kernel_rfl) (by kernel_rfl) (fun _ _ _ h => h) (Or.inl ⟨by rfl, ?_⟩) ?_
  rotate_left
  · intro w; go_simp <;> with_reducible rfl
  refine wpAny_take (i := 3) (v := ?_) rfl (by kernel_rfl) (by kernel_rfl) (by kernel_rfl) (fun _ _ _ h => h) (Or.inl ⟨by rfl, ?_⟩) ?_
  rotate_left
  · intro w; go_simp <;> with_reducible rfl
  refine wpAny_take (i := 5) (v := ?_) rfl (by kernel_rfl) (by kernel_rfl) (by kernel_rfl) (fun _ _ _ h => h) (Or.inl ⟨by rfl, ?_⟩) ?_
  rotate_left
  · intro w; go_simp <;> with_reducible rfl
  refine wpAny_take (i := 6) (v := ?_) rfl (by kernel_rfl) (by kernel_rfl) (by kernel_rfl) (fun _ _ _ h => h) (Or.inl ⟨by rfl, ?_⟩) ?_
  rotate_left
  · intro w; go_simp <;> with_reducible rfl
  refine wpAny_ready (rs := [4, 7]) (by kernel_rfl) (by simp) ?_
  refine AllReady.cons rfl (fun K hK => ?_) (AllReady.cons rfl (fun K hK => ?_) AllReady.nil)
  · go_simp
    refine hK _ _ ?_; clear hK K
    refine wpAny_ready (rs := [7]) (by kernel_rfl) (by simp) ?_
    refine AllReady.cons rfl (fun K hK => ?_) AllReady.nil
    go_simp
    go_at_call 32
    refine (WOF.out w3.drew (Below.refl _ _).drew).mono ?_
    rintro e w4 ⟨rfl, hb4⟩
    obtain ⟨b4, g4⟩ := HBX.out w4 hb4
    have l4 : db < w4.heap.size := Nat.lt_of_lt_of_le (heap_lt HB3.out) hb4.size
    have HB4 : Hid (Below w3.heap.size w3 w4) := Lib.hid hb4
    clear hb4
    dsimp only
    refine hK _ _ ?_; clear hK K
    refine wpAny_ready (rs := [8]) (by kernel_rfl) (by simp) ?_
    refine AllReady.cons rfl (fun K hK => ?_) AllReady.nil
    refine step_buildW rfl _ rfl Z2 rfl hs2.out ?_
    refine hK _ _ ?_; clear hK K
    refine wpAny_ready (rs := [9]) (by kernel_rfl) (by simp) ?_
    refine AllReady.cons rfl (fun K hK => ?_) AllReady.nil
    refine step_append_lies _ rfl _ _ 59 rfl 0 72 i0 (.agg zeroW.toArray) 257 264 Try.underlying59 HI.out.1 HI.out.2.1 HI.out.2.2.1 HI.out.2.2.2 zeroW_length (by decide) _ t.pend.length (rows t.pend) rfl (HROW.out _ (HB4.out.alloc HB4.out.size _)) ⟨w4.heap.size, 0, none⟩ 1 1 (wrow (n, l)) rfl HNL.out (HNW.out w4) (wrow_one _) (by decide) (by have := HPK.out; unfold maxLen; omega) (by have := HPK.out; omega) (Nat.zero_le _) _ rfl ?_
    intro g pc5 w5 hown5 hg5 hloc5 hlt5
    obtain ⟨hd6, hO6, hf6⟩ := WD.out w4 w5 g pc5 HB4.out hown5 hg5 hloc5
    have x5 := (FR.out w4 w5 HB4.out hg5).1
    have y5 := (FR.out w4 w5 HB4.out hg5).2
    have HD6 := Lib.hid hd6
    have HO6 := Lib.hid hO6
    have HF6 := Lib.hid hf6
    clear hd6 hO6 hf6 hown5 hg5 hloc5 hlt5
    refine hK _ _ ?_; clear hK K
    refine wpAny_take (i := 10) (v := ?_) rfl (by kernel_rfl) (by kernel_rfl) (by kernel_rfl) (fun _ _ _ h => h) (Or.inl ⟨by rfl, ?_⟩) ?_
    rotate_left
    · intro w; go_simp <;> with_reducible rfl
    refine wpAny_take (i := 11) (v := ?_) rfl (by kernel_rfl) (by kernel_rfl) (by kernel_rfl) (fun _ _ _ h => h) (Or.inl ⟨by rfl, ?_⟩) ?_
    rotate_left
    · intro w; go_simp <;> with_reducible rfl
    refine wpAny_ready (rs := [12]) (by kernel_rfl) (by simp) ?_
    refine AllReady.cons rfl (fun K hK => ?_) AllReady.nil
    go_simp
    refine hK _ _ ?_; clear hK K
    refine wpAny_done (by kernel_rfl) ?_ _
    go_wp2_with fail
    refine (addW_any HD6.out).mono ?_
    rintro e w7 ⟨rfl, hd7, hO7⟩
    have HD7 := Lib.hid hd7
    have HO7 := Lib.hid hO7
    clear hd7 hO7
    go_wp2_with fail
    go_ret
    exact ⟨rfl, HEND.out _ _ _ HO6.out HF6.out (Became.same HD7.out (HO7.out.mono (fun j e => .inl e))) rfl⟩
  · go_simp
    go_at_call 32
    refine (WOF.out w3.drew (Below.refl _ _).drew).mono ?_
    rintro e w4 ⟨rfl, hb4⟩
    obtain ⟨b4, g4⟩ := HBX.out w4 hb4
    have l4 : db < w4.heap.size := Nat.lt_of_lt_of_le (heap_lt HB3.out) hb4.size
    have HB4 : Hid (Below w3.heap.size w3 w4) := Lib.hid hb4
    clear hb4
    dsimp only
    refine hK _ _ ?_; clear hK K
    refine wpAny_ready (rs := [4, 8]) (by kernel_rfl) (by simp) ?_
    refine AllReady.cons rfl (fun K hK => ?_) (AllReady.cons rfl (fun K hK => ?_) AllReady.nil)
    · go_simp
      refine hK _ _ ?_; clear hK K
      refine wpAny_ready (rs := [8]) (by kernel_rfl) (by simp) ?_
      refine AllReady.cons rfl (fun K hK => ?_) AllReady.nil
      refine step_buildW rfl _ rfl Z2 rfl hs2.out ?_
      refine hK _ _ ?_; clear hK K
      refine wpAny_ready (rs := [9]) (by kernel_rfl) (by simp) ?_
      refine AllReady.cons rfl (fun K hK => ?_) AllReady.nil
      refine step_append_lies _ rfl _ _ 59 rfl 0 72 i0 (.agg zeroW.toArray) 257 264 Try.underlying59 HI.out.1 HI.out.2.1 HI.out.2.2.1 HI.out.2.2.2 zeroW_length (by decide) _ t.pend.length (rows t.pend) rfl (HROW.out _ (HB4.out.alloc HB4.out.size _)) ⟨w4.heap.size, 0, none⟩ 1 1 (wrow (n, l)) rfl HNL.out (HNW.out w4) (wrow_one _) (by decide) (by have := HPK.out; unfold maxLen; omega) (by have := HPK.out; omega) (Nat.zero_le _) _ rfl ?_
      intro g pc5 w5 hown5 hg5 hloc5 hlt5
      obtain ⟨hd6, hO6, hf6⟩ := WD.out w4 w5 g pc5 HB4.out hown5 hg5 hloc5
      have x5 := (FR.out w4 w5 HB4.out hg5).1
      have y5 := (FR.out w4 w5 HB4.out hg5).2
      have HD6 := Lib.hid hd6
      have HO6 := Lib.hid hO6
      have HF6 := Lib.hid hf6
      clear hd6 hO6 hf6 hown5 hg5 hloc5 hlt5
      refine hK _ _ ?_; clear hK K
      refine wpAny_take (i := 10) (v := ?_) rfl (by kernel_rfl) (by kernel_rfl) (by kernel_rfl) (fun _ _ _ h => h) (Or.inl ⟨by rfl, ?_⟩) ?_
      rotate_left
      · intro w; go_simp <;> with_reducible rfl
      refine wpAny_take (i := 11) (v := ?_) rfl (by kernel_rfl) (by kernel_rfl) (by kernel_rfl) (fun _ _ _ h => h) (Or.inl ⟨by rfl, ?_⟩) ?_
      rotate_left
      · intro w; go_simp <;> with_reducible rfl
      refine wpAny_ready (rs := [12]) (by kernel_rfl) (by simp) ?_
      refine AllReady.cons rfl (fun K hK => ?_) AllReady.nil
      go_simp
      refine hK _ _ ?_; clear hK K
      refine wpAny_done (by kernel_rfl) ?_ _
      go_wp2_with fail
      refine (addW_any HD6.out).mono ?_
      rintro e w7 ⟨rfl, hd7, hO7⟩
      have HD7 := Lib.hid hd7
      have HO7 := Lib.hid hO7
      clear hd7 hO7
      go_wp2_with fail
      go_ret
      exact ⟨rfl, HEND.out _ _ _ HO6.out HF6.out (Became.same HD7.out (HO7.out.mono (fun j e => .inl e))) rfl⟩
    · refine step_buildW rfl _ rfl Z2 rfl hs2.out ?_
      refine hK _ _ ?_; clear hK K
      refine wpAny_ready (rs := [4]) (by kernel_rfl) (by simp) ?_
      refine AllReady.cons rfl (fun K hK => ?_) AllReady.nil
      go_simp
      refine hK _ _ ?_; clear hK K
      refine wpAny_ready (rs := [9]) (by kernel_rfl) (by simp) ?_
      refine AllReady.cons rfl (fun K hK => ?_) AllReady.nil
      refine step_append_lies _ rfl _ _ 59 rfl 0 72 i0 (.agg zeroW.toArray) 257 264 Try.underlying59 HI.out.1 HI.out.2.1 HI.out.2.2.1 HI.out.2.2.2 zeroW_length (by decide) _ t.pend.length (rows t.pend) rfl (HROW.out _ (HB4.out.alloc HB4.out.size _)) ⟨w4.heap.size, 0, none⟩ 1 1 (wrow (n, l)) rfl HNL.out (HNW.out w4) (wrow_one _) (by decide) (by have := HPK.out; unfold maxLen; omega) (by have := HPK.out; omega) (Nat.zero_le _) _ rfl ?_
      intro g pc5 w5 hown5 hg5 hloc5 hlt5
      obtain ⟨hd6, hO6, hf6⟩ := WD.out w4 w5 g pc5 HB4.out hown5 hg5 hloc5
      have x5 := (FR.out w4 w5 HB4.out hg5).1
      have y5 := (FR.out w4 w5 HB4.out hg5).2
      have HD6 := Lib.hid hd6
      have HO6 := Lib.hid hO6
      have HF6 := Lib.hid hf6
      clear hd6 hO6 hf6 hown5 hg5 hloc5 hlt5
      refine hK _ _ ?_; clear hK K
      refine wpAny_take (i := 10) (v := ?_) rfl (by kernel_rfl) (by kernel_rfl) (by kernel_rfl) (fun _ _ _ h => h) (Or.inl ⟨by rfl, ?_⟩) ?_
      rotate_left
      · intro w; go_simp <;> with_reducible rfl
      refine wpAny_take (i := 11) (v := ?_) rfl (by kernel_rfl) (by kernel_rfl) (by kernel_rfl) (fun _ _ _ h => h) (Or.inl ⟨by rfl, ?_⟩) ?_
      rotate_left
      · intro w; go_simp <;> with_reducible rfl
      refine wpAny_ready (rs := [12]) (by kernel_rfl) (by simp) ?_
      refine AllReady.cons rfl (fun K hK => ?_) AllReady.nil
      go_simp
      refine hK _ _ ?_; clear hK K
      refine wpAny_done (by kernel_rfl) ?_ _
      go_wp2_with fail
      refine (addW_any HD6.out).mono ?_
      rintro e w7 ⟨rfl, hd7, hO7⟩
      have HD7 := Lib.hid hd7
      have HO7 := Lib.hid hO7
      clear hd7 hO7
      go_wp2_with fail
      go_ret
      exact ⟨rfl, HEND.out _ _ _ HO6.out HF6.out (Became.same HD7.out (HO7.out.mono (fun j e => .inl e))) rfl⟩
end Go.Proofs.Ytaaceaojgbicaaa
