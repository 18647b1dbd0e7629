/- The document's put: a name that an Object hasn't yet; the loop to its place. -/
import Derived.Test.YtijibjdgnaphiaaDoorRputi
namespace Go.Proofs.YtijibjdgnaphiaaDoor
open Go.ChangeShapes Go.WideShapes Go.Deep Go.RowKit Go.Lib

set_option maxHeartbeats 6400000 in
set_option maxRecDepth 100000 in
theorem rput_newa (n : Int) (s : ByteArray) (na : Option Addr) (nc : Nat) (ns : List ByteArray) (xa : Option Addr) (xc : Nat) (xs : List AV) (x : AV) (p : ByteArray) (sb so sc : Nat) (w0 w : World) (lv : Nat) (hin0 : (AV.mk 6 n s na nc ns xa xc xs).In w0) (hxin0 : x.In w0) (hb0 : Below w0.heap.size w0 w) (hf : AV.formedJ (.mk 6 n s na nc ns xa xc xs) lv = true)
    (hp : w.cell? ⟨sb, so, none⟩ = some (.string p)) (h2 : p.size ≤ 60) (hpl : (AV.mk 6 n s na nc ns xa xc xs).place p = none) (hcase : pos ns p < ns.length) :
    Calls Tryd.prog 49 #[(AV.mk 6 n s na nc ns xa xc xs).val, .slice (some ⟨sb, so, none⟩) 1 sc, x.val] w (PutEnd (some (.mk 6 n s na nc (ns.take (pos ns p) ++ p :: ns.drop (pos ns p)) xa xc (xs.take (pos ns p) ++ x :: xs.drop (pos ns p)))) w0.heap.size w) := by
  obtain ⟨i9, j9, z90, z91, z92⟩ := info_parts info9
  obtain ⟨i25, j25, z250, z251, z252⟩ := info_parts info25
  have hin := hin0.below hb0 (Nat.le_refl _)
  have FI := Lib.hid (fun W (h : Below w.heap.size w W) => rplace_any (AV.mk 6 n s na nc ns xa xc xs) p W (hin.below h (Nat.le_refl _)) (by omega) lv hf)
  rw [hpl] at FI
  simp only [numI] at FI
  have hx24 := formed_len hf
  have hnl := (formed_names hf).2
  have HRISE := Lib.hid (formed_names hf).1
  have hns0 := formed_zero2 hf (.inr rfl)
  have hxc : (ns.length ≤ nc ∧ nc ≤ maxLen) ∧ xs.length ≤ xc ∧ xc ≤ maxLen := by
    have h := hin
    rw [AV.In] at h
    exact ⟨⟨h.2.2.2.1, h.2.2.2.2.1⟩, h.2.2.2.2.2.1, h.2.2.2.2.2.2.1⟩
  have HIN0 := Lib.hid hin0
  have HXIN0 := Lib.hid hxin0
  have HB0 := Lib.hid hb0
  have HIT := Lib.hid hin.its
  have HNS := Lib.hid hin.names
  have hple := pos_le ns p
  have HAH := Lib.hid (pos_ahead ns p)
  have HBE := Lib.hid (pos_behind ns p HRISE.out)
  obtain ⟨P, hP⟩ : ∃ P, pos ns p = P := ⟨_, rfl⟩
  have HC := Lib.hid hcase
  clear hcase
  rw [hP] at hple HAH HBE HC ⊢
  obtain ⟨rfl, rfl⟩ := hns0
  have HNL := Lib.hid hnl
  have hn24 : ns.length ≤ 24 := by omega
  clear hpl hf hin hin0 hxin0 hb0 hP hnl
  obtain ⟨k2, n2, s2, na2, nc2, ns2, xa2, xc2, xs2⟩ := x
  simp only [AV.val, AV.row] at FI ⊢
  have HB3 : Hid (Below w.heap.size w (((w.alloc (.cells #[.int .i64 6, .int .i64 0, .string ⟨#[]⟩, .slice na ns.length nc, .slice xa xs.length xc] 25)).alloc (.cells #[.int .i64 k2, .int .i64 n2, .string s2, .slice na2 ns2.length nc2, .slice xa2 xs2.length xc2] 25)).alloc (.cells #[.int .i64 0, .int .i64 0, .string ⟨#[]⟩, .slice none 0 0, .slice none 0 0] 25))) :=
    Lib.hid ((((Below.refl _ _).alloc (Nat.le_refl _) _).alloc (by simp) _).alloc (by simp; omega) _)
  have HT := Lib.hid (three_new w #[.int .i64 6, .int .i64 0, .string ⟨#[]⟩, .slice na ns.length nc, .slice xa xs.length xc] #[.int .i64 k2, .int .i64 n2, .string s2, .slice na2 ns2.length nc2, .slice xa2 xs2.length xc2] #[.int .i64 0, .int .i64 0, .string ⟨#[]⟩, .slice none 0 0, .slice none 0 0])
  go_enter Tryd.func49, Tryd.ntmps49
  go_upto_region 1 with fail
  generalize (((w.alloc (.cells #[.int .i64 6, .int .i64 0, .string ⟨#[]⟩, .slice na ns.length nc, .slice xa xs.length xc] 25)).alloc (.cells #[.int .i64 k2, .int .i64 n2, .string s2, .slice na2 ns2.length nc2, .slice xa2 xs2.length xc2] 25)).alloc (.cells #[.int .i64 0, .int .i64 0, .string ⟨#[]⟩, .slice none 0 0, .slice none 0 0] 25)) = W3 at *
  have hp3 := cell_later hp HB3.out
  obtain ⟨a0, a1, a2, a3, a4⟩ := bx5 HT.out.h0
  have hq0 := fun d os => cell_regrown a0 d os
  have hq1 := fun d os => cell_regrown a1 d os
  have hq2 := fun d os => cell_regrown a2 d os
  have hq3 := fun d os => cell_regrown a3 d os
  have hq4 := fun d os => cell_regrown a4 d os
  have hq5 := fun d os => cell_regrown hp3 d os
  refine wp_region_quiet_below (by kernel_rfl) (by kernel_rfl) ?_
  repeat (go_big_quiet_step (exact Calls.regrown_of (FI.out _ (HB3.out.trans ((below_regrown _ _ _).mono HB3.out.size)))))
  refine wpQuiet_nil ?_
  intro _ hw'
  obtain ⟨⟨dq, osq⟩, hw''⟩ := hw'
  subst hw''
  have hbq := below_regrown W3 dq osq
  clear hq0 hq1 hq2 hq3 hq4 hq5
  generalize Go.Sort.grow (redrawn W3 dq) osq = w3 at *
  have HT3 := Lib.hid (HT.out.later (B := W3.heap.size) hbq (by have := block_lt HT.out.h2; omega))
  have HB4 := Lib.hid (HB3.out.trans (hbq.mono HB3.out.size))
  have HP3 := Lib.hid (fun (W : World) (h : Below w.heap.size w W) => cell_later hp h)
  clear a0 a1 a2 a3 a4 hbq HB3 HT hp3 FI hp
  have HO1 := Lib.hid (Out.new (k := 6) w3)
  have HPS : Hid (w.heap.size + 3 ≤ w3.heap.size) := Lib.hid (by have := block_lt HT3.out.h2; omega)
  obtain ⟨a0, a1, a2, a3, a4⟩ := bx5 HT3.out.h0
  have HT4 := Lib.hid (HT3.out.later (B := w3.heap.size) HO1.out.past (by have := block_lt HT3.out.h2; omega))
  have a0' := (bx5 HT4.out.h0).1
  go_upto_region 21 with fail
  clear a0 a1 a2 a3 a4 a0'
  obtain ⟨Q, hQ⟩ : ∃ Q, w3.heap.size = Q := ⟨_, rfl⟩
  rw [hQ] at HO1
  simp only [hQ]
  have HQ := Lib.hid hQ
  clear hQ
  generalize w3.alloc (.cells #[.int .i64 6, .int .i64 0, .string ⟨#[]⟩, .slice none 0 0, .slice none 0 0] 25) = w4 at *
  go_loopg [12] P (fun g i wr => ∃ j : Nat, j + g = P ∧ i = .int .i64 (j : Int) ∧ Out Q 6 w3 none 0 [] none 0 [] wr)
  case atStart => exact ⟨0, by omega, rfl, HO1.out⟩
  case round =>
    obtain ⟨j, hj, rfl, ho⟩ := hrel
    have HO := Lib.hid ho
    have HJ := Lib.hid hj
    have HTr := Lib.hid (HT3.out.later (B := Q) (by have := HO.out.past; exact this) (by have := HPS.out; have := HQ.out; omega))
    have HWr : Hid (Below w.heap.size w wr) := Lib.hid (HB4.out.trans (HO.out.past.mono (by have := HPS.out; have := HQ.out; omega)))
    have a3 := (bx5 HTr.out.h0).2.2.2.1
    have p3 := HP3.out wr HWr.out
    clear hj ho
    by_cases hlt : j < P
    · have hjn : j < ns.length := by omega
      obtain ⟨bn, on', rfl, nit⟩ := HNS.out.1.resolve_left (by intro e; rw [e] at hjn; simp at hjn)
      have f1 := HWr.out.cell (World.block_lt_of_cell? w _ (nit j hjn))
      rw [nit j hjn] at f1
      have hl := HAH.out j hjn hlt
      generalize ns[j] = y at *
      unfold ltB at hl
      clear nit
      go_wp2_with fail
      go_quiet (fail)
      go_wp2_with fail
      go_roundg (gk - 1)
      case measure => have := HJ.out; omega
      case rel => exact ⟨j + 1, by have := HJ.out; omega, by go_num, HO.out.drewN _⟩
    · have hjP : j = P := by have := HJ.out; omega
      subst hjP
      by_cases hPn : j < ns.length
      · obtain ⟨bn, on', rfl, nit⟩ := HNS.out.1.resolve_left (by intro e; rw [e] at hPn; simp at hPn)
        have f1 := HWr.out.cell (World.block_lt_of_cell? w _ (nit j hPn))
        rw [nit j hPn] at f1
        have hl := HBE.out j hPn (Nat.le_refl _)
        have NIT := Lib.hid nit
        clear nit
        generalize ns[j] = y at *
        unfold ltB at hl
        go_wp2_with fail
        go_quiet (fail)
        go_upto_region 21 with fail
        have HO6 := Lib.hid (HO.out.drewN nq)
        have nit := NIT.out
        obtain ⟨bx, ox, rfl, xit0⟩ := HIT.out.resolve_left (by intro e; have h := HNL.out; rw [e] at h; simp only [List.length_nil] at h; omega)
        have xit := fun t ht => (xit0 t ht).1
        clear xit0
        clear HO HTr HWr a3 p3 f1 hl HAH HBE NIT
        generalize wr.drewN nq = w6 at *
        have HO := HO6
        clear HO6
        have HTr := Lib.hid (HT3.out.later (B := Q) (by have := HO.out.past; exact this) (by have := HPS.out; have := HQ.out; omega))
        have HWr : Hid (Below w.heap.size w w6) := Lib.hid (HB4.out.trans (HO.out.past.mono (by have := HPS.out; have := HQ.out; omega)))
        have hqw := HO.out.lt
        obtain ⟨Y1, hY1⟩ : ∃ Y, ns.take j = Y := ⟨_, rfl⟩
        have HY1 := Lib.hid hY1
        have HL1 : Hid (Y1.length = j) := Lib.hid (by rw [← hY1, List.length_take]; omega)
        have HSRC := Lib.hid (names_src (W := w6) (na := some ⟨bn, on', none⟩) (ns := Y1) (.inr ⟨bn, on', rfl, fun t ht => by
          have hlt : t < j := by have := HL1.out; omega
          have e : Y1[t] = ns[t]'(by omega) := by subst hY1; rw [List.getElem_take]
          rw [e]
          exact cell_later (nit t (by omega)) HWr.out⟩)).2
        clear hY1
        have a3 := (bx5 HTr.out.h0).2.2.2.1
        have c3 := (bx5 HO.out.box).2.2.2.1
        have hjc : (j : Int) ≤ (nc : Int) := by omega
        have HLEN : Hid ((Y1.map Value.string).length = j * 1) := Lib.hid (by rw [List.length_map, HL1.out]; omega)
        have HLS : Hid (j ≤ 24) := Lib.hid (by omega)
        have HLN : Hid (Y1.length = j) := HL1
        have HEQ : Hid (([] : List Value) ++ Y1.map Value.string = Y1.map Value.string) := Lib.hid rfl
        go_cut [12] (fun s12 wx => s12 = .int .i64 (j : Int) ∧ ∃ b c, Out Q 6 w3 b c Y1 none 0 [] wx)
        case first =>
          go_region_law (refine step_append_any _ rfl (.tmp 99) (.tmp 103) 22 rfl (Q + 1) 9 i9 (.string ⟨#[]⟩) 1 16 Tryd.underlying22 j9 z90 z91 z92 rfl (by decide) (.slice none 0 0) 0 [] rfl HO.out.nown (some ⟨bn, on', none⟩) j nc (Y1.map Value.string) rfl (by have := HLEN.out; first | omega | rfl) (by intro h; cases h) (fun a ha => by cases ha; exact HSRC.out _ rfl) (names_one _) (by have := HLS.out; unfold maxLen; omega) (by have := HLS.out; omega) hqw ?_; intro v7 w7 ho7 hg7; rw [HEQ.out] at ho7; obtain ⟨u7, c7, rfl, hc7, hf7, HO7'⟩ := HO.out.names (by first | exact Below.refl _ _ | exact ⟨rfl, rfl, rfl, Nat.le_refl _, fun _ _ => rfl⟩) (v' := v7) (n' := 0 + j) (ms := Y1) (by have := HLN.out; omega) ho7 hg7; have HO7 := Lib.hid HO7'; clear HO7' ho7 hg7)
          all_goals
            go_wp2_with fail
            go_meet
            exact ⟨rfl, u7, c7, HO7.out⟩
        case rest =>
          obtain ⟨rfl, u, c, ho⟩ := hcut
          clear HO HTr HWr
          have HO := Lib.hid ho
          clear ho
          have HTr := Lib.hid (HT3.out.later (B := Q) (by have := HO.out.past; exact this) (by have := HPS.out; have := HQ.out; omega))
          have HWr : Hid (Below w.heap.size w wc) := Lib.hid (HB4.out.trans (HO.out.past.mono (by have := HPS.out; have := HQ.out; omega)))
          have hqw := HO.out.lt
          obtain ⟨Y2, hY2⟩ : ∃ Y, Y1 ++ [p] = Y := ⟨_, rfl⟩
          have HY2 := Lib.hid hY2
          have HL2 : Hid (Y2.length = j + 1) := Lib.hid (by have := HL1.out; rw [← hY2]; simp; omega)
          have HEQ : Hid (Y1.map Value.string ++ [Value.string p] = Y2.map Value.string) := Lib.hid (by rw [← hY2]; simp)
          clear hY2 a3 c3 HSRC HLEN HLS HLN
          have p3 := HP3.out wc HWr.out
          have p3' := fun o => cell_later p3 ((Below.refl wc.heap.size wc).alloc (Nat.le_refl _) o)
          have c3 := (bx5 HO.out.box).2.2.2.1
          have c3' := fun o => cell_later c3 ((Below.refl wc.heap.size wc).alloc (Nat.le_refl _) o)
          have HLEN : Hid (j ≤ 24) := Lib.hid (by omega)
          have HLS : Hid (j ≤ 24 ∧ Y1.length = j) := Lib.hid ⟨by omega, HL1.out⟩
          have HLN : Hid (Y2.length = j + 1 ∧ Y1.length = j) := Lib.hid ⟨HL2.out, HL1.out⟩
          have hqa : ∀ o, Q + 1 ≤ ((wc.alloc o).drew).heap.size := fun o => by simp [World.drew]; omega
          have HOWA := Lib.hid (fun o => (HO.out.nown.alloc o).drew)
          go_upto_region 22 with fail
          go_cut [12] (fun s12 wx => s12 = .int .i64 (j : Int) ∧ ∃ b c, Out Q 6 w3 b c Y2 none 0 [] wx)
          case first =>
            go_region_law (refine step_append_any _ rfl (.tmp 107) (.tmp 111) 22 rfl (Q + 1) 9 i9 (.string ⟨#[]⟩) 1 16 Tryd.underlying22 j9 z90 z91 z92 rfl (by decide) (.slice u Y1.length c) Y1.length (Y1.map Value.string) rfl (HOWA.out _) (some ⟨wc.heap.size, 0, none⟩) 1 1 [.string p] rfl (by have := HLEN.out; first | omega | rfl) (by intro h; cases h) (fun a ha => by cases ha; exact World.news_of_block (heap_alloc_new wc _)) (by intro u hu; simp at hu; subst hu; rfl) (by have := HLS.out; unfold maxLen; omega) (by have := HLS.out; omega) (hqa _) ?_; intro v7 w7 ho7 hg7; rw [HEQ.out] at ho7; obtain ⟨u7, c7, rfl, hc7, hf7, HO7'⟩ := HO.out.names (by first | exact ((Below.refl _ _).alloc (Nat.le_refl _) _).drew | exact (Below.refl _ _).alloc (Nat.le_refl _) _) (v' := v7) (n' := Y1.length + 1) (ms := Y2) (by have := HLN.out; omega) ho7 hg7; have HO7 := Lib.hid HO7'; clear HO7' ho7 hg7)
            all_goals
              go_wp2_with fail
              go_meet
              exact ⟨rfl, u7, c7, HO7.out⟩
          case rest =>
            obtain ⟨rfl, u, c, ho⟩ := hcut
            have HO := Lib.hid ho
            clear ho
            have HTr := Lib.hid (HT3.out.later (B := Q) (by have := HO.out.past; exact this) (by have := HPS.out; have := HQ.out; omega))
            have HWr : Hid (Below w.heap.size w wc) := Lib.hid (HB4.out.trans (HO.out.past.mono (by have := HPS.out; have := HQ.out; omega)))
            have hqw := HO.out.lt
            clear p3 p3' c3 c3' hqa HOWA HLEN HLS HLN HEQ
            obtain ⟨Y3, hY3⟩ : ∃ Y, ns.drop j = Y := ⟨_, rfl⟩
            obtain ⟨Y4, hY4⟩ : ∃ Y, Y2 ++ Y3 = Y := ⟨_, rfl⟩
            have HEQ : Hid (Y2.map Value.string ++ Y3.map Value.string = Y4.map Value.string) := Lib.hid (by rw [← hY4, List.map_append])
            have HL3 : Hid (Y3.length = ns.length - j) := Lib.hid (by rw [← hY3, List.length_drop])
            have HL4 : Hid (Y4.length = Y2.length + Y3.length) := Lib.hid (by rw [← hY4, List.length_append])
            have HLEN : Hid ((Y3.map Value.string).length = ns.length - j) := Lib.hid (by rw [List.length_map, HL3.out])
            have HLS : Hid (Y2.length = j + 1 ∧ Y3.length = ns.length - j ∧ ns.length ≤ 24) := Lib.hid ⟨HL2.out, HL3.out, hn24⟩
            have HLN := HL4
            have HY3 := Lib.hid hY3
            have HY4 := Lib.hid hY4
            clear hY3 hY4
            have a3 := (bx5 HTr.out.h0).2.2.2.1
            have c3 := (bx5 HO.out.box).2.2.2.1
            have hj1 : (j : Int) ≤ (ns.length : Int) := by omega
            have hj2 : (ns.length : Int) ≤ (nc : Int) := by omega
            go_upto_region 23 with fail
            go_cut [12] (fun s12 wx => s12 = .int .i64 (j : Int) ∧ ∃ b c, Out Q 6 w3 b c Y4 none 0 [] wx)
            case first =>
              have hcp : nc = j ∨ ¬ nc = j := Classical.em _
              rcases hcp with hcp | hcp
              · first
                  | (exfalso; omega)
                  | (have HSRC : Hid (∀ j' u, (Y3.map Value.string)[j']? = some u → wc.cell? ((⟨bn, on', none⟩ : Addr).add j') = some u) := Lib.hid (fun j' u hu => by
                       have h0 : Y3 = [] := List.eq_nil_of_length_eq_zero (by have := HL3.out; omega)
                       rw [h0] at hu
                       simp at hu)
                     go_region_law (refine step_append_any _ rfl (.tmp 115) (.tmp 119) 22 rfl (Q + 1) 9 i9 (.string ⟨#[]⟩) 1 16 Tryd.underlying22 j9 z90 z91 z92 rfl (by decide) (.slice u Y2.length c) Y2.length (Y2.map Value.string) rfl HO.out.nown (some ⟨bn, on', none⟩) _ _ (Y3.map Value.string) rfl (by have := HLEN.out; omega) (by intro h; cases h) (fun a ha => by cases ha; exact HSRC.out) (names_one _) (by have := HLS.out; unfold maxLen; omega) (by have := HLS.out; omega) hqw ?_; intro v7 w7 ho7 hg7; rw [HEQ.out] at ho7; obtain ⟨u7, c7, rfl, hc7, hf7, HO7'⟩ := HO.out.names (by first | exact Below.refl _ _ | exact ⟨rfl, rfl, rfl, Nat.le_refl _, fun _ _ => rfl⟩) (v' := v7) (n' := _) (ms := Y4) (by have := HLN.out; have := HLS.out; omega) ho7 hg7; have HO7 := Lib.hid HO7'; clear HO7' ho7 hg7)
                     all_goals
                       go_wp2_with fail
                       go_meet
                       exact ⟨rfl, u7, c7, HO7.out⟩)
              · have HSRC : Hid (∀ j' u, (Y3.map Value.string)[j']? = some u → wc.cell? ((⟨bn, on' + j, none⟩ : Addr).add j') = some u) := Lib.hid ((names_src (W := wc) (na := some ⟨bn, on' + j, none⟩) (ns := Y3) (.inr ⟨bn, on' + j, rfl, fun t ht => by
                  have hlt : j + t < ns.length := by have := HL3.out; omega
                  have e : Y3[t] = ns[j + t] := by
                    have h := HY3.out
                    subst h
                    rw [List.getElem_drop]
                  rw [e, Nat.add_assoc]
                  exact cell_later (nit (j + t) hlt) HWr.out⟩)).2 _ rfl)
                go_region_law (refine step_append_any _ rfl (.tmp 115) (.tmp 119) 22 rfl (Q + 1) 9 i9 (.string ⟨#[]⟩) 1 16 Tryd.underlying22 j9 z90 z91 z92 rfl (by decide) (.slice u Y2.length c) Y2.length (Y2.map Value.string) rfl HO.out.nown (some ⟨bn, on' + j, none⟩) _ _ (Y3.map Value.string) rfl (by have := HLEN.out; omega) (by intro h; cases h) (fun a ha => by cases ha; exact HSRC.out) (names_one _) (by have := HLS.out; unfold maxLen; omega) (by have := HLS.out; omega) hqw ?_; intro v7 w7 ho7 hg7; rw [HEQ.out] at ho7; obtain ⟨u7, c7, rfl, hc7, hf7, HO7'⟩ := HO.out.names (by first | exact Below.refl _ _ | exact ⟨rfl, rfl, rfl, Nat.le_refl _, fun _ _ => rfl⟩) (v' := v7) (n' := _) (ms := Y4) (by have := HLN.out; have := HLS.out; omega) ho7 hg7; have HO7 := Lib.hid HO7'; clear HO7' ho7 hg7)
                all_goals
                  go_wp2_with fail
                  go_meet
                  exact ⟨rfl, u7, c7, HO7.out⟩

            case rest =>
              obtain ⟨rfl, u, c, ho⟩ := hcut
              clear HO HTr HWr hqw a3 c3 HLEN HLS HLN HEQ
              have HO := Lib.hid ho
              clear ho
              have HTr := Lib.hid (HT3.out.later (B := Q) (by have := HO.out.past; exact this) (by have := HPS.out; have := HQ.out; omega))
              have HWr : Hid (Below w.heap.size w wc) := Lib.hid (HB4.out.trans (HO.out.past.mono (by have := HPS.out; have := HQ.out; omega)))
              have hqw := HO.out.lt
              obtain ⟨X1, hX1⟩ : ∃ Y, xs.take j = Y := ⟨_, rfl⟩
              have HX1 := Lib.hid hX1
              have hxl : ns.length = xs.length := HNL.out
              have HM1 : Hid (X1.length = j) := Lib.hid (by rw [← hX1, List.length_take]; omega)
              have HSRC : Hid (∀ j' u, (rows X1)[j']? = some u → wc.cell? ((⟨bx, ox, none⟩ : Addr).add j') = some u) := Lib.hid (rows_src (fun t ht => by
                have hlt : t < j := by have := HM1.out; omega
                have e : X1[t] = xs[t]'(by omega) := by subst hX1; rw [List.getElem_take]
                rw [e]
                exact AV.rangeAt_old (fun a ha => HWr.out.cell ha) (xit t (by omega))))
              have HLEN : Hid ((rows X1).length = j * 5) := Lib.hid (by rw [rows_length, HM1.out])
              have HLS : Hid (j ≤ 24) := Lib.hid (by omega)
              have HLN : Hid (X1.length = j) := HM1
              have HEQ : Hid (([] : List Value) ++ rows X1 = rows X1) := Lib.hid rfl
              have HXL := Lib.hid hxl
              have hjx : (j : Int) ≤ (xc : Int) := by omega
              clear hX1 hxl
              have a4 := (bx5 HTr.out.h0).2.2.2.2
              have c4 := (bx5 HO.out.box).2.2.2.2
              go_upto_region 24 with fail
              go_cut [12] (fun s12 wx => s12 = .int .i64 (j : Int) ∧ ∃ b' c', Out Q 6 w3 u c Y4 b' c' X1 wx)
              case first =>
                go_region_law (refine step_append_any _ rfl (.tmp 123) (.tmp 127) 23 rfl (Q + 1) 25 i25 (.agg #[.int .i64 0, .int .i64 0, .string ⟨#[]⟩, .slice none 0 0, .slice none 0 0]) 5 80 Tryd.underlying23 j25 z250 z251 z252 rfl (by decide) (.slice none 0 0) 0 [] rfl HO.out.iown (some ⟨bx, ox, none⟩) j xc (rows X1) rfl (by have := HLEN.out; omega) (by intro h; cases h) (fun a ha => by cases ha; exact HSRC.out) (rows_cells _) (by have := HLS.out; unfold maxLen; omega) (by have := HLS.out; omega) hqw ?_; intro v7 w7 ho7 hg7; rw [HEQ.out] at ho7; obtain ⟨u7, c7, rfl, hc7, hf7, HO7'⟩ := HO.out.items (by first | exact Below.refl _ _ | exact ⟨rfl, rfl, rfl, Nat.le_refl _, fun _ _ => rfl⟩) (v' := v7) (n' := 0 + j) (ys := X1) (by have := HLN.out; have := HLS.out; omega) ho7 hg7; have HO7 := Lib.hid HO7'; clear HO7' ho7 hg7)
                all_goals
                  go_wp2_with fail
                  go_meet
                  exact ⟨rfl, u7, c7, HO7.out⟩

              case rest =>
                obtain ⟨rfl, u', c', ho⟩ := hcut
                clear HO HTr HWr hqw a4 c4 HLEN HLS HLN HEQ HSRC
                have HO := Lib.hid ho
                clear ho
                have HTr := Lib.hid (HT3.out.later (B := Q) (by have := HO.out.past; exact this) (by have := HPS.out; have := HQ.out; omega))
                have HWr : Hid (Below w.heap.size w wc) := Lib.hid (HB4.out.trans (HO.out.past.mono (by have := HPS.out; have := HQ.out; omega)))
                have hqw := HO.out.lt
                obtain ⟨b0, b1, b2, b3, b4⟩ := bx5 HTr.out.h1
                have c4 := (bx5 HO.out.box).2.2.2.2
                have hm1 : X1.length ≤ 24 := by have := HM1.out; omega
                have hsz8 : Q + 1 ≤ (wc.alloc (.cells #[.int .i64 k2, .int .i64 n2, .string s2, .slice na2 ns2.length nc2, .slice xa2 xs2.length xc2] 25)).heap.size := by simp; omega
                go_upto_region 25 with fail
                go_wp2_with (at_builtin; refine wpList_append_any _ rfl _ _ 23 rfl (Q + 1) 25 i25 (.agg #[.int .i64 0, .int .i64 0, .string ⟨#[]⟩, .slice none 0 0, .slice none 0 0]) 5 80 Tryd.underlying23 j25 z250 z251 z252 rfl (by decide) (.slice u' X1.length c') X1.length (rows X1) rfl (HO.out.iown.alloc _) (some ⟨wc.heap.size, 0, none⟩) 1 1 (AV.mk k2 n2 s2 na2 nc2 ns2 xa2 xc2 xs2).row rfl rfl (by intro h; cases h) (fun a ha => by cases ha; exact World.news_of_block (heap_alloc_new wc _)) (row_cells _) (by unfold maxLen; omega) (by omega) hsz8 ?_)
                intro v9 w9 ho9 hg9
                obtain ⟨X2, hX2⟩ : ∃ Y, X1 ++ [AV.mk k2 n2 s2 na2 nc2 ns2 xa2 xc2 xs2] = Y := ⟨_, rfl⟩
                have hl2 : X1.length + 1 = X2.length := by rw [← hX2]; simp
                have hr2 : rows X1 ++ (AV.mk k2 n2 s2 na2 nc2 ns2 xa2 xc2 xs2).row = rows X2 := by rw [← hX2, rows_append]; simp [rows]
                rw [hr2] at ho9
                obtain ⟨u9, c9, rfl, hc9, hf9, HO9'⟩ := HO.out.items ((Below.refl _ _).alloc (Nat.le_refl _) _) (v' := v9) (n' := X1.length + 1) (ys := X2) hl2 ho9 hg9
                have ho := HO9'
                have HX2 := Lib.hid hX2
                have HM2 := Lib.hid hl2
                clear HO9' ho9 hg9 hX2 hr2 hl2 b0 b1 b2 b3 b4 c4 hsz8 HO HTr HWr hqw hm1
                go_upto_region 26 with fail
                clear hc9 hf9
                generalize w9.setCell ⟨Q, 4, none⟩ (.slice u9 X2.length c9) = wc at *
                have HO := Lib.hid ho
                clear ho
                have HTr := Lib.hid (HT3.out.later (B := Q) (by have := HO.out.past; exact this) (by have := HPS.out; have := HQ.out; omega))
                have HWr : Hid (Below w.heap.size w wc) := Lib.hid (HB4.out.trans (HO.out.past.mono (by have := HPS.out; have := HQ.out; omega)))
                have hqw := HO.out.lt
                obtain ⟨X3, hX3⟩ : ∃ Y, xs.drop j = Y := ⟨_, rfl⟩
                obtain ⟨X4, hX4⟩ : ∃ Y, X2 ++ X3 = Y := ⟨_, rfl⟩
                have HEQ : Hid (rows X2 ++ rows X3 = rows X4) := Lib.hid (by rw [← hX4, rows_append])
                have HM3 : Hid (X3.length = xs.length - j) := Lib.hid (by rw [← hX3, List.length_drop])
                have HM4 : Hid (X4.length = X2.length + X3.length) := Lib.hid (by rw [← hX4, List.length_append])
                have HLEN : Hid ((rows X3).length = (xs.length - j) * 5) := Lib.hid (by rw [rows_length, HM3.out])
                have HLS : Hid (X2.length = j + 1 ∧ X3.length = xs.length - j ∧ xs.length ≤ 24) := Lib.hid ⟨by have := HM2.out; have := HM1.out; omega, HM3.out, hx24⟩
                have HLN := HM4
                have HX3 := Lib.hid hX3
                have HX4 := Lib.hid hX4
                clear hX3 hX4
                have a4 := (bx5 HTr.out.h0).2.2.2.2
                have c4 := (bx5 HO.out.box).2.2.2.2
                have hxl := HXL.out
                have hj1 : (j : Int) ≤ (xs.length : Int) := by omega
                have hj2 : (xs.length : Int) ≤ (xc : Int) := by omega
                clear hxl
                go_cut [12] (fun s12 wx => s12 = .int .i64 (j : Int) ∧ ∃ b' c', Out Q 6 w3 u c Y4 b' c' X4 wx)
                case first =>
                  have hcp : xc = j ∨ ¬ xc = j := Classical.em _
                  rcases hcp with hcp | hcp
                  · first
                      | (exfalso; have := HXL.out; omega)
                      | (have HSRC : Hid (∀ j' u, (rows X3)[j']? = some u → wc.cell? ((⟨bx, ox, none⟩ : Addr).add j') = some u) := Lib.hid (fun j' u hu => by
                           have h0 : X3 = [] := List.eq_nil_of_length_eq_zero (by have := HM3.out; omega)
                           rw [h0] at hu
                           simp [rows] at hu)
                         go_region_law (refine step_append_any _ rfl (.tmp 137) (.tmp 141) 23 rfl (Q + 1) 25 i25 (.agg #[.int .i64 0, .int .i64 0, .string ⟨#[]⟩, .slice none 0 0, .slice none 0 0]) 5 80 Tryd.underlying23 j25 z250 z251 z252 rfl (by decide) (.slice u9 X2.length c9) X2.length (rows X2) rfl HO.out.iown (some ⟨bx, ox, none⟩) _ _ (rows X3) rfl (by have := HLEN.out; omega) (by intro h; cases h) (fun a ha => by cases ha; exact HSRC.out) (rows_cells _) (by have := HLS.out; unfold maxLen; omega) (by have := HLS.out; omega) hqw ?_; intro v7 w7 ho7 hg7; rw [HEQ.out] at ho7; obtain ⟨u7, c7, rfl, hc7, hf7, HO7'⟩ := HO.out.items (by first | exact Below.refl _ _ | exact ⟨rfl, rfl, rfl, Nat.le_refl _, fun _ _ => rfl⟩) (v' := v7) (n' := _) (ys := X4) (by have := HLN.out; have := HLS.out; omega) ho7 hg7; have HO7 := Lib.hid HO7'; clear HO7' ho7 hg7)
                         all_goals
                           go_wp2_with fail
                           go_meet
                           exact ⟨rfl, u7, c7, HO7.out⟩)
                  · have HSRC : Hid (∀ j' u, (rows X3)[j']? = some u → wc.cell? ((⟨bx, ox + j * 5, none⟩ : Addr).add j') = some u) := Lib.hid (rows_src (fun t ht => by
                      have hlt : j + t < xs.length := by have := HM3.out; omega
                      have e : X3[t] = xs[j + t] := by
                        have h := HX3.out
                        subst h
                        rw [List.getElem_drop]
                      rw [e, show ox + j * 5 + t * 5 = ox + (j + t) * 5 by omega]
                      exact AV.rangeAt_old (fun a ha => HWr.out.cell ha) (xit (j + t) hlt)))
                    go_region_law (refine step_append_any _ rfl (.tmp 137) (.tmp 141) 23 rfl (Q + 1) 25 i25 (.agg #[.int .i64 0, .int .i64 0, .string ⟨#[]⟩, .slice none 0 0, .slice none 0 0]) 5 80 Tryd.underlying23 j25 z250 z251 z252 rfl (by decide) (.slice u9 X2.length c9) X2.length (rows X2) rfl HO.out.iown (some ⟨bx, ox + j * 5, none⟩) _ _ (rows X3) rfl (by have := HLEN.out; omega) (by intro h; cases h) (fun a ha => by cases ha; exact HSRC.out) (rows_cells _) (by have := HLS.out; unfold maxLen; omega) (by have := HLS.out; omega) hqw ?_; intro v7 w7 ho7 hg7; rw [HEQ.out] at ho7; obtain ⟨u7, c7, rfl, hc7, hf7, HO7'⟩ := HO.out.items (by first | exact Below.refl _ _ | exact ⟨rfl, rfl, rfl, Nat.le_refl _, fun _ _ => rfl⟩) (v' := v7) (n' := _) (ys := X4) (by have := HLN.out; have := HLS.out; omega) ho7 hg7; have HO7 := Lib.hid HO7'; clear HO7' ho7 hg7)
                    all_goals
                      go_wp2_with fail
                      go_meet
                      exact ⟨rfl, u7, c7, HO7.out⟩

                case rest =>
                  obtain ⟨rfl, u', c', ho⟩ := hcut
                  clear HO HTr HWr hqw a4 c4 HLEN HLS HLN HEQ
                  have HO := Lib.hid ho
                  clear ho
                  have HTr := Lib.hid (HT3.out.later (B := Q) (by have := HO.out.past; exact this) (by have := HPS.out; have := HQ.out; omega))
                  have HWr : Hid (Below w.heap.size w wc) := Lib.hid (HB4.out.trans (HO.out.past.mono (by have := HPS.out; have := HQ.out; omega)))
                  have hqw := HO.out.lt
                  obtain ⟨d0, d1, d2, d3, d4⟩ := bx5 HO.out.box
                  obtain ⟨c0, c1, c2, c3, c4⟩ := bx5 HTr.out.h2
                  obtain ⟨f0, f1, f2, f3, f4⟩ := fz5 HTr.out.h2
                  have hQP : w.heap.size + 3 ≤ Q := by have := HPS.out; have := HQ.out; omega
                  go_wp2_with fail
                  have hfin := below_five HWr.out (b := w.heap.size + 1 + 1) (by omega) (.int .i64 6) (.int .i64 0) (.string ⟨#[]⟩) (.slice u Y4.length c) (.slice u' X4.length c')
                  refine bodyPost_ret (v := .tuple #[.agg #[.int .i64 6, .int .i64 0, .string ⟨#[]⟩, .slice u Y4.length c, .slice u' X4.length c'], .int .i64 0]) (by simp [results, Tryd.results49, go_sem, c0, c1, c2, c3, c4]) rfl ⟨hfin, .mk 6 0 ⟨#[]⟩ u c Y4 u' c' X4, by simp [AV.val, AV.row], ?_, ?_⟩
                  · have hX : X4 = xs.take j ++ (AV.mk k2 n2 s2 na2 nc2 ns2 xa2 xc2 xs2) :: xs.drop j := by
                      rw [← HX4.out, ← HX3.out, ← HX2.out, ← HX1.out, List.append_assoc]
                      rfl
                    have hY : Y4 = ns.take j ++ p :: ns.drop j := by
                      rw [← HY4.out, ← HY3.out, ← HY2.out, ← HY1.out, List.append_assoc]
                      rfl
                    have hold := HB0.out.trans (hfin.mono HB0.out.size)
                    refine built_apart HO.out (by decide) (by omega) (fun q hq => ?_) (fun a h1 h2 => ?_) (Nat.le_of_eq (by simp)) (fun y hy => ?_)
                    · rw [hY] at hq
                      rcases List.mem_append.1 hq with h | h
                      · exact HNS.out.2 q (List.mem_of_mem_take h)
                      · rcases List.mem_cons.1 h with h | h
                        · rw [h]; unfold maxLen; omega
                        · exact HNS.out.2 q (List.mem_of_mem_drop h)
                    · rw [World.cell?_setCell_far _ _ _ _ (by simp; omega), World.cell?_setCell_far _ _ _ _ (by simp; omega), World.cell?_setCell_far _ _ _ _ (by simp; omega), World.cell?_setCell_far _ _ _ _ (by simp; omega), World.cell?_setCell_far _ _ _ _ (by simp; omega)]
                    · have hall : ∀ z ∈ xs, z.In w0 := fun z hz => by
                        obtain ⟨b, o, _, hit⟩ := HIN0.out.item (by intro e; rw [e] at hz; cases hz)
                        obtain ⟨t, ht, rfl⟩ := List.mem_iff_getElem.1 hz
                        exact (hit t ht).2
                      rw [hX] at hy
                      rcases List.mem_append.1 hy with h | h
                      · exact (hall y (List.mem_of_mem_take h)).apart hold _
                      · rcases List.mem_cons.1 h with h | h
                        · rw [h]; exact HXIN0.out.apart hold _
                        · exact (hall y (List.mem_of_mem_drop h)).apart hold _
                  · have hX : X4 = xs.take j ++ (AV.mk k2 n2 s2 na2 nc2 ns2 xa2 xc2 xs2) :: xs.drop j := by
                      rw [← HX4.out, ← HX3.out, ← HX2.out, ← HX1.out, List.append_assoc]
                      rfl
                    have hY : Y4 = ns.take j ++ p :: ns.drop j := by
                      rw [← HY4.out, ← HY3.out, ← HY2.out, ← HY1.out, List.append_assoc]
                      rfl
                    rw [hX, hY]
                    have h := AV.eqv_refl (AV.mk 6 0 ⟨#[]⟩ u c (ns.take j ++ p :: ns.drop j) u' c' (xs.take j ++ (AV.mk k2 n2 s2 na2 nc2 ns2 xa2 xc2 xs2) :: xs.drop j))
                    rw [AV.eqv] at h ⊢
                    exact h
      · exact absurd HC.out hPn
end Go.Proofs.YtijibjdgnaphiaaDoor
