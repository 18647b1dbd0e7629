/- KeysLists: compound keys of lists of one length are ordered value by value, those that fall the other way round, and are split as they were: the walk of the statement. -/
import Derived.Test.YtcbfbmidekmboaaDoorCompp
import Derived.Test.YtcbfbmidekmboaaDoorSplit
import Derived.Test.YtcbfbmidekmboaaDoorAwk
import Derived.Test.YtcbfbmidekmboaaDoorFewl
import Derived.Test.YtcbfbmidekmboaaDoorBsame
import Derived.Test.YtcbfbmidekmboaaDoorCmpc
namespace Go.Proofs.YtcbfbmidekmboaaDoor
open Go.ChangeShapes Go.WideShapes Go.Deep Go.RowKit Go.Lib

namespace AV
theorem eqvAll_symm : ∀ {xs ys : List AV}, (∀ x ∈ xs, ∀ y, eqv x y = true → eqv y x = true) → eqvAll xs ys = true → eqvAll ys xs = true
  | [], [], _, _ => by rw [eqvAll]
  | [], _ :: _, _, _ => by rw [eqvAll]
  | _ :: _, [], _, _ => by rw [eqvAll]
  | x :: xs, y :: ys, ih, h => by
    rw [eqvAll, Bool.and_eq_true] at h
    rw [eqvAll, Bool.and_eq_true]
    exact ⟨ih x (by simp) y h.1, eqvAll_symm (fun z hz => ih z (by simp [hz])) h.2⟩

theorem eqv_symm : ∀ (x y : AV), eqv x y = true → eqv y x = true := by
  intro x
  induction x using AV.ind with
  | h k n s na nc ns xa xc xs ih =>
    intro y h
    obtain ⟨k', n', s', na', nc', ns', xa', xc', xs'⟩ := y
    obtain ⟨rfl, rfl, rfl, rfl, hl, hx⟩ := eqv_parts h
    exact eqv_mk hl.symm (eqvAll_symm ih hx)

theorem eqvAll_at : ∀ {xs ys : List AV} {j : Nat} (h : j < xs.length) (h' : j < ys.length), eqvAll xs ys = true → eqv xs[j] ys[j] = true
  | x :: xs, y :: ys, 0, _, _, h => by
    rw [eqvAll, Bool.and_eq_true] at h
    exact h.1
  | x :: xs, y :: ys, j + 1, h1, h2, h => by
    rw [eqvAll, Bool.and_eq_true] at h
    exact eqvAll_at (xs := xs) (ys := ys) (j := j) (by simpa using h1) (by simpa using h2) h.2
end AV

theorem range5 {w : World} {b o : Nat} {k n : Int} {s : ByteArray} {na : Option Addr} {nc : Nat} {ns : List ByteArray} {xa : Option Addr} {xc : Nat} {xs : List AV} (h : w.rangeAt b o (AV.mk k n s na nc ns xa xc xs).row) :
    w.cell? ⟨b, o, none⟩ = some (.int .i64 k) ∧ w.cell? ⟨b, o + 1, none⟩ = some (.int .i64 n) ∧ w.cell? ⟨b, o + 2, none⟩ = some (.string s) ∧ w.cell? ⟨b, o + 3, none⟩ = some (.slice na ns.length nc) ∧ w.cell? ⟨b, o + 4, none⟩ = some (.slice xa xs.length xc) :=
  ⟨h 0 _ rfl, h 1 _ rfl, h 2 _ rfl, h 3 _ rfl, h 4 _ rfl⟩

theorem two_cells {w : World} {n : Nat} {a b : Value} {t : TypeId} (h : w.heap[n]? = some (.cells #[a, b] t (0, 0))) : w.cell? ⟨n, 0, none⟩ = some a ∧ w.cell? ⟨n, 1, none⟩ = some b := by
  refine ⟨?_, ?_⟩ <;> rw [Lib.cell_of_heap h] <;> rfl

set_option maxHeartbeats 8000000 in
set_option maxRecDepth 100000 in
theorem lawlists_any (xa : Option Addr) (xc : Nat) (xs : List AV) (da : Option Addr) (dc : Nat) (down : List Bool) (ya : Option Addr) (yc : Nat) (ys : List AV) (w : World) (hx : AV.Its w xa xs) (hy : AV.Its w ya ys) (hxl : xs.length ≤ 9223372036854775807) (hyl : ys.length ≤ 9223372036854775807) (hd : BoolsIn w da down) (_hdl : down.length ≤ 9223372036854775807) (hT : Tabs w) :
    Calls Tryd.prog 7 #[.agg #[.slice xa xs.length xc, .slice da down.length dc], .slice ya ys.length yc] w fun e w' => e = .returned (.bool true) ∧ Below w.heap.size w w' := by
  have AWAKE := Lib.hid (fun W (h : Below w.heap.size w W) => awake_any W (hT.later h))
  have FEWX := Lib.hid (fun W (h : Below w.heap.size w W) => fewL_any xa xc xs W (hx.below h) hxl)
  have FEWY := Lib.hid (fun W (h : Below w.heap.size w W) => fewL_any ya yc ys W (hy.below h) hyl)
  have COMPX := Lib.hid (fun W (h : Below w.heap.size w W) => Compound_any xa xc xs da dc down W (hx.below h) hxl (hd.below h) (hT.later h))
  have COMPY := Lib.hid (fun W (h : Below w.heap.size w W) => Compound_any ya yc ys da dc down W (hy.below h) hyl (hd.below h) (hT.later h))
  have HX := Lib.hid hx
  have HY := Lib.hid hy
  have HD := Lib.hid hd
  have HT := Lib.hid hT
  obtain ⟨FX, hFX⟩ : ∃ F, fewL 0 xs = F := ⟨_, rfl⟩
  obtain ⟨FY, hFY⟩ : ∃ F, fewL 0 ys = F := ⟨_, rfl⟩
  simp only [hFX] at FEWX
  simp only [hFY] at FEWY
  clear hFX hFY hx hy hd hT
  have hb0 : Below w.heap.size w (w.alloc (.cells #[.slice xa xs.length xc, .slice da down.length dc] 42)) := (Below.refl _ _).alloc (Nat.le_refl _) _
  have HBX := Lib.hid (heap_alloc_new w (.cells #[.slice xa xs.length xc, .slice da down.length dc] 42))
  go_enter Tryd.func7, Tryd.ntmps7
  go_wp2_with fail
  generalize w.alloc (.cells #[.slice xa xs.length xc, .slice da down.length dc] 42) = W0 at *
  refine (AWAKE.out _ hb0).mono ?_
  rintro e w1 ⟨rfl, hq1⟩
  have hb1 := hb0.trans (hq1.mono hb0.size)
  have X1 := Lib.hid (box_later HBX.out hq1)
  obtain ⟨a0, a1⟩ := two_cells X1.out
  clear hq1 HBX
  go_wp2_with fail
  refine (FEWX.out _ hb1).mono ?_
  rintro e w2 ⟨rfl, hq2⟩
  have hb2 := hb1.trans (hq2.mono hb1.size)
  have X2 := Lib.hid (box_later X1.out hq2)
  clear hq2 X1 a0 a1
  cases FX
  · go_wp2_with fail
    refine (AWAKE.out _ hb2).mono ?_
    rintro e w3 ⟨rfl, hq3⟩
    go_wp2_with fail
    go_ret
    exact ⟨rfl, hb2.trans (hq3.mono hb2.size)⟩
  go_wp2_with fail
  refine (FEWY.out _ hb2).mono ?_
  rintro e w3 ⟨rfl, hq3⟩
  have hb3 := hb2.trans (hq3.mono hb2.size)
  have X3 := Lib.hid (box_later X2.out hq3)
  obtain ⟨a0, a1⟩ := two_cells X3.out
  clear hq3 X2
  cases FY
  · go_wp2_with fail
    refine (AWAKE.out _ hb3).mono ?_
    rintro e w4 ⟨rfl, hq4⟩
    go_wp2_with fail
    go_ret
    exact ⟨rfl, hb3.trans (hq4.mono hb3.size)⟩
  by_cases hl : xs.length = ys.length
  rotate_left
  · have e1 : ((xs.length : Int) == (ys.length : Int)) = false := by rw [beq_eq_false_iff_ne]; omega
    have e2 : ((xs.length : Int) != (ys.length : Int)) = true := by simp; omega
    clear hl
    go_wp2_with fail
    refine (AWAKE.out _ hb3).mono ?_
    rintro e w4 ⟨rfl, hq4⟩
    go_wp2_with fail
    go_ret
    exact ⟨rfl, hb3.trans (hq4.mono hb3.size)⟩
  have HL := Lib.hid hl
  rw [← hl] at COMPY ⊢
  clear hl hyl
  by_cases h100 : xs.length ≤ 100
  rotate_left
  · have e1 : (100 : Int) < (xs.length : Int) := by omega
    go_wp2_with fail
    refine (AWAKE.out _ hb3).mono ?_
    rintro e w4 ⟨rfl, hq4⟩
    go_wp2_with fail
    go_ret
    exact ⟨rfl, hb3.trans (hq4.mono hb3.size)⟩
  have e100 : ¬ (100 : Int) < (xs.length : Int) := by omega
  have H100 := Lib.hid h100
  clear h100
  go_wp2_with fail
  refine (COMPX.out _ hb3).mono ?_
  rintro e w4 ⟨hq4, hg4⟩
  have hb4 := hb3.trans (hq4.mono hb3.size)
  have X4 := Lib.hid (box_later X3.out hq4)
  clear a0 a1
  obtain ⟨a0, a1⟩ := two_cells X4.out
  rcases hg4 with ⟨er, hne, rfl⟩ | ⟨va, vc, rfl, hin4, hfx, h200⟩
  · have n1 : (er == 0) = false := by rw [beq_eq_false_iff_ne]; exact hne
    have n2 : (er != 0) = true := by simpa using hne
    clear hne
    go_wp2_with fail
    refine (COMPY.out _ hb4).mono ?_
    rintro e w5 ⟨hq5, hg5⟩
    have hb5 := hb4.trans (hq5.mono hb4.size)
    rcases hg5 with ⟨er2, hne2, rfl⟩ | ⟨vb, vd, rfl, _, _, _⟩
    all_goals
      go_wp2_with fail
      go_ret
      exact ⟨rfl, hb5⟩
  go_wp2_with fail
  refine (COMPY.out _ hb4).mono ?_
  rintro e w5 ⟨hq5, hg5⟩
  have hb5 := hb4.trans (hq5.mono hb4.size)
  have X5 := Lib.hid (box_later X4.out hq5)
  have HI5 := Lib.hid (hin4.below hq5)
  clear hin4 hq5 hq4 a0 a1 X3 X4
  obtain ⟨a0, a1⟩ := two_cells X5.out
  rcases hg5 with ⟨er, hne, rfl⟩ | ⟨vb, vd, rfl, hin5, hfy, h200'⟩
  · have n1 : (er == 0) = false := by rw [beq_eq_false_iff_ne]; exact hne
    have n2 : (er != 0) = true := by simpa using hne
    clear hne
    go_wp2_with fail
    go_ret
    exact ⟨rfl, hb5⟩
  have HJ5 := Lib.hid hin5
  have HFX := Lib.hid hfx
  have HFY := Lib.hid hfy
  have H200 := Lib.hid h200
  have H200' := Lib.hid h200'
  obtain ⟨C, hC⟩ : ∃ C, compC down 0 xs ys = C := ⟨_, rfl⟩
  have HC := Lib.hid hC
  clear hin5 hfx hfy h200 h200' hC
  go_wp2_with fail
  have hsg : ∀ cc : Int, Sig cc → wrap64 (-cc) = -cc := fun cc h => by
    unfold wrap64
    rcases h with rfl | rfl | rfl <;> decide
  have HSG := Lib.hid hsg
  clear hsg
  go_loopg [9, 10] xs.length (fun g c i wr => ∃ (j : Nat) (cc : Int), j + g = xs.length ∧ i = .int .i64 (j : Int) ∧ c = .int .i64 cc ∧ lexI cc (compC down j (xs.drop j) (ys.drop j)) = C ∧ Below w5.heap.size w5 wr)
  case atStart => exact ⟨0, 0, by omega, rfl, rfl, by rw [lexI_of rfl]; exact HC.out, Below.refl _ _⟩
  case round =>
    obtain ⟨j, cc, hj, rfl, rfl, hrest, hbr⟩ := hrel
    have HJ := Lib.hid hj
    have HREST := Lib.hid hrest
    have X6 := Lib.hid (box_later X5.out hbr)
    have hb6 := hb5.trans (hbr.mono hb5.size)
    clear hj hrest a0 a1
    obtain ⟨a0, a1⟩ := two_cells X6.out
    by_cases hgo : j < xs.length ∧ cc = 0
    · obtain ⟨hlt, rfl⟩ := hgo
      have hlt' : j < ys.length := by have := HL.out; omega
      have hd := HREST.out
      rw [lexI_of rfl, compC_drop hlt hlt'] at hd
      obtain ⟨bx, ox, hxa, hit⟩ := (HX.out).resolve_left (by intro e; rw [e] at hlt; simp at hlt)
      obtain ⟨by', oy, hya, hit'⟩ := (HY.out).resolve_left (by intro e; rw [e] at hlt'; simp at hlt')
      subst hxa hya
      have hr : wr.rangeAt bx (ox + j * 5) xs[j].row := AV.rangeAt_old (fun a ha => hb6.cell ha) (hit j hlt).1
      have hr' : wr.rangeAt by' (oy + j * 5) ys[j].row := AV.rangeAt_old (fun a ha => hb6.cell ha) (hit' j hlt').1
      have hxin : AV.In w xs[j] := (hit j hlt).2
      have hyin : AV.In w ys[j] := (hit' j hlt').2
      have hfx := HFX.out _ (List.getElem_mem hlt)
      have hfy := HFY.out _ (List.getElem_mem hlt')
      obtain ⟨x, hx⟩ : ∃ x, xs[j] = x := ⟨_, rfl⟩
      obtain ⟨y, hy⟩ : ∃ y, ys[j] = y := ⟨_, rfl⟩
      rw [hx] at hr hxin hfx hd
      rw [hy] at hr' hyin hfy hd
      have ecmp : cmpV x y = AV.ord x y := by rw [cmpV, if_pos ⟨hfx, hfy⟩]
      have CMP := Lib.hid (fun W (h : Below wr.heap.size wr W) => Compare_any x y W (hxin.below (hb6.trans (h.mono hb6.size)) (Nat.le_refl _)) (hyin.below (hb6.trans (h.mono hb6.size)) (Nat.le_refl _)) (HT.out.later (hb6.trans (h.mono hb6.size))))
      simp only [ecmp] at CMP
      have hsig := AV.ord_sig x y
      obtain ⟨o, ho⟩ : ∃ o, AV.ord x y = o := ⟨_, rfl⟩
      simp only [ho] at CMP
      have hpc : partC (fallsB down j) x y = if fallsB down j then -o else o := by unfold partC; rw [ho]
      rw [hpc] at hd
      rw [ho] at hsig
      have HDD := Lib.hid hd
      have hwr := HSG.out o hsig
      obtain ⟨k1, n1, s1, na1, nc1, ns1, xa1, xc1, xs1⟩ := x
      obtain ⟨k2, n2, s2, na2, nc2, ns2, xa2, xc2, xs2⟩ := y
      obtain ⟨r0, r1, r2, r3, r4⟩ := range5 hr
      obtain ⟨t0, t1, t2, t3, t4⟩ := range5 hr'
      have e0 := fun d os => cell_regrown r0 d os
      have e1 := fun d os => cell_regrown r1 d os
      have e2 := fun d os => cell_regrown r2 d os
      have e3 := fun d os => cell_regrown r3 d os
      have e4 := fun d os => cell_regrown r4 d os
      have f0 := fun d os => cell_regrown t0 d os
      have f1 := fun d os => cell_regrown t1 d os
      have f2 := fun d os => cell_regrown t2 d os
      have f3 := fun d os => cell_regrown t3 d os
      have f4 := fun d os => cell_regrown t4 d os
      have b0 := fun d os => cell_regrown a0 d os
      have b1 := fun d os => cell_regrown a1 d os
      clear hx hy hit hit' hr hr' hxin hyin hfx hfy hd ecmp ho hpc hsig
      simp only [AV.val, AV.row] at CMP
      go_wp2_with fail
      refine wp_region_quiet_below (by kernel_rfl) (by kernel_rfl) ?_
      repeat (go_big_quiet_step (exact Calls.regrown_of (CMP.out _ (below_regrown _ _ _))))
      refine wpQuiet_nil ?_
      intro _ hw'
      obtain ⟨⟨dq, osq⟩, hw''⟩ := hw'
      subst hw''
      have hbq := below_regrown wr dq osq
      have a0' := b0 dq osq
      have a1' := b1 dq osq
      clear e0 e1 e2 e3 e4 f0 f1 f2 f3 f4 b0 b1 r0 r1 r2 r3 r4 t0 t1 t2 t3 t4 a0 a1
      generalize Go.Sort.grow (redrawn wr dq) osq = wq at *
      have hbn := hbr.trans (hbq.mono hbr.size)
      by_cases hjd : j < down.length
      · obtain ⟨bd, od, hda, hbl⟩ := (HD.out).resolve_left (by intro e; rw [e] at hjd; simp at hjd)
        subst hda
        have hfd : fallsB down j = down[j] := by unfold fallsB; simp [List.getD_eq_getElem?_getD, List.getElem?_eq_getElem hjd]
        have hbc : wq.cell? ⟨bd, od + j, none⟩ = some (.bool down[j]) := cell_kept2 (hb6.trans (hbq.mono hb6.size)) (hbl j hjd)
        rw [hfd] at HDD
        obtain ⟨dv, hdv⟩ : ∃ dv, down[j] = dv := ⟨_, rfl⟩
        rw [hdv] at hbc HDD
        have hjd' : (j : Int) < (down.length : Int) := by omega
        clear hbl hfd hdv hjd
        cases dv
        · have HDF : Hid (lexI o (compC down (j + 1) (xs.drop (j + 1)) (ys.drop (j + 1))) = C) := Lib.hid (by simpa using HDD.out)
          go_wp2_with fail
          go_roundg (gk - 1)
          case measure => have := HJ.out; omega
          case rel => exact ⟨j + 1, o, by have := HJ.out; omega, by go_num, rfl, HDF.out, hbn⟩
        · have HDF : Hid (lexI (-o) (compC down (j + 1) (xs.drop (j + 1)) (ys.drop (j + 1))) = C) := Lib.hid (by simpa using HDD.out)
          go_wp2_with fail
          go_roundg (gk - 1)
          case measure => have := HJ.out; omega
          case rel => exact ⟨j + 1, -o, by have := HJ.out; omega, by go_num, by first | rfl | rw [hwr], HDF.out, hbn⟩
      · have hfd : fallsB down j = false := by unfold fallsB; simp [List.getD_eq_getElem?_getD, List.getElem?_eq_none (Nat.le_of_not_lt hjd)]
        have HDF : Hid (lexI o (compC down (j + 1) (xs.drop (j + 1)) (ys.drop (j + 1))) = C) := Lib.hid (by have h := HDD.out; rw [hfd] at h; simpa using h)
        have hjd' : ¬ (j : Int) < (down.length : Int) := by omega
        clear hfd hjd
        go_wp2_with fail
        go_roundg (gk - 1)
        case measure => have := HJ.out; omega
        case rel => exact ⟨j + 1, o, by have := HJ.out; omega, by go_num, rfl, HDF.out, hbn⟩
    · have hcc : cc = C := by
        rw [← HREST.out]
        by_cases h0 : cc = 0
        · have hj2 : ¬ j < xs.length := fun h => hgo ⟨h, h0⟩
          rw [List.drop_eq_nil_of_le (by omega), compC, lexI_nil]
        · rw [lexI_at h0]
      have hcond : (j < xs.length ∧ ¬ cc = 0) ∨ ¬ j < xs.length := by
        by_cases h : j < xs.length
        · exact .inl ⟨h, fun e => hgo ⟨h, e⟩⟩
        · exact .inr h
      have hitem : ∀ x ∈ xs, AV.In w x := fun x hx => by
        obtain ⟨i, hi, rfl⟩ := List.getElem_of_mem hx
        rcases HX.out with h | ⟨b, o, _, h⟩
        · subst h; simp at hi
        · exact (h i hi).2
      have SPLIT := Lib.hid (Split_any wr va vc (compL down 0 xs) da dc down xs rfl (HI5.out.below hbr) H200.out H100.out (HD.out.below hb6) (fun x hx => ⟨HFX.out x hx, w, hitem x hx⟩) (HT.out.later hb6))
      have hitem2 : ∀ y ∈ ys, AV.In w y := fun x hx => by
        obtain ⟨i, hi, rfl⟩ := List.getElem_of_mem hx
        rcases HY.out with h | ⟨b, o, _, h⟩
        · subst h; simp at hi
        · exact (h i hi).2
      obtain ⟨hfl, hfs⟩ := comp_fits (down := down) (w := w) HL.out (fun x hx => ⟨HFX.out x hx, hitem x hx⟩) (fun y hy => ⟨HFY.out y hy, hitem2 y hy⟩)
      rw [HC.out, ← hcc] at hfl hfs
      have LESS := Lib.hid (fun W (h1 : BytesIn W va (compL down 0 xs)) (h2 : BytesIn W vb (compL down 0 ys)) => lessB_any va vb vc vd (compL down 0 xs) (compL down 0 ys) W h1 h2 (by have := H200.out; omega) (by have := H200'.out; omega))
      have SAMEB := Lib.hid (fun W (h1 : BytesIn W va (compL down 0 xs)) (h2 : BytesIn W vb (compL down 0 ys)) => sameB_any va vb vc vd (compL down 0 xs) (compL down 0 ys) W h1 h2 (by have := H200.out; omega) (by have := H200'.out; omega))
      simp only [hfl] at LESS
      have hfs2 : decide (compL down 0 xs = compL down 0 ys) = decide (cc = 0) := decide_eq_decide.2 hfs
      simp only [hfs2] at SAMEB
      clear hgo hcc hitem hitem2 hfl hfs hfs2 HREST
      rcases hcond with ⟨hlt, hcc0⟩ | hlt
      all_goals
        go_wp2_with fail
        refine (SPLIT.out).mono ?_
        rintro e wS ⟨za, zc, zs, he, hlz, hez, hzi, hqS⟩
        rw [← hlz] at he
        subst he
        have hbS := hb6.trans (hqS.mono hb6.size)
        have hb5S := hbr.trans (hqS.mono hbr.size)
        have XS := Lib.hid (box_later X6.out hqS)
        have HZI := Lib.hid hzi
        have HLZ := Lib.hid hlz
        have HEZ := Lib.hid hez
        clear hzi hlz hez hqS a0 a1
        obtain ⟨a0, a1⟩ := two_cells XS.out
        go_wp2_with fail
        go_loopg [13] xs.length (fun g i wr => ∃ j : Nat, j + g = xs.length ∧ i = .int .i64 (j : Int) ∧ Below wS.heap.size wS wr)
        case atStart => exact ⟨0, by omega, rfl, Below.refl _ _⟩
        case round =>
          obtain ⟨j2, hj2, rfl, hbt⟩ := hrel
          have HJ2 := Lib.hid hj2
          have XT := Lib.hid (box_later XS.out hbt)
          have hbT := hbS.trans (hbt.mono hbS.size)
          clear hj2 a0 a1
          obtain ⟨a0, a1⟩ := two_cells XT.out
          by_cases hlt2 : j2 < xs.length
          · have hltz : j2 < zs.length := by have := HLZ.out; omega
            obtain ⟨bx, ox, hxa, hit⟩ := (HX.out).resolve_left (by intro e; rw [e] at hlt2; simp at hlt2)
            obtain ⟨bz, oz, hza, hitz⟩ := (HZI.out).resolve_left (by intro e; rw [e] at hltz; simp at hltz)
            subst hxa hza
            have hr : wr.rangeAt bx (ox + j2 * 5) xs[j2].row := AV.rangeAt_old (fun a ha => hbT.cell ha) (hit j2 hlt2).1
            have hrz : wr.rangeAt bz (oz + j2 * 5) zs[j2].row := AV.rangeAt_old (fun a ha => hbt.cell ha) (hitz j2 hltz).1
            have hxin : AV.In wr xs[j2] := (hit j2 hlt2).2.below hbT (Nat.le_refl _)
            have hzin : AV.In wr zs[j2] := (hitz j2 hltz).2.below hbt (Nat.le_refl _)
            have heq := AV.eqv_symm _ _ (AV.eqvAll_at hlt2 hltz HEZ.out)
            obtain ⟨x, hx⟩ : ∃ x, xs[j2] = x := ⟨_, rfl⟩
            obtain ⟨z, hz⟩ : ∃ z, zs[j2] = z := ⟨_, rfl⟩
            rw [hx] at hr hxin heq
            rw [hz] at hrz hzin heq
            have SAME := Lib.hid (fun W (h : Below wr.heap.size wr W) => by
              have h1 := rsame_any z x W (hzin.below h (Nat.le_refl _)) (hxin.below h (Nat.le_refl _))
              rw [heq] at h1
              exact h1)
            obtain ⟨k1, n1, s1, na1, nc1, ns1, xa1, xc1, xs1⟩ := x
            obtain ⟨k2, n2, s2, na2, nc2, ns2, xa2, xc2, xs2⟩ := z
            obtain ⟨r0, r1, r2, r3, r4⟩ := range5 hr
            obtain ⟨t0, t1, t2, t3, t4⟩ := range5 hrz
            have e0 := fun d os => cell_regrown r0 d os
            have e1 := fun d os => cell_regrown r1 d os
            have e2 := fun d os => cell_regrown r2 d os
            have e3 := fun d os => cell_regrown r3 d os
            have e4 := fun d os => cell_regrown r4 d os
            have f0 := fun d os => cell_regrown t0 d os
            have f1 := fun d os => cell_regrown t1 d os
            have f2 := fun d os => cell_regrown t2 d os
            have f3 := fun d os => cell_regrown t3 d os
            have f4 := fun d os => cell_regrown t4 d os
            have b0 := fun d os => cell_regrown a0 d os
            clear hx hz hit hitz hr hrz hxin hzin heq
            simp only [AV.val, AV.row] at SAME
            go_wp2_with fail
            refine wp_region_quiet_below (by kernel_rfl) (by kernel_rfl) ?_
            repeat (go_big_quiet_step (exact Calls.regrown_of (SAME.out _ (below_regrown _ _ _))))
            refine wpQuiet_nil ?_
            intro _ hw'
            obtain ⟨⟨dq, osq⟩, hw''⟩ := hw'
            subst hw''
            have hbq := below_regrown wr dq osq
            clear e0 e1 e2 e3 e4 f0 f1 f2 f3 f4 b0 r0 r1 r2 r3 r4 t0 t1 t2 t3 t4 a0 a1
            generalize Go.Sort.grow (redrawn wr dq) osq = wq at *
            go_wp2_with fail
            go_roundg (gk - 1)
            case measure => have := HJ2.out; omega
            case rel => exact ⟨j2 + 1, by have := HJ2.out; omega, by go_num, hbt.trans (hbq.mono hbt.size)⟩
          · have hb5T := hb5S.trans (hbt.mono hb5S.size)
            have HA := Lib.hid (HI5.out.below hb5T)
            have HB := Lib.hid (HJ5.out.below hb5T)
            go_wp2_with fail
            refine (LESS.out wr HA.out HB.out).mono ?_
            rintro e wu ⟨rfl, hqu⟩
            go_wp2_with fail
            refine (SAMEB.out wu (HA.out.below hqu) (HB.out.below hqu)).mono ?_
            rintro e wv ⟨rfl, hqv⟩
            go_wp2_with fail
            go_ret
            exact ⟨ret_bool (by first | (simp; done) | (simp; rfl)), hbT.trans ((hqu.trans (hqv.mono hqu.size)).mono hbT.size)⟩
end Go.Proofs.YtcbfbmidekmboaaDoor
