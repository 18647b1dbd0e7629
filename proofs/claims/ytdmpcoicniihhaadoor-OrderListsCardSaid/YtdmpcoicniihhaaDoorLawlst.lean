/- OrderLists: arrays of numbers are ordered ls their first unlike numbers are, or by how many they have: the walk of the statement. -/
import Derived.Test.YtdmpcoicniihhaaDoorNums
import Derived.Test.YtdmpcoicniihhaaDoorLawcmp
import Derived.Deep.DeepCutAuto
namespace Go.Proofs.YtdmpcoicniihhaaDoor
open Go.ChangeShapes Go.WideShapes Go.Deep Go.RowKit Go.Lib

/-- The box of an array that is being filled. -/
def Box (w : World) (P : Nat) (v : Value) : Prop := w.heap[P]? = some (.cells #[.int .i64 5, .int .i64 0, .string ⟨#[]⟩, .slice none 0 0, v] 25 (0, 0))

theorem Box.lt {w : World} {P : Nat} {v : Value} (h : Box w P v) : P < w.heap.size := by
  rcases Nat.lt_or_ge P w.heap.size with h' | h'
  · exact h'
  · unfold Box at h; rw [Array.getElem?_eq_none h'] at h; cases h

theorem Box.cell {w : World} {P : Nat} {v : Value} (h : Box w P v) : w.cell? ⟨P, 4, none⟩ = some v ∧ w.frozen? ⟨P, 4, none⟩ = false :=
   ⟨by rw [Lib.cell_of_heap h]; rfl, Lib.frozen_of_heap h 4⟩

theorem Box.grown {w w' : World} {o : Obj} {P : Nat} {v u : Value} (h : Box w P v) (hg : (w.alloc o).drew.grownBy w' u.ownBlock) (hne : ∀ k, u.ownBlock = some k → P < k) : Box w' P v := by
  have hlt := h.lt
  have h1 : (w.alloc o).drew.heap[P]? = w.heap[P]? := Lib.alloc_old _ _ _ hlt
  unfold Box
  rw [hg.block P (by simp [World.drew]; omega) (fun e => by have := hne P e.symm; omega), h1]
  exact h

theorem Box.set {w : World} {P : Nat} {v u : Value} (h : Box w P v) : Box (w.setCell ⟨P, 4, none⟩ u) P u := by
  unfold Box
  rw [heap_setCell_same w P 4 _ 25 u h]
  rfl

theorem Box.other {w : World} {P Q : Nat} {v u : Value} (h : Box w P v) (hne : P ≠ Q) : Box (w.setCell ⟨Q, 4, none⟩ u) P v := by
  unfold Box
  rw [Below.heap_setCell w ⟨Q, 4, none⟩ u P hne]
  exact h

theorem ownsRow_set {w : World} {base : Nat} {e : TypeId} {size : Nat} {v : Value} {n : Nat} {xs : List Value} (h : w.ownsRow base e size v n xs) {Q : Nat} (hQ : Q < base) (u : Value) : (w.setCell ⟨Q, 4, none⟩ u).ownsRow base e size v n xs := by
  refine ⟨h.1, ?_⟩
  rcases h.2 with hn | ⟨g, cap, cur, rfl, hb1, hgg, rest⟩
  · exact .inl hn
  · refine .inr ⟨g, cap, cur, rfl, hb1, ?_, rest⟩
    rw [Below.heap_setCell w ⟨Q, 4, none⟩ u g (by show g ≠ Q; omega)]
    exact hgg

theorem row_one (x : Int) : ∀ u ∈ (AV.num 3 x).row, u.oneCell' = true := by
  intro u hu
  simp only [AV.num, AV.row, List.mem_cons, List.not_mem_nil, or_false] at hu
  rcases hu with rfl | rfl | rfl | rfl | rfl <;> rfl

set_option maxHeartbeats 8000000 in
set_option maxRecDepth 100000 in
theorem lawlst_any (na ma : Option Addr) (nc mc : Nat) (ls ms : List Int) (w : World) (hin : IntsIn w na ls) (him : IntsIn w ma ms) (hwn : ∀ x ∈ ls, (Lit.int .i64 x).wf = true) (hwm : ∀ x ∈ ms, (Lit.int .i64 x).wf = true) (hT : Tabs w) :
    Calls Tryd.prog 8 #[.slice na ls.length nc, .slice ma ms.length mc] w fun e w' => e = .returned (.bool true) ∧ Below w.heap.size w w' := by
  obtain ⟨i0, hi, hz0, hz1, hz2⟩ := info_parts infoVal
  have AWAKE := Lib.hid (fun W (h : Below w.heap.size w W) => awake_any W (hT.later h))
  have HIN := Lib.hid hin
  have HIM := Lib.hid him
  have HWN := Lib.hid hwn
  have HWM := Lib.hid hwm
  have HT := Lib.hid hT
  clear hin him hwn hwm hT
  by_cases hla : ls.length ≤ 24
  rotate_left
  · have hla2 : 24 < ls.length := by omega
    clear hla
    go_enter Tryd.func8, Tryd.ntmps8
    go_wp2_with fail
    refine (AWAKE.out _ (Below.refl _ _)).mono ?_
    rintro ee w1 ⟨rfl, hq1⟩
    go_wp2_with fail
    refine (AWAKE.out _ hq1).mono ?_
    rintro ee w2 ⟨rfl, hq2⟩
    have hbz := hq1.trans (hq2.mono hq1.size)
    go_wp2_with fail
    go_ret
    refine ⟨?_, hbz⟩
    kernel_rfl
  by_cases hlb : ms.length ≤ 24
  rotate_left
  · have hlb2 : 24 < ms.length := by omega
    clear hlb
    go_enter Tryd.func8, Tryd.ntmps8
    go_wp2_with fail
    refine (AWAKE.out _ (Below.refl _ _)).mono ?_
    rintro ee w1 ⟨rfl, hq1⟩
    go_wp2_with fail
    refine (AWAKE.out _ hq1).mono ?_
    rintro ee w2 ⟨rfl, hq2⟩
    have hbz := hq1.trans (hq2.mono hq1.size)
    go_wp2_with fail
    go_ret
    refine ⟨?_, hbz⟩
    kernel_rfl
  go_enter Tryd.func8, Tryd.ntmps8
  go_wp2_with fail
  refine (AWAKE.out _ (Below.refl _ _)).mono ?_
  rintro ee w1 ⟨rfl, hq1⟩
  go_wp2_with fail
  have hbx := two_box w1 #[.int .i64 5, .int .i64 0, .string ⟨#[]⟩, .slice none 0 0, .slice none 0 0] #[.int .i64 5, .int .i64 0, .string ⟨#[]⟩, .slice none 0 0, .slice none 0 0]
  have hbz := two_below w1 (.cells #[.int .i64 5, .int .i64 0, .string ⟨#[]⟩, .slice none 0 0, .slice none 0 0] 25) (.cells #[.int .i64 5, .int .i64 0, .string ⟨#[]⟩, .slice none 0 0, .slice none 0 0] 25)
  have hB1 : Box _ w1.heap.size (.slice none 0 0) := hbx.1
  have hB2 : Box _ (w1.heap.size + 1) (.slice none 0 0) := hbx.2
  have hb2 := hq1.trans (hbz.mono hq1.size)
  have hsz : ((w1.alloc (.cells #[.int .i64 5, .int .i64 0, .string ⟨#[]⟩, .slice none 0 0, .slice none 0 0] 25)).alloc (.cells #[.int .i64 5, .int .i64 0, .string ⟨#[]⟩, .slice none 0 0, .slice none 0 0] 25)).heap.size = w1.heap.size + 2 := by simp
  have hge : w.heap.size ≤ w1.heap.size := hq1.size
  clear hbx hbz hq1
  generalize (w1.alloc (.cells #[.int .i64 5, .int .i64 0, .string ⟨#[]⟩, .slice none 0 0, .slice none 0 0] 25)).alloc (.cells #[.int .i64 5, .int .i64 0, .string ⟨#[]⟩, .slice none 0 0, .slice none 0 0] 25) = W0 at *
  generalize w1.heap.size = P at *
  have HB1 := Lib.hid hB1
  have HB2 := Lib.hid hB2
  have HSZ := Lib.hid hsz
  have HGE := Lib.hid hge
  clear hB1 hB2 hsz hge
  go_loopg [7] ls.length (fun g i wr => ∃ (j : Nat) (xa : Option Addr) (xc : Nat), j + g = ls.length ∧ i = .int .i64 (j : Int) ∧ Box wr P (.slice xa j xc) ∧ Box wr (P + 1) (.slice none 0 0) ∧ wr.ownsRow (P + 2) 25 5 (.slice xa j xc) j (rows (nums (ls.take j))) ∧ Below w.heap.size w wr ∧ P + 2 ≤ wr.heap.size)
  case atStart => exact ⟨0, none, 0, by omega, rfl, HB1.out, HB2.out, World.ownsRow_nil _ _ _ _, hb2, by have := HSZ.out; omega⟩
  case round =>
    obtain ⟨j, xa, xc, hj, rfl, hx1, hx2, hown, hbr, hszr⟩ := hrel
    have HJ := Lib.hid hj
    have HX1 := Lib.hid hx1
    have HX2 := Lib.hid hx2
    have HOWN := Lib.hid hown
    clear hj hx1 hx2 hown
    by_cases hlt : j < ls.length
    · obtain ⟨bx, ox, rfl, hit⟩ := (HIN.out).resolve_left (by intro e; rw [e] at hlt; simp at hlt)
      have hc0 : wr.cell? ⟨bx, ox + j, none⟩ = some (.int .i64 ls[j]) := by rw [hbr.cell (World.block_lt_of_cell? w _ (hit j hlt))]; exact hit j hlt
      have htake := nums_take hlt
      obtain ⟨x, hx⟩ : ∃ x, ls[j] = x := ⟨_, rfl⟩
      rw [hx] at hc0 htake
      have hc4 := HX1.out.cell
      have ha0 : ∀ o, (wr.alloc o).cell? ⟨bx, ox + j, none⟩ = some (.int .i64 x) := fun o => cell_later hc0 ((Below.refl _ _).alloc (Nat.le_refl _) _)
      have ha4 : ∀ o, (wr.alloc o).cell? ⟨P, 4, none⟩ = some (.slice xa j xc) := fun o => cell_later hc4.1 ((Below.refl _ _).alloc (Nat.le_refl _) _)
      have h44 := hc4.1
      have HTK := Lib.hid htake
      clear hx htake hc4 hit
      have hjs := HJ.out
      have hown0 := HOWN.out
      have hlo := fun k h => (hown0.lt k h).1
      have HOWNA := Lib.hid (fun o => (hown0.alloc o).drew)
      have HLO := Lib.hid hlo
      clear hown0 hlo
      go_wp2_with fail
      go_region_law (refine step_append_lies _ rfl (.tmp 33) (.tmp 39) 23 rfl (P + 2) 25 i0 (.agg #[.int .i64 0, .int .i64 0, .string ⟨#[]⟩, .slice none 0 0, .slice none 0 0]) 5 80 Tryd.underlying23 hi hz0 hz1 hz2 rfl (by decide) (.slice xa j xc) j (rows (nums (ls.take j))) (by simp [Act.eval]) (HOWNA.out _) ⟨wr.heap.size, 0, none⟩ 1 1 (AV.num 3 x).row (by simp [Act.eval]) rfl (World.news_of_block (heap_alloc_new wr _)) (row_one x) (by omega) (by unfold maxLen; omega) (by omega) (by simp [World.drew]; omega) (wr.heap.size + 1) (by simp [World.drew]) ?_; intro g cap w' hown3 hgrow hg3 hlt3; have hbp := HX1.out.grown hgrow (fun k h => by have := HLO.out k h; omega); have hcp := hbp.cell.1; have hfp := hbp.cell.2; have HBP := Lib.hid hbp; clear hbp)
      all_goals
        have hb4 : Below P wr (w'.setCell ⟨P, 4, none⟩ (.slice (some ⟨g, 0, none⟩) (j + 1) cap)) := ((((Below.refl P wr).alloc (by omega) _).drew.grown hgrow (by simp [World.drew]; omega) (fun k hk => by have := HLO.out k hk; omega)).setCell (p := ⟨P, 4, none⟩) (Nat.le_refl P) _)
        have hb5 := hbr.trans (hb4.mono HGE.out)
        have hs5 : P + 2 ≤ (w'.setCell ⟨P, 4, none⟩ (.slice (some ⟨g, 0, none⟩) (j + 1) cap)).heap.size := Nat.le_trans hszr hb4.size
        have hy := (HX2.out.grown hgrow (fun k h => by have := HLO.out k h; omega)).other (Q := P) (u := .slice (some ⟨g, 0, none⟩) (j + 1) cap) (by omega)
        have hx := HBP.out.set (u := .slice (some ⟨g, 0, none⟩) (j + 1) cap)
        rw [← HTK.out] at hown3
        have ho := ownsRow_set hown3 (Q := P) (by omega) (.slice (some ⟨g, 0, none⟩) (j + 1) cap)
        have KX := Lib.hid hx
        have KY := Lib.hid hy
        have KO := Lib.hid ho
        clear hx hy ho hown3 hgrow hg3 hlt3 hcp hfp hb4 ha0 ha4 hc0 h44 hbr
        go_wp2_with fail
        go_roundg (gk - 1)
        case measure => have := HJ.out; omega
        case rel => exact ⟨j + 1, some ⟨g, 0, none⟩, cap, by have := HJ.out; omega, by go_num, KX.out, KY.out, KO.out, hb5, hs5⟩
    · have hjn : j = ls.length := by have := HJ.out; omega
      subst hjn
      have hown := HOWN.out
      rw [List.take_length] at hown
      have hxb : ∀ k, (Value.slice xa ls.length xc).ownBlock = some k → P + 2 ≤ k ∧ k < wr.heap.size := fun k h => hown.lt k h
      have HO := Lib.hid hown
      have HXB := Lib.hid hxb
      clear hown hxb HOWN
      go_wp2_with fail
      have hz := hszr
      obtain ⟨B2, hB2⟩ : ∃ B, B = wr.heap.size := ⟨_, rfl⟩
      rw [← hB2] at HXB
      have HBE := Lib.hid hB2
      have hB2z : P + 2 ≤ B2 := by omega
      clear hB2 hz hszr
      go_loopg [8] ms.length (fun g i wr2 => ∃ (j : Nat) (ya : Option Addr) (yc : Nat), j + g = ms.length ∧ i = .int .i64 (j : Int) ∧ Box wr2 P (.slice xa ls.length xc) ∧ Box wr2 (P + 1) (.slice ya j yc) ∧ wr2.ownsRow (P + 2) 25 5 (.slice xa ls.length xc) ls.length (rows (nums ls)) ∧ wr2.ownsRow B2 25 5 (.slice ya j yc) j (rows (nums (ms.take j))) ∧ Below w.heap.size w wr2 ∧ B2 ≤ wr2.heap.size)
      case atStart => exact ⟨0, none, 0, by omega, rfl, HX1.out, HX2.out, HO.out, World.ownsRow_nil _ _ _ _, hbr, by have := HBE.out; omega⟩
      case round =>
        obtain ⟨j, ya, yc, hj, rfl, hx1, hx2, hownx, hown, hbr2, hszr⟩ := hrel
        clear HX1 HX2 HO HBE HJ hbr
        have HJ := Lib.hid hj
        have HX1 := Lib.hid hx1
        have HY1 := Lib.hid hx2
        have HO := Lib.hid hownx
        have HOWN := Lib.hid hown
        clear hj hx1 hx2 hownx hown
        by_cases hlt : j < ms.length
        · obtain ⟨bx, ox, rfl, hit⟩ := (HIM.out).resolve_left (by intro e; rw [e] at hlt; simp at hlt)
          have hc0 : wr.cell? ⟨bx, ox + j, none⟩ = some (.int .i64 ms[j]) := by rw [hbr2.cell (World.block_lt_of_cell? w _ (hit j hlt))]; exact hit j hlt
          have htake := nums_take hlt
          obtain ⟨x, hx⟩ : ∃ x, ms[j] = x := ⟨_, rfl⟩
          rw [hx] at hc0 htake
          have hc4 := HY1.out.cell
          have ha0 : ∀ o, (wr.alloc o).cell? ⟨bx, ox + j, none⟩ = some (.int .i64 x) := fun o => cell_later hc0 ((Below.refl _ _).alloc (Nat.le_refl _) _)
          have ha4 : ∀ o, (wr.alloc o).cell? ⟨P + 1, 4, none⟩ = some (.slice ya j yc) := fun o => cell_later hc4.1 ((Below.refl _ _).alloc (Nat.le_refl _) _)
          have h44 := hc4.1
          have HTK := Lib.hid htake
          clear hx htake hc4 hit
          have hown0 := HOWN.out
          have hlo := fun k h => (hown0.lt k h).1
          have HOWNA := Lib.hid (fun o => (hown0.alloc o).drew)
          have HLO := Lib.hid hlo
          have hjs := HJ.out
          clear hown0 hlo
          go_wp2_with fail
          go_region_law (refine step_append_lies _ rfl (.tmp 49) (.tmp 55) 23 rfl B2 25 i0 (.agg #[.int .i64 0, .int .i64 0, .string ⟨#[]⟩, .slice none 0 0, .slice none 0 0]) 5 80 Tryd.underlying23 hi hz0 hz1 hz2 rfl (by decide) (.slice ya j yc) j (rows (nums (ms.take j))) (by simp [Act.eval]) (HOWNA.out _) ⟨wr.heap.size, 0, none⟩ 1 1 (AV.num 3 x).row (by simp [Act.eval]) rfl (World.news_of_block (heap_alloc_new wr _)) (row_one x) (by omega) (by unfold maxLen; omega) (by omega) (by simp [World.drew]; omega) (wr.heap.size + 1) (by simp [World.drew]) ?_; intro g cap w' hown3 hgrow hg3 hlt3; have hbp := HY1.out.grown hgrow (fun k h => by have := HLO.out k h; omega); have hcp := hbp.cell.1; have hfp := hbp.cell.2; have HBP := Lib.hid hbp; clear hbp)
          all_goals
            have hb4 : Below P wr (w'.setCell ⟨P + 1, 4, none⟩ (.slice (some ⟨g, 0, none⟩) (j + 1) cap)) := ((((Below.refl P wr).alloc (by omega) _).drew.grown hgrow (by simp [World.drew]; omega) (fun k hk => by have := HLO.out k hk; omega)).setCell (p := ⟨P + 1, 4, none⟩) (Nat.le_succ P) _)
            have hb5 := hbr2.trans (hb4.mono HGE.out)
            have hs5 : B2 ≤ (w'.setCell ⟨P + 1, 4, none⟩ (.slice (some ⟨g, 0, none⟩) (j + 1) cap)).heap.size := Nat.le_trans hszr hb4.size
            have hx := (HX1.out.grown hgrow (fun k h => by have := HLO.out k h; omega)).other (Q := P + 1) (u := .slice (some ⟨g, 0, none⟩) (j + 1) cap) (by omega)
            have hy := HBP.out.set (u := .slice (some ⟨g, 0, none⟩) (j + 1) cap)
            rw [← HTK.out] at hown3
            have ho := ownsRow_set hown3 (Q := P + 1) (by omega) (.slice (some ⟨g, 0, none⟩) (j + 1) cap)
            have hox := ownsRow_set (((HO.out.alloc _).drew).kept hgrow (by
              rcases he : (Value.slice xa ls.length xc).ownBlock with _ | k
              · exact .inl rfl
              · refine .inr fun e => ?_
                have h1 := HXB.out k he
                have h2 := HLO.out k e.symm
                omega)) (Q := P + 1) (by omega) (.slice (some ⟨g, 0, none⟩) (j + 1) cap)
            have KX := Lib.hid hx
            have KY := Lib.hid hy
            have KO := Lib.hid ho
            have KOX := Lib.hid hox
            clear hx hy ho hox hown3 hgrow hg3 hlt3 hcp hfp hb4 ha0 ha4 hc0 h44 hbr2 hjs
            go_wp2_with fail
            go_roundg (gk - 1)
            case measure => have := HJ.out; omega
            case rel => exact ⟨j + 1, some ⟨g, 0, none⟩, cap, by have := HJ.out; omega, by go_num, KX.out, KY.out, KOX.out, KO.out, hb5, hs5⟩
        · have hjn : j = ms.length := by have := HJ.out; omega
          subst hjn
          have hown := HOWN.out
          rw [List.take_length] at hown
          have hox := HO.out
          have hn1 := nums_length ls
          have hn2 := nums_length ms
          have hxin : (AV.arr xa xc (nums ls)).In wr := arr_in (P := P + 2) (by rw [hn1]; exact hox) (fun y hy => by
            obtain ⟨v, hv, rfl⟩ := List.mem_map.1 hy
            exact num_in _ (by decide) (HWN.out v hv))
          have hyin : (AV.arr ya yc (nums ms)).In wr := arr_in (P := B2) (by rw [hn2]; exact hown) (fun y hy => by
            obtain ⟨v, hv, rfl⟩ := List.mem_map.1 hy
            exact num_in _ (by decide) (HWM.out v hv))
          have CMP := Lib.hid (fun W (h : Below wr.heap.size wr W) => Compare_any (AV.arr xa xc (nums ls)) (AV.arr ya yc (nums ms)) W (hxin.below h (Nat.le_refl _)) (hyin.below h (Nat.le_refl _)) ((HT.out.later hbr2).later h))
          rw [cmp_arrs hla hlb] at CMP
          simp only [AV.arr, AV.val, AV.row, hn1, hn2, List.length_nil] at CMP
          obtain ⟨C, hC⟩ : ∃ C, cmpL ls ms = C := ⟨_, rfl⟩
          rw [hC] at CMP
          have HC := Lib.hid hC
          clear hC hn1 hn2 hox hown hxin hyin HOWN HO HXB hszr
          go_wp2_with fail
          generalize wr = wv at *
          go_loopg [9, 10] ls.length (fun g v i wr3 => ∃ (j : Nat) (u : Int), j + g = ls.length ∧ j ≤ ms.length ∧ i = .int .i64 (j : Int) ∧ v = .int .i64 u ∧ ((u = 0 ∧ cmpL (ls.drop j) (ms.drop j) = C) ∨ (u ≠ 0 ∧ u = C)) ∧ Below wv.heap.size wv wr3)
          case atStart => exact ⟨0, 0, by omega, by omega, rfl, rfl, .inl ⟨rfl, HC.out⟩, Below.refl _ _⟩
          case round =>
            obtain ⟨j, u, hj, hjm, rfl, rfl, hcase, hb3⟩ := hrel
            have HJ := Lib.hid hj
            have HCASE := Lib.hid hcase
            clear hj hcase
            rcases HCASE.out with ⟨rfl, hcl⟩ | ⟨hu, huC⟩
            · have HCL := Lib.hid hcl
              clear hcl HCASE
              by_cases hlt : j < ls.length
              · by_cases hltm : j < ms.length
                · obtain ⟨bx, ox, rfl, hit⟩ := (HIN.out).resolve_left (by intro e; rw [e] at hlt; simp at hlt)
                  obtain ⟨by', oy, rfl, hit'⟩ := (HIM.out).resolve_left (by intro e; rw [e] at hltm; simp at hltm)
                  have hbw := hbr2.trans (hb3.mono hbr2.size)
                  have f1 : wr.cell? ⟨bx, ox + j, none⟩ = some (.int .i64 ls[j]) := by rw [hbw.cell (World.block_lt_of_cell? w _ (hit j hlt))]; exact hit j hlt
                  have f2 : wr.cell? ⟨by', oy + j, none⟩ = some (.int .i64 ms[j]) := by rw [hbw.cell (World.block_lt_of_cell? w _ (hit' j hltm))]; exact hit' j hltm
                  have hd := cmpL_drop hlt hltm
                  rw [HCL.out] at hd
                  obtain ⟨x, hx⟩ : ∃ x, ls[j] = x := ⟨_, rfl⟩
                  obtain ⟨y, hy⟩ : ∃ x, ms[j] = x := ⟨_, rfl⟩
                  rw [hx] at f1 hd
                  rw [hy] at f2 hd
                  have HD := Lib.hid hd
                  clear hx hy hd hit hit' hbw
                  have hb4 : ∀ q, Below wv.heap.size wv (wr.drewN q) := fun q => hb3.trans ⟨rfl, rfl, rfl, Nat.le_refl _, fun _ _ => rfl⟩
                  by_cases hxy : x < y
                  · have hCC : C = -1 := by rw [HD.out, if_pos hxy]
                    have HCC := Lib.hid hCC
                    clear hCC
                    go_wp2_with fail
                    go_quiet (fail)
                    go_wp2_with fail
                    go_roundg (gk - 1)
                    case measure => have := HJ.out; omega
                    case rel => exact ⟨j + 1, -1, by have := HJ.out; omega, by omega, by go_num, rfl, .inr ⟨by omega, HCC.out.symm⟩, hb4 _⟩
                  · by_cases hyx : x > y
                    · have hCC : C = 1 := by rw [HD.out, if_neg hxy, if_pos hyx]
                      have HCC := Lib.hid hCC
                      clear hCC
                      go_wp2_with fail
                      go_quiet (fail)
                      go_wp2_with fail
                      go_quiet (fail)
                      go_wp2_with fail
                      go_roundg (gk - 1)
                      case measure => have := HJ.out; omega
                      case rel => exact ⟨j + 1, 1, by have := HJ.out; omega, by omega, by go_num, rfl, .inr ⟨by omega, HCC.out.symm⟩, hb4 _⟩
                    · have hCC : cmpL (ls.drop (j + 1)) (ms.drop (j + 1)) = C := by rw [HD.out, if_neg hxy, if_neg hyx]
                      have HCC := Lib.hid hCC
                      clear hCC
                      go_wp2_with fail
                      go_quiet (fail)
                      go_wp2_with fail
                      go_quiet (fail)
                      go_wp2_with fail
                      go_roundg (gk - 1)
                      case measure => have := HJ.out; omega
                      case rel => exact ⟨j + 1, 0, by have := HJ.out; omega, by omega, by go_num, rfl, .inl ⟨rfl, HCC.out⟩, hb4 _⟩
                · have hE := cmpL_end (l := ls) (m := ms) (j := j) (by omega) hjm (.inr (by omega))
                  rw [HCL.out] at hE
                  have HE := Lib.hid hE
                  clear hE
                  have hgt : ms.length < ls.length := by omega
                  obtain ⟨a0, a1, a2, a3, a4⟩ := box_cells (box_later (show wv.heap[P]? = some (.cells #[.int .i64 5, .int .i64 0, .string ⟨#[]⟩, .slice none 0 0, .slice xa ls.length xc] 25 (0, 0)) from HX1.out) hb3)
                  obtain ⟨d0, d1, d2, d3, d4⟩ := box_cells (box_later (show wv.heap[P + 1]? = some (.cells #[.int .i64 5, .int .i64 0, .string ⟨#[]⟩, .slice none 0 0, .slice ya ms.length yc] 25 (0, 0)) from HY1.out) hb3)
                  go_wp2_with fail
                  refine (CMP.out _ hb3).mono ?_
                  rintro ee wz ⟨rfl, hqz⟩
                  have hbz := hbr2.trans ((hb3.trans (hqz.mono hb3.size)).mono hbr2.size)
                  have hcc : C = 1 := by rw [HE.out, if_neg (by omega), if_pos hgt]
                  have hcb : (C == 1) = true := by rw [hcc]; simp
                  clear hcc
                  go_wp2_with fail
                  go_ret
                  refine ⟨?_, hbz⟩
                  kernel_rfl
              · have hE := cmpL_end (l := ls) (m := ms) (j := j) (by have := HJ.out; omega) hjm (.inl (by have := HJ.out; omega))
                rw [HCL.out] at hE
                have HE := Lib.hid hE
                clear hE
                have hle : ls.length ≤ ms.length := by have := HJ.out; omega
                by_cases hll : ls.length < ms.length
                · skip
                  obtain ⟨a0, a1, a2, a3, a4⟩ := box_cells (box_later (show wv.heap[P]? = some (.cells #[.int .i64 5, .int .i64 0, .string ⟨#[]⟩, .slice none 0 0, .slice xa ls.length xc] 25 (0, 0)) from HX1.out) hb3)
                  obtain ⟨d0, d1, d2, d3, d4⟩ := box_cells (box_later (show wv.heap[P + 1]? = some (.cells #[.int .i64 5, .int .i64 0, .string ⟨#[]⟩, .slice none 0 0, .slice ya ms.length yc] 25 (0, 0)) from HY1.out) hb3)
                  go_wp2_with fail
                  refine (CMP.out _ hb3).mono ?_
                  rintro ee wz ⟨rfl, hqz⟩
                  have hbz := hbr2.trans ((hb3.trans (hqz.mono hb3.size)).mono hbr2.size)
                  have hcc : C = -1 := by rw [HE.out, if_pos hll]
                  have hcb : (C == -1) = true := by rw [hcc]; simp
                  clear hcc
                  go_wp2_with fail
                  go_ret
                  refine ⟨?_, hbz⟩
                  kernel_rfl
                · skip
                  have heq2 : ¬ (ms.length < ls.length) := by omega
                  obtain ⟨a0, a1, a2, a3, a4⟩ := box_cells (box_later (show wv.heap[P]? = some (.cells #[.int .i64 5, .int .i64 0, .string ⟨#[]⟩, .slice none 0 0, .slice xa ls.length xc] 25 (0, 0)) from HX1.out) hb3)
                  obtain ⟨d0, d1, d2, d3, d4⟩ := box_cells (box_later (show wv.heap[P + 1]? = some (.cells #[.int .i64 5, .int .i64 0, .string ⟨#[]⟩, .slice none 0 0, .slice ya ms.length yc] 25 (0, 0)) from HY1.out) hb3)
                  go_wp2_with fail
                  refine (CMP.out _ hb3).mono ?_
                  rintro ee wz ⟨rfl, hqz⟩
                  have hbz := hbr2.trans ((hb3.trans (hqz.mono hb3.size)).mono hbr2.size)
                  have hcc : C = 0 := by rw [HE.out, if_neg hll, if_neg heq2]
                  have hcb : (C == 0) = true := by rw [hcc]; simp
                  clear hcc
                  go_wp2_with fail
                  go_ret
                  refine ⟨?_, hbz⟩
                  kernel_rfl
            · have hub : (u == 0) = false := by simpa using hu
              have hub2 : (u != 0) = true := by simpa using hu
              have HUC := Lib.hid huC
              clear HCASE hu huC
              by_cases hlt : j < ls.length
              all_goals
                by_cases hltm : j < ms.length
                all_goals
                  obtain ⟨a0, a1, a2, a3, a4⟩ := box_cells (box_later (show wv.heap[P]? = some (.cells #[.int .i64 5, .int .i64 0, .string ⟨#[]⟩, .slice none 0 0, .slice xa ls.length xc] 25 (0, 0)) from HX1.out) hb3)
                  obtain ⟨d0, d1, d2, d3, d4⟩ := box_cells (box_later (show wv.heap[P + 1]? = some (.cells #[.int .i64 5, .int .i64 0, .string ⟨#[]⟩, .slice none 0 0, .slice ya ms.length yc] 25 (0, 0)) from HY1.out) hb3)
                  go_wp2_with fail
                  refine (CMP.out _ hb3).mono ?_
                  rintro ee wz ⟨rfl, hqz⟩
                  have hbz := hbr2.trans ((hb3.trans (hqz.mono hb3.size)).mono hbr2.size)
                  have hcc : C = u := HUC.out.symm
                  have hcb : (C == u) = true := by rw [hcc]; simp
                  clear hcc
                  go_wp2_with fail
                  go_ret
                  refine ⟨?_, hbz⟩
                  kernel_rfl
end Go.Proofs.YtdmpcoicniihhaaDoor
