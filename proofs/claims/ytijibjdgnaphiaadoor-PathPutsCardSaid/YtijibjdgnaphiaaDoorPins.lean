/- slices.Insert of one value into a row of the call's own: the row with the value where it was asked for; no condition of ours. -/
import Derived.Test.YtijibjdgnaphiaaDoorPclone
import Derived.Shelf.Spec.SlicesInsertGrow
import Derived.Laws.CopyRow
import Derived.Deep.RegionLaw
namespace Go.Proofs.YtijibjdgnaphiaaDoor
open Go.ChangeShapes Go.WideShapes Go.Deep Go.RowKit Go.Lib

/-- copy at elements of whatever size, into a row. -/
theorem run_copy_sized {P : Program} (w : World) (dT sT ty elem : TypeId) (g o dLen dCap : Nat) (a : Addr) (sLen sCap : Nat) (cur : Array Value) (t : TypeId) (cs : List Value) (size n : Nat)
    (hu : P.underlying dT = some (.slice elem)) (hs : (P.info? elem).map (·.size) = some size)
    (hg : w.heap[g]? = some (.cells cur t (0, 0))) (hn : Nat.min sLen dLen = n) (hl : cs.length = n * size)
    (hsrc : ∀ j v, cs[j]? = some v → w.cell? (a.add j) = some v) (hfit : o + cs.length ≤ cur.size) (h1 : ∀ v ∈ cs, v.oneCell' = true) :
    (Builtin.copy_ #[dT, sT] ty #[.slice (some ⟨g, o, none⟩) dLen dCap, .slice (some a) sLen sCap]).run P w =
      .ok (goInt n) (w.setRow g (cur.toList.take o ++ cs ++ cur.toList.drop (o + cs.length)).toArray) := by
  have hld := run_loadCells_list (P := P) w a cs hsrc
  have hst := run_storeCells_at P g o t cs 0 cur w hg (by simpa using hfit) h1
  cases hq : P.info? elem with
  | none => simp [hq] at hs
  | some i =>
    have hi : i.size = size := by simpa [hq] using hs
    rw [hl] at hld
    simp [Builtin.copy_, run_underlying hu, Builtin.lenOf, Builtin.firstCells, sizeOf, typeInfo, hq, hi, hn, hld, hst]

theorem size25m : (Tryd.prog.info? 25).map (·.size) = some 5 := by kernel_rfl

/-- The row with a value more. -/
def insAt (xs new : List Value) (k : Nat) : List Value := xs.take k ++ new ++ xs.drop k

theorem below_setRow {B : Nat} {a w : World} (h : Below B a w) {g : Nat} (hg : B ≤ g) (cs : Array Value) : Below B a (w.setRow g cs) :=
  h.trans ⟨rfl, rfl, rfl, by simp, fun k hk => setRow_other w g k cs (by omega)⟩

/-- What insert answers. -/
def InsEnd (B : Nat) (n : Nat) (xs : List Value) (w : World) (e : Ending) (w' : World) : Prop := ∃ v', e = .returned v' ∧ w'.ownsRow B 25 5 v' n xs ∧ Below B w w'

set_option maxHeartbeats 1600000 in
set_option maxRecDepth 100000 in
theorem insV_end (B : Nat) (v : Value) (n vb : Nat) (xs new : List Value) (w : World) (hown : w.ownsRow B 25 5 v n xs) (hn : n ≤ 24) (hB : B ≤ w.heap.size) (hnl : new.length = 5)
    (hnew : w.heap[vb]? = some (.cells new.toArray 25 (0, 0))) (h1 : ∀ u ∈ new, u.oneCell' = true) :
    Calls Tryd.prog 91 #[v, .int .i64 n, .slice (some ⟨vb, 0, none⟩) 1 1] w (InsEnd B (n + 1) (insAt xs new (n * 5)) w) := by
  obtain ⟨i0, hi0, hz0, hz1, hz2⟩ := info_parts info25
  have hxl := hown.1
  have e : insAt xs new (n * 5) = xs ++ new := by
    unfold insAt
    rw [List.take_of_length_le (by omega), List.drop_eq_nil_of_le (by omega), List.append_nil]
  rw [e]
  have hsrc : ∀ (j : Nat) (u : Value), new[j]? = some u → w.cell? ((⟨vb, 0, none⟩ : Addr).add j) = some u := fun j u hj => by
    rw [WideShapes.add_plain, Lib.cell_of_heap hnew, Nat.zero_add]
    simpa using hj
  have HSRC := Lib.hid hsrc
  have H1 := Lib.hid h1
  have HNL := Lib.hid hnl
  have HB := Lib.hid hB
  have HC : Hid (∀ na c, v = .slice na n c → n ≤ c ∧ c ≤ maxLen) := Lib.hid fun na c hv => ownsRow_caps (by rw [← hv]; exact hown)
  have HOWN := Lib.hid hown
  have shape : (v = .slice none 0 0 ∧ n = 0) ∨ ∃ g c, v = .slice (some ⟨g, 0, none⟩) n c := by
    rcases hown.2 with ⟨hv, h0⟩ | ⟨g, cap, cur, hv, _⟩
    · exact .inl ⟨hv, h0⟩
    · exact .inr ⟨g, cap, hv⟩
  clear e hsrc hnew h1 hnl hB hxl hown
  have fin : ∀ (v' : Value) (w1 : World) (hown1 : w1.ownsRow B 25 5 v' (n + 1) (xs ++ new)) (hgrow : w.grownBy w1 v.ownBlock), Below B w w1 := fun v' w1 hown1 hgrow => (Below.refl B w).grown hgrow HB.out (fun k hk => (HOWN.out.lt k hk).1)
  have FIN := Lib.hid fin
  clear fin
  rcases shape with ⟨rfl, rfl⟩ | ⟨g, c, rfl⟩
  · go_enter Tryd.func91, Tryd.ntmps91
    go_wp2_with (at_builtin; refine wpList_append_own _ rfl _ _ 23 rfl B 25 i0 (.agg #[.int .i64 0, .int .i64 0, .string ⟨#[]⟩, .slice none 0 0, .slice none 0 0]) 5 80 Tryd.underlying23 hi0 hz0 hz1 hz2 rfl (by decide) _ _ _ rfl HOWN.out ⟨vb, 0, none⟩ 1 1 new rfl HNL.out HSRC.out H1.out (by decide) (by decide) HB.out ?_)
    intro v' w1 hown1 hgrow _
    go_wp2_with fail
    go_ret
    exact ⟨_, rfl, hown1, FIN.out _ _ hown1 hgrow⟩
  · obtain ⟨hc1, hc2⟩ := HC.out _ _ rfl
    unfold maxLen at hc2
    by_cases hcn : c = n
    · subst hcn
      go_enter Tryd.func91, Tryd.ntmps91
      go_wp2_with (at_builtin; refine wpList_append_own _ rfl _ _ 23 rfl B 25 i0 (.agg #[.int .i64 0, .int .i64 0, .string ⟨#[]⟩, .slice none 0 0, .slice none 0 0]) 5 80 Tryd.underlying23 hi0 hz0 hz1 hz2 rfl (by decide) _ _ _ rfl HOWN.out ⟨vb, 0, none⟩ 1 1 new rfl HNL.out HSRC.out H1.out (by unfold maxLen; omega) (by omega) HB.out ?_)
      intro v' w1 hown1 hgrow _
      go_wp2_with fail
      go_ret
      exact ⟨_, rfl, hown1, FIN.out _ _ hown1 hgrow⟩
    · go_enter Tryd.func91, Tryd.ntmps91
      go_wp2_with (at_builtin; refine wpList_append_own _ rfl _ _ 23 rfl B 25 i0 (.agg #[.int .i64 0, .int .i64 0, .string ⟨#[]⟩, .slice none 0 0, .slice none 0 0]) 5 80 Tryd.underlying23 hi0 hz0 hz1 hz2 rfl (by decide) _ _ _ rfl HOWN.out ⟨vb, 0, none⟩ 1 1 new rfl HNL.out HSRC.out H1.out (by unfold maxLen; omega) (by omega) HB.out ?_)
      intro v' w1 hown1 hgrow _
      go_wp2_with fail
      go_ret
      exact ⟨_, rfl, hown1, FIN.out _ _ hown1 hgrow⟩

set_option maxHeartbeats 3200000 in
set_option maxRecDepth 100000 in
theorem insV_room (B : Nat) (g c n i vb : Nat) (xs new : List Value) (cur : Array Value) (w : World) (hgB : B ≤ g) (hg : w.heap[g]? = some (.cells cur 25 (0, 0))) (hsz : cur.size = c * 5) (htk : cur.toList.take (n * 5) = xs) (hi : i < n) (hn : n ≤ 24) (hroom : n + 1 ≤ c) (hc63 : c ≤ maxLen) (hnl : new.length = 5)
    (hnew : w.heap[vb]? = some (.cells new.toArray 25 (0, 0))) (h1 : ∀ u ∈ new, u.oneCell' = true) (h1x : ∀ u ∈ xs, u.oneCell' = true) (hvb : vb ≠ g) :
    Calls Tryd.prog 91 #[.slice (some ⟨g, 0, none⟩) n c, .int .i64 i, .slice (some ⟨vb, 0, none⟩) 1 1] w (InsEnd B (n + 1) (insAt xs new (i * 5)) w) := by
  have hsa : w.shape? vb = some (25, 5) := by simp [World.shape?, hnew, hnl]
  have hsb : w.shape? g = some (25, c * 5) := by simp [World.shape?, hg, hsz]
  have hov : ∀ o lb cb, (callFunc 113 #[.slice (some ⟨vb, 0, none⟩) 1 1, .slice (some ⟨g, o, none⟩) lb cb]).run Tryd.prog w = .ok (.value (.bool false)) w := fun o lb cb => by
    rw [run_callFunc_extern Tryd.func113 (by kernel_rfl) (by kernel_rfl) (by kernel_rfl) (e := Extern.SlicesOverlaps.overlaps #[23, 23] #[4]) (by kernel_rfl),
      Lib.run_overlaps_apart w 23 4 25 Tryd.underlying23 5 szV ⟨vb, 0, none⟩ ⟨g, o, none⟩ 1 1 lb cb hvb 25 25 5 (c * 5) hsa hsb (by omega) (Lib.frozen_of_heap hnew 0) (Lib.frozen_of_heap hnew 5)]
    rfl
  unfold maxLen at hc63
  have hz2 : ¬ ((i : Int) = (n : Int)) := by omega
  have hw1 : IntKind.i64.wrap ((i : Int) + 1) = (i : Int) + 1 := by rw [IntKind.wrap_i64]; omega
  have hb1 : (0 : Int) ≤ (i : Int) + 1 := by omega
  have hin : i ≤ n := by omega
  have htn : ((i : Int) + 1).toNat = i + 1 := by omega
  have hb2 : ¬ (c = i + 1) := by omega
  have hb3 : (i : Int) ≤ (n : Int) + 1 := by omega
  have hb4 : ¬ (c = i) := by omega
  have hxl : xs.length = n * 5 := by rw [← htk, List.length_take]; simp; omega
  have hcurl : cur.toList.length = c * 5 := by simpa using hsz
  obtain ⟨cur1, hcur1⟩ : ∃ cur1 : Array Value, cur1 = (cur.toList.take ((i + 1) * 5) ++ xs.drop (i * 5) ++ cur.toList.drop ((i + 1) * 5 + (xs.drop (i * 5)).length)).toArray := ⟨_, rfl⟩
  have hs1 : cur1.size = c * 5 := by
    rw [hcur1]
    simp only [List.size_toArray, List.length_append, List.length_take, List.length_drop, hcurl, hxl]
    omega
  have hcp1 : ∀ ty dl dc sl sc, Nat.min sl dl = n - i → (Builtin.copy_ #[23, 23] ty #[.slice (some ⟨g, (i + 1) * 5, none⟩) dl dc, .slice (some ⟨g, i * 5, none⟩) sl sc]).run Tryd.prog w.drew = .ok (goInt (n - i : Nat)) (w.drew.setRow g cur1) := fun ty dl dc sl sc hmin => by
    rw [hcur1]
    refine run_copy_sized w.drew 23 23 ty 25 g ((i + 1) * 5) dl dc ⟨g, i * 5, none⟩ sl sc cur 25 (xs.drop (i * 5)) 5 (n - i) Tryd.underlying23 size25m hg hmin (by rw [List.length_drop, hxl]; omega) (fun j v hj => ?_) (by rw [List.length_drop, hxl, hsz]; omega) (fun u hu => h1x u (List.mem_of_mem_drop hu))
    rw [WideShapes.add_plain, Lib.cell_of_heap (w := w.drew) hg, ← Array.getElem?_toList]
    rw [List.getElem?_drop, ← htk, List.getElem?_take] at hj
    split at hj
    · exact hj
    · cases hj
  obtain ⟨cur2, hcur2⟩ : ∃ cur2 : Array Value, cur2 = (cur1.toList.take (i * 5) ++ new ++ cur1.toList.drop (i * 5 + new.length)).toArray := ⟨_, rfl⟩
  have hg1 : (w.drew.setRow g cur1).heap[g]? = some (.cells cur1 25 (0, 0)) := setRow_heap w.drew g cur cur1 25 (0, 0) hg
  have hcp2 : ∀ ty dl dc, 1 ≤ dl → (Builtin.copy_ #[23, 23] ty #[.slice (some ⟨g, i * 5, none⟩) dl dc, .slice (some ⟨vb, 0, none⟩) 1 1]).run Tryd.prog (w.drew.setRow g cur1) = .ok (goInt (1 : Nat)) ((w.drew.setRow g cur1).setRow g cur2) := fun ty dl dc hdl => by
    rw [hcur2]
    refine run_copy_sized _ 23 23 ty 25 g (i * 5) dl dc ⟨vb, 0, none⟩ 1 1 cur1 25 new 5 1 Tryd.underlying23 size25m hg1 (by simp only [Nat.min_def]; split <;> omega) (by rw [hnl]) (fun j v hj => ?_) (by rw [hnl, hs1]; omega) h1
    rw [WideShapes.add_plain, cell_setRow_other _ _ _ _ hvb, Nat.zero_add, Lib.cell_of_heap (w := w.drew) hnew]
    simpa using hj
  have hfin : cur2.toList.take ((n + 1) * 5) = insAt xs new (i * 5) := by
    have ha : cur.toList.take (i * 5) = xs.take (i * 5) := by rw [← htk, List.take_take, Nat.min_eq_left (by omega)]
    rw [hcur2, hcur1, List.toList_toArray, List.toList_toArray]
    unfold insAt
    have e1 : (cur.toList.take ((i + 1) * 5) ++ xs.drop (i * 5) ++ cur.toList.drop ((i + 1) * 5 + (xs.drop (i * 5)).length)).take (i * 5) = xs.take (i * 5) := by
      rw [List.append_assoc, List.take_append_of_le_length (by rw [List.length_take, hcurl]; omega), List.take_take, Nat.min_eq_left (by omega), ha]
    have e2 : (cur.toList.take ((i + 1) * 5) ++ xs.drop (i * 5) ++ cur.toList.drop ((i + 1) * 5 + (xs.drop (i * 5)).length)).drop (i * 5 + new.length) = xs.drop (i * 5) ++ cur.toList.drop ((i + 1) * 5 + (xs.drop (i * 5)).length) := by
      rw [hnl, show i * 5 + 5 = (i + 1) * 5 by omega, List.append_assoc]
      exact List.drop_left' (by rw [List.length_take, hcurl]; omega)
    rw [e1, e2, ← List.append_assoc]
    exact List.take_left' (by simp only [List.length_append, List.length_take, List.length_drop, hxl, hnl]; omega)
  have hs2 : cur2.size = c * 5 := by
    rw [hcur2]
    simp only [List.size_toArray, List.length_append, List.length_take, List.length_drop, Array.length_toList, hs1, hnl]
    omega
  have hg2 : ((w.drew.setRow g cur1).setRow g cur2).heap[g]? = some (.cells cur2 25 (0, 0)) := setRow_heap _ g cur1 cur2 25 (0, 0) hg1
  have FIN : Hid (InsEnd B (n + 1) (insAt xs new (i * 5)) w (.returned (.slice (some ⟨g, 0, none⟩) (n + 1) c)) ((w.drew.setRow g cur1).setRow g cur2)) := Lib.hid
    ⟨_, rfl, ⟨by unfold insAt; simp only [List.length_append, List.length_take, List.length_drop, hxl, hnl]; omega, .inr ⟨g, c, cur2, rfl, hgB, hg2, by omega, by unfold maxLen; omega, hs2, hfin⟩⟩, below_setRow (below_setRow (Below.refl B w).drew hgB _) hgB _⟩
  have CP1 := Lib.hid hcp1
  have hmn : Nat.min (n + 1 - i) (n - i) = n - i := by simp only [Nat.min_def]; split <;> omega
  have CP2 := Lib.hid hcp2
  clear hsa hsb hg hsz htk hnew hcur1 hcur2 hs1 hs2 hg1 hg2 hfin hcp1 hcp2 hxl hcurl h1 h1x hnl
  go_enter Tryd.func91, Tryd.ntmps91
  go_wp2_with (simp only [hov])
  go_region_law (refine step_copy_runI rfl _ _ 23 23 rfl (.slice (some ⟨g, (i + 1) * 5, none⟩) (n - i) (c - (i + 1))) (.slice (some ⟨g, i * 5, none⟩) (n + 1 - i) (c - i)) (by simp [Act.eval, Act.put]) (by simp [Act.eval, Act.put]) (CP1.out 3 (n - i) (c - (i + 1)) (n + 1 - i) (c - i) hmn) ?_)
  go_wp2_with (refine wpList_copy_runI _ rfl (.tmp 80) (.tmp 81) 23 23 rfl (.slice (some ⟨g, i * 5, none⟩) (n + 1 - i) (c - i)) (.slice (some ⟨vb, 0, none⟩) 1 1) rfl rfl (CP2.out 3 (n + 1 - i) (c - i) (by omega)) ?_)
  go_ret
  exact FIN.out

theorem zeros_size (k : Nat) : (Builtin.zeroCells (Value.agg #[.int .i64 0, .int .i64 0, .string ⟨#[]⟩, .slice none 0 0, .slice none 0 0]).cells k).size = k * 5 := by
  simp [Builtin.zeroCells, Value.cells]

set_option maxHeartbeats 3200000 in
set_option maxRecDepth 100000 in
theorem insV_grow (B : Nat) (g n i vb : Nat) (xs new : List Value) (cur : Array Value) (w : World) (hg : w.heap[g]? = some (.cells cur 25 (0, 0))) (hsz : cur.size = n * 5) (htk : cur.toList.take (n * 5) = xs) (hi : i < n) (hn : n ≤ 24) (hB : B ≤ w.heap.size) (hnl : new.length = 5)
    (hnew : w.heap[vb]? = some (.cells new.toArray 25 (0, 0))) (h1 : ∀ u ∈ new, u.oneCell' = true) (h1x : ∀ u ∈ xs, u.oneCell' = true) :
    Calls Tryd.prog 91 #[.slice (some ⟨g, 0, none⟩) n n, .int .i64 i, .slice (some ⟨vb, 0, none⟩) 1 1] w (InsEnd B (n + 1) (insAt xs new (i * 5)) w) := by
  obtain ⟨i0, hi0, hz0, hzs, hzb⟩ := info_parts info25
  have hgl := block_lt hg
  have hvl := block_lt hnew
  have hcurl : cur.toList.length = n * 5 := by simpa using hsz
  have hxl : xs.length = n * 5 := by rw [← htk, List.length_take, hcurl]; omega
  have hcx : cur.toList = xs := by rw [← htk, List.take_of_length_le (by omega)]
  have hkk : (n : Int) + 1 - (i : Int) = ((n + 1 - i : Nat) : Int) := by omega
  have hik : i + (n + 1 - i) = n + 1 := by omega
  have hold : (Builtin.firstCells i0.size i (.slice (some ⟨g, 0, none⟩) i n)).run Tryd.prog w.drew = .ok (xs.take (i * 5)).toArray w.drew := by
    rw [hzs]
    exact run_firstCells_some w.drew 5 i ⟨g, 0, none⟩ i n (xs.take (i * 5)) (by rw [List.length_take, hxl]; omega) (fun j v hj => by
      rw [WideShapes.add_plain, Lib.cell_of_heap (w := w.drew) hg, Nat.zero_add, ← Array.getElem?_toList, hcx]
      rw [List.getElem?_take] at hj
      split at hj
      · exact hj
      · cases hj)
  obtain ⟨G, hG⟩ : ∃ G, G = grownCap w (n + 1) n 25 := ⟨_, rfl⟩
  obtain ⟨Z, hZ⟩ : ∃ Z : Nat → Array Value, Z = Builtin.zeroCells (Value.agg #[.int .i64 0, .int .i64 0, .string ⟨#[]⟩, .slice none 0 0, .slice none 0 0]).cells := ⟨_, rfl⟩
  have hZs : ∀ k, (Z k).size = k * 5 := fun k => by rw [hZ]; exact zeros_size k
  obtain ⟨ROW, hROW⟩ : ∃ ROW : Array Value, ROW = (xs.take (i * 5)).toArray ++ Z (n + 1 - i) ++ Z (G - (n + 1)) := ⟨_, rfl⟩
  have hrz : ∀ ty, (Builtin.append_ #[23, 3] ty #[.slice (some ⟨g, 0, none⟩) i n, .int .i64 ((n : Int) + 1 - (i : Int))]).run Tryd.prog w = .ok (.slice (some ⟨w.heap.size, 0, none⟩) (n + 1) G) (w.drew.alloc (.cells ROW 25)) := fun ty => by
    have h := Lib.run_append_grow_zeros w 23 3 ty 25 i0 _ .i64 .i64 Tryd.underlying23 Tryd.underlying3 hi0 hz0 (some ⟨g, 0, none⟩) i n (xs.take (i * 5)) hold (n + 1 - i) (by omega) (by omega) (by omega) (by omega) (by rw [hzb]; omega) (by rw [hzb, hik]; exact growslice_fits (by omega) (by omega))
    rw [hik, ← hG, ← hZ, ← hROW] at h
    rw [hkk]
    exact h
  have hGn : n + 1 ≤ G := by rw [hG]; exact grownCap_ge w _ _ _
  have hGm : G ≤ maxLen := by rw [hG]; exact grownCap_le_maxLen w (n + 1) n 25 (by unfold maxLen; omega)
  have hRl : ROW.toList.length = G * 5 := by
    rw [hROW]
    simp only [Array.length_toList, Array.size_append, List.size_toArray, List.length_take, hZs, hxl]
    omega
  obtain ⟨cur1, hcur1⟩ : ∃ cur1 : Array Value, cur1 = (ROW.toList.take (i * 5) ++ new ++ ROW.toList.drop (i * 5 + new.length)).toArray := ⟨_, rfl⟩
  have hs1 : cur1.toList.length = G * 5 := by
    rw [hcur1]
    simp only [List.length_append, List.length_take, List.length_drop, hRl, hnl]
    omega
  obtain ⟨cur2, hcur2⟩ : ∃ cur2 : Array Value, cur2 = (cur1.toList.take ((i + 1) * 5) ++ xs.drop (i * 5) ++ cur1.toList.drop ((i + 1) * 5 + (xs.drop (i * 5)).length)).toArray := ⟨_, rfl⟩
  have hs2 : cur2.toList.length = G * 5 := by
    rw [hcur2]
    simp only [List.length_append, List.length_take, List.length_drop, hs1, hxl]
    omega
  have hcpA : ∀ (W : World), W.heap[w.heap.size]? = some (.cells ROW 25 (0, 0)) → W.heap[vb]? = some (.cells new.toArray 25 (0, 0)) → ∀ ty dl dc, 1 ≤ dl → (Builtin.copy_ #[23, 23] ty #[.slice (some ⟨w.heap.size, i * 5, none⟩) dl dc, .slice (some ⟨vb, 0, none⟩) 1 1]).run Tryd.prog W = .ok (goInt (1 : Nat)) (W.setRow w.heap.size cur1) := fun W hW hV ty dl dc hdl => by
    rw [hcur1]
    refine run_copy_sized W 23 23 ty 25 w.heap.size (i * 5) dl dc ⟨vb, 0, none⟩ 1 1 ROW 25 new 5 1 Tryd.underlying23 size25m hW (by simp only [Nat.min_def]; split <;> omega) (by rw [hnl]) (fun j v hj => ?_) (by rw [hnl, ← Array.length_toList, hRl]; omega) h1
    rw [WideShapes.add_plain, Nat.zero_add, Lib.cell_of_heap hV]
    simpa using hj
  have hcpB : ∀ (W : World), W.heap[w.heap.size]? = some (.cells cur1 25 (0, 0)) → W.heap[g]? = some (.cells cur 25 (0, 0)) → ∀ ty dl dc sl sc, Nat.min sl dl = n - i → (Builtin.copy_ #[23, 23] ty #[.slice (some ⟨w.heap.size, (i + 1) * 5, none⟩) dl dc, .slice (some ⟨g, i * 5, none⟩) sl sc]).run Tryd.prog W = .ok (goInt (n - i : Nat)) (W.setRow w.heap.size cur2) := fun W hW hV ty dl dc sl sc hmin => by
    rw [hcur2]
    refine run_copy_sized W 23 23 ty 25 w.heap.size ((i + 1) * 5) dl dc ⟨g, i * 5, none⟩ sl sc cur1 25 (xs.drop (i * 5)) 5 (n - i) Tryd.underlying23 size25m hW hmin (by rw [List.length_drop, hxl]; omega) (fun j v hj => ?_) (by rw [List.length_drop, hxl, ← Array.length_toList, hs1]; omega) (fun u hu => h1x u (List.mem_of_mem_drop hu))
    rw [WideShapes.add_plain, Lib.cell_of_heap hV, ← Array.getElem?_toList, hcx]
    rw [List.getElem?_drop] at hj
    exact hj
  have hfin : cur2.toList.take ((n + 1) * 5) = insAt xs new (i * 5) := by
    have hR0 : ROW.toList.take (i * 5) = xs.take (i * 5) := by
      rw [hROW]
      simp only [Array.toList_append, List.append_assoc]
      exact List.take_left' (by rw [List.length_take, hxl]; omega)
    have e1 : cur1.toList.take ((i + 1) * 5) = xs.take (i * 5) ++ new := by
      rw [hcur1, List.toList_toArray, hR0]
      exact List.take_left' (by rw [List.length_append, List.length_take, hxl, hnl]; omega)
    rw [hcur2, List.toList_toArray, e1]
    unfold insAt
    exact List.take_left' (by simp only [List.length_append, List.length_take, List.length_drop, hxl, hnl]; omega)
  have hGs : cur2.size = G * 5 := by rw [← Array.length_toList, hs2]
  have hfinal : ∀ W : World, W.heap[w.heap.size]? = some (.cells cur2 25 (0, 0)) → Below B w W → InsEnd B (n + 1) (insAt xs new (i * 5)) w (.returned (.slice (some ⟨w.heap.size, 0, none⟩) (n + 1) G)) W := fun W hW hb =>
    ⟨_, rfl, ⟨by unfold insAt; simp only [List.length_append, List.length_take, List.length_drop, hxl, hnl]; omega, .inr ⟨w.heap.size, G, cur2, rfl, hB, hW, hGn, hGm, hGs, hfin⟩⟩, hb⟩
  have FIN := Lib.hid hfinal
  have CPA := Lib.hid hcpA
  have CPB := Lib.hid hcpB
  have HN1 : Hid ((w.drew.alloc (.cells ROW 25)).heap[w.heap.size]? = some (.cells ROW 25 (0, 0))) := Lib.hid (heap_alloc_new w.drew _)
  have HV1 : Hid ((w.drew.alloc (.cells ROW 25)).heap[vb]? = some (.cells new.toArray 25 (0, 0))) := Lib.hid ((Below.heap_alloc w.drew _ _ hvl).trans hnew)
  have HG1 : Hid ((w.drew.alloc (.cells ROW 25)).heap[g]? = some (.cells cur 25 (0, 0))) := Lib.hid ((Below.heap_alloc w.drew _ _ hgl).trans hg)
  have HBL : Hid (Below B w (w.drew.alloc (.cells ROW 25))) := Lib.hid ((Below.refl B w).drew.alloc hB _)
  have HB := Lib.hid hB
  have hgN : g ≠ w.heap.size := by omega
  have HGN := Lib.hid hgN
  have hz2 : ¬ ((i : Int) = (n : Int)) := by omega
  have hw1 : IntKind.i64.wrap ((i : Int) + 1) = (i : Int) + 1 := by rw [IntKind.wrap_i64]; omega
  have hb1 : (0 : Int) ≤ (i : Int) + 1 := by omega
  have hin : i ≤ n := by omega
  have htn : ((i : Int) + 1).toNat = i + 1 := by omega
  have hb3 : (i : Int) ≤ (n : Int) := by omega
  have hGi : ¬ (G = i) := by omega
  have hGim : ¬ (G = i + 1) := by omega
  have hci : ¬ (n = i) := by omega
  have hmn : Nat.min (n - i) (n - i) = n - i := Nat.min_self _
  unfold maxLen at hGm
  clear hkk hik hold hROW hG hRl hcur1 hcur2 hs1 hs2 hGs hfin hfinal hcpA hcpB hcx hxl hcurl hgN hB hg hsz htk hnew h1 h1x hnl hZ hZs hzs hzb hz0 hi0
  go_enter Tryd.func91, Tryd.ntmps91
  have CA := CPA.out ((w.alloc (.cells ROW 25)).drew) HN1.out HV1.out 3 (n + 1 - i) (G - i) (by omega)
  have CB := CPB.out (((w.alloc (.cells ROW 25)).drew.setRow w.heap.size cur1).drew) (setRow_heap _ _ ROW cur1 25 (0, 0) HN1.out) ((setRow_other _ _ _ _ HGN.out).trans HG1.out) 3 (n - i) (G - (i + 1)) (n - i) (n - i) hmn
  have HCA := Lib.hid CA
  have HCB := Lib.hid CB
  have HEND : Hid (InsEnd B (n + 1) (insAt xs new (i * 5)) w (.returned (.slice (some ⟨w.heap.size, 0, none⟩) (n + 1) G)) ((((w.alloc (.cells ROW 25)).drew.setRow w.heap.size cur1).drew).setRow w.heap.size cur2)) := Lib.hid
    (FIN.out _ (setRow_heap _ _ cur1 cur2 25 (0, 0) (setRow_heap ((w.alloc (.cells ROW 25)).drew) _ ROW cur1 25 (0, 0) HN1.out)) (below_setRow (below_setRow ((Below.refl B w).alloc HB.out _).drew HB.out _).drew HB.out _))
  clear CA CB
  go_wp2_with (first
    | (at_builtin; refine Lib.wpList_append_run _ rfl _ _ _ _ rfl _ _ rfl rfl _ _ (hrz _) ?_)
    | (refine wpList_copy_runI _ rfl (.tmp 43) (.tmp 44) 23 23 rfl (.slice (some ⟨w.heap.size, i * 5, none⟩) (n + 1 - i) (G - i)) (.slice (some ⟨vb, 0, none⟩) 1 1) rfl rfl HCA.out ?_))
  go_region_law (refine step_copy_runI rfl _ _ 23 23 rfl (.slice (some ⟨w.heap.size, (i + 1) * 5, none⟩) (n - i) (G - (i + 1))) (.slice (some ⟨g, i * 5, none⟩) (n - i) (n - i)) (by simp [Act.eval, Act.put]) (by simp [Act.eval, Act.put]) HCB.out ?_)
  go_wp2
  go_ret
  exact HEND.out

theorem insV_any (B : Nat) (v : Value) (n i vb : Nat) (xs new : List Value) (w : World) (hown : w.ownsRow B 25 5 v n xs) (hi : i ≤ n) (hn : n ≤ 24) (hB : B ≤ w.heap.size) (hnl : new.length = 5)
    (hnew : w.heap[vb]? = some (.cells new.toArray 25 (0, 0))) (h1 : ∀ u ∈ new, u.oneCell' = true) (h1x : ∀ u ∈ xs, u.oneCell' = true) (hvb : v.ownBlock ≠ some vb) :
    Calls Tryd.prog 91 #[v, .int .i64 i, .slice (some ⟨vb, 0, none⟩) 1 1] w (InsEnd B (n + 1) (insAt xs new (i * 5)) w) := by
  by_cases hin : i = n
  · subst hin
    exact insV_end B v i vb xs new w hown hn hB hnl hnew h1
  · rcases hown.2 with ⟨_, h0⟩ | ⟨g, c, cur, rfl, hgB, hg, hnc, hcm, hsz, htk⟩
    · omega
    · by_cases hroom : n + 1 ≤ c
      · exact insV_room B g c n i vb xs new cur w hgB hg hsz htk (by omega) hn hroom hcm hnl hnew h1 h1x (fun e => hvb (by rw [e]; rfl))
      · obtain rfl : c = n := by omega
        exact insV_grow B g c i vb xs new cur w hg hsz htk (by omega) hn hB hnl hnew h1 h1x
end Go.Proofs.YtijibjdgnaphiaaDoor
