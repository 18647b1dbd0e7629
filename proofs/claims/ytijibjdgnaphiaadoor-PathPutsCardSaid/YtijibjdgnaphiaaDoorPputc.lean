/- put: a step that leads to an item, where something is put below it. -/
import Derived.Test.YtijibjdgnaphiaaDoorPputb
namespace Go.Proofs.YtijibjdgnaphiaaDoor
open Go.ChangeShapes Go.WideShapes Go.Deep Go.RowKit Go.Lib

/-- The items lie in the row of block g. -/
structure RowOf (xs : List AV) (g : Nat) (w : World) : Prop where
  lt : g < w.heap.size
  thr : w.there g 0 (xs.length * 5)
  cells : ∀ i (hi : i < xs.length), w.rangeAt g (i * 5) xs[i].row

theorem rowOf_owns {w : World} {base : Nat} {xa : Option Addr} {n cap : Nat} {xs : List AV} (h : w.ownsRow base 25 5 (.slice xa n cap) xs.length (rows xs)) (hne : 0 < xs.length) : ∃ gb, xa = some ⟨gb, 0, none⟩ ∧ base ≤ gb ∧ RowOf xs gb w := by
  rcases h.2 with ⟨_, h0⟩ | ⟨gb, cap', cur, hv, hge, hgg, hle, _, hsz, ht⟩
  · omega
  · simp only [Value.slice.injEq] at hv
    refine ⟨gb, hv.1, hge, block_lt hgg, fun c hc => ?_, fun i hi c v hcv => ?_⟩
    · rw [Lib.cell_of_heap hgg, Nat.zero_add, Array.getElem?_eq_getElem (by omega)]
      exact ⟨rfl, Lib.frozen_of_heap hgg _⟩
    · have hc : c < 5 := by
        have := (List.getElem?_eq_some_iff.1 hcv).1
        rwa [AV.row_length] at this
      have h1 := congrArg (·[i * 5 + c]?) ht
      simp only [List.getElem?_take] at h1
      rw [if_pos (by omega), rows_at xs i c hi hc, Array.getElem?_toList] at h1
      rw [Lib.cell_of_heap hgg, h1]
      exact hcv

theorem RowOf.set {xs : List AV} {g i : Nat} {w : World} (h : RowOf xs g w) (hi : i < xs.length) (z : AV) : RowOf (xs.set i z) g (w.setCells g (i * 5) z.row) where
  lt := by rw [size_setCells]; exact h.lt
  thr := by rw [List.length_set]; exact World.there_setCells h.thr _ _ _
  cells j hj := by
    rw [List.length_set] at hj
    by_cases e : j = i
    · subst e
      rw [List.getElem_set_self]
      exact World.rangeAt_setCells_same _ _ _ _ (by rw [AV.row_length]; exact there_part h.thr (Nat.zero_le _) (by omega))
    · rw [List.getElem_set_ne (by omega)]
      exact World.rangeAt_setCells_apart (h.cells j hj) _ _ _ (.inr (by rw [AV.row_length, AV.row_length]; omega))

theorem RowOf.below {xs : List AV} {g : Nat} {w W : World} (h : RowOf xs g w) (hb : Below w.heap.size w W) : RowOf xs g W where
  lt := Nat.lt_of_lt_of_le h.lt hb.size
  thr := there_below h.thr h.lt hb
  cells i hi := range_below (h.cells i hi) h.lt hb

theorem RowOf.facts {xs : List AV} {g j : Nat} {w3 : World} (hC : RowOf xs g w3) (hj : j < xs.length) :
    (∃ v, w3.cell? ⟨g, j * 5, none⟩ = some v) ∧ (∃ v, w3.cell? ⟨g, j * 5 + 1, none⟩ = some v) ∧ (∃ v, w3.cell? ⟨g, j * 5 + 2, none⟩ = some v) ∧ (∃ v, w3.cell? ⟨g, j * 5 + 3, none⟩ = some v) ∧ (∃ v, w3.cell? ⟨g, j * 5 + 4, none⟩ = some v) ∧
    w3.frozen? ⟨g, j * 5, none⟩ = false ∧ w3.frozen? ⟨g, j * 5 + 1, none⟩ = false ∧ w3.frozen? ⟨g, j * 5 + 2, none⟩ = false ∧ w3.frozen? ⟨g, j * 5 + 3, none⟩ = false ∧ w3.frozen? ⟨g, j * 5 + 4, none⟩ = false := by
  have one : ∀ c, c < 5 → (∃ v, w3.cell? ⟨g, j * 5 + c, none⟩ = some v) ∧ w3.frozen? ⟨g, j * 5 + c, none⟩ = false := fun c hc => by
    have h := hC.thr (j * 5 + c) (by omega)
    rw [Nat.zero_add] at h
    exact ⟨Option.isSome_iff_exists.1 h.1, h.2⟩
  exact ⟨(one 0 (by omega)).1, (one 1 (by omega)).1, (one 2 (by omega)).1, (one 3 (by omega)).1, (one 4 (by omega)).1, (one 0 (by omega)).2, (one 1 (by omega)).2, (one 2 (by omega)).2, (one 3 (by omega)).2, (one 4 (by omega)).2⟩

/-- The value with one item replaced lies there. -/
theorem set_apart {w0 wc wf : World} {P : Nat} {k n : Int} {s : ByteArray} {na : Option Addr} {nc : Nat} {ns : List ByteArray} {xa : Option Addr} {xc : Nat} {xs : List AV} {z : AV} {i gb xc1 : Nat} (hin0 : (AV.mk k n s na nc ns xa xc xs).In w0) (hold : Below w0.heap.size w0 wf)
    (hz : z.Apart w0.heap.size (P + 3) wc) (hk : ∀ a : Addr, a.block < w0.heap.size ∨ P + 3 ≤ a.block → a.block < wc.heap.size → wf.cell? a = wc.cell? a) (hsz : wc.heap.size ≤ wf.heap.size) (hi : i < xs.length) (hgb : P ≤ gb) (hlt : gb < wf.heap.size) (hrow : ∀ j (hj : j < (xs.set i z).length), wf.rangeAt gb (j * 5) (xs.set i z)[j].row) (hcap : xs.length ≤ xc1 ∧ xc1 ≤ maxLen) :
    (AV.mk k n s na nc ns (some ⟨gb, 0, none⟩) xc1 (xs.set i z)).Apart w0.heap.size P wf := by
  intro WZ hWZ
  have hcell : ∀ a : Addr, a.block < w0.heap.size → WZ.cell? a = w0.cell? a := fun a ha => (hWZ a (.inl ha) (by have := hold.size; omega)).trans (hold.cell ha)
  have ht := hin0.old hcell
  rw [AV.In] at ht ⊢
  obtain ⟨t1, t2, t3, t4, t5, _, _, t8, t9, _, _⟩ := ht
  refine ⟨t1, t2, t3, t4, t5, by rw [List.length_set]; exact hcap.1, hcap.2, t8, t9, fun b o e => ?_, .inr ⟨gb, 0, rfl⟩⟩
  cases e
  refine AV.InAll.of fun j hj => ⟨fun c v hcv => ?_, ?_⟩
  · rw [Nat.zero_add, hWZ _ (.inr hgb) hlt]
    exact hrow j hj c v hcv
  · rw [List.length_set] at hj
    by_cases e : j = i
    · subst e
      rw [List.getElem_set_self]
      exact (hz.kept hk hsz) WZ fun a h1 h2 => hWZ a (h1.imp id fun h => by omega) h2
    · rw [List.getElem_set_ne (by omega)]
      obtain ⟨b, o, _, hit⟩ := hin0.item (by intro e; rw [e] at hj; simp at hj)
      exact (hit j hj).2.old hcell

theorem set_eqv {k n : Int} {s : ByteArray} {na na' : Option Addr} {nc nc' : Nat} {ns : List ByteArray} {xa xa' : Option Addr} {xc xc' : Nat} {xs : List AV} {z z' : AV} (i : Nat) (h : AV.eqv z' z = true) :
    AV.eqv (.mk k n s na nc ns xa xc (xs.set i z')) (.mk k n s na' nc' ns xa' xc' (xs.set i z)) = true := by
  rw [AV.eqv, eqvAll_of (by simp) fun j h1 h2 => ?_]
  · simp
  · rw [List.length_set] at h1
    by_cases e : j = i
    · subst e; rw [List.getElem_set_self, List.getElem_set_self]; exact h
    · rw [List.getElem_set_ne (by omega), List.getElem_set_ne (by omega)]; exact AV.eqv_refl _

/-- What stands at the cut behind the inner call. -/
def Cut (w0 w : World) (a b c : Array Value) (Z : AV) (s10 s11 : Value) (wx : World) : Prop :=
  ∃ (N : Nat) (z : AV), s10 = .pointer (some ⟨N, 0, none⟩) ∧ s11 = .int .i64 0 ∧ wx.heap[N]? = some (.cells z.row.toArray 25 (0, 0)) ∧ w.heap.size + 3 ≤ N ∧ z.Apart w0.heap.size (w.heap.size + 3) wx ∧ AV.eqv z Z = true ∧ Three w.heap.size a b c wx ∧ Below w.heap.size w wx

theorem cut_new {w0 w w3 w5 : World} {a b c : Array Value} {Z : AV} {k n : Int} {s : ByteArray} {na : Option Addr} {nc : Nat} {ns : List ByteArray} {xa : Option Addr} {xc : Nat} {xs : List AV} (hT : Three w.heap.size a b c w3) (hB : Below w.heap.size w w3) (h5 : Below w3.drew.heap.size w3.drew w5)
    (hz : (AV.mk k n s na nc ns xa xc xs).Apart w0.heap.size w3.drew.heap.size w5) (he : AV.eqv (.mk k n s na nc ns xa xc xs) Z = true) :
    Cut w0 w a b c Z (.pointer (some ⟨w5.heap.size, 0, none⟩)) (.int .i64 0) (w5.alloc (.cells #[.int .i64 k, .int .i64 n, .string s, .slice na ns.length nc, .slice xa xs.length xc] 25)) := by
  have h3 := block_lt hT.h2
  have hs : w3.heap.size ≤ w5.heap.size := h5.size
  obtain ⟨t1, t2⟩ := three_past hT hB (past_new h5 (.cells #[.int .i64 k, .int .i64 n, .string s, .slice na ns.length nc, .slice xa xs.length xc] 25))
  exact ⟨_, _, rfl, rfl, heap_alloc_new _ _, by omega, (hz.mono (show w.heap.size + 3 ≤ w3.heap.size by omega)).below ((Below.refl _ _).alloc (Nat.le_refl _) _), he, t1, t2⟩

theorem cut_old {w0 w w3 w5 : World} {o : Obj} {a b c : Array Value} {Z : AV} {k n : Int} {s : ByteArray} {na : Option Addr} {nc : Nat} {ns : List ByteArray} {xa : Option Addr} {xc : Nat} {xs : List AV} {c0 c1 c2 c3 c4 : Value} (hT : Three w.heap.size a b c w3) (hB : Below w.heap.size w w3) (h0 : w0.heap.size ≤ w.heap.size) (h5 : Below (w3.alloc o).drew.heap.size (w3.alloc o).drew w5)
    (hbox : (w3.alloc o).drew.heap[w3.heap.size]? = some (.cells #[c0, c1, c2, c3, c4] 25 (0, 0))) (hz : (AV.mk k n s na nc ns xa xc xs).Apart w0.heap.size (w3.alloc o).drew.heap.size w5) (he : AV.eqv (.mk k n s na nc ns xa xc xs) Z = true) :
    Cut w0 w a b c Z (.pointer (some ⟨w3.heap.size, 0, none⟩)) (.int .i64 0) (((((w5.setCell ⟨w3.heap.size, 0, none⟩ (.int .i64 k)).setCell ⟨w3.heap.size, 1, none⟩ (.int .i64 n)).setCell ⟨w3.heap.size, 2, none⟩ (.string s)).setCell ⟨w3.heap.size, 3, none⟩ (.slice na ns.length nc)).setCell ⟨w3.heap.size, 4, none⟩ (.slice xa xs.length xc)) := by
  have h3 := block_lt hT.h2
  have hw := hB.size
  obtain ⟨t1, t2⟩ := three_past hT hB (below_five (past_old h5) (Nat.le_refl _) (.int .i64 k) (.int .i64 n) (.string s) (.slice na ns.length nc) (.slice xa xs.length xc))
  have hsz : (w3.alloc o).drew.heap.size = w3.heap.size + 1 := by
    show (w3.alloc o).heap.size = _
    simp
  rw [hsz] at hz
  refine ⟨_, _, rfl, rfl, block5 (box_past hbox h5), by omega, ?_, he, t1, t2⟩
  refine AV.Apart.mono (C := w3.heap.size + 1) (hz.kept (fun a h1 h2 => ?_) (Nat.le_of_eq (by simp))) (by omega)
  rw [World.cell?_setCell_far _ _ _ _ (by simp; omega), World.cell?_setCell_far _ _ _ _ (by simp; omega), World.cell?_setCell_far _ _ _ _ (by simp; omega), World.cell?_setCell_far _ _ _ _ (by simp; omega), World.cell?_setCell_far _ _ _ _ (by simp; omega)]

set_option maxHeartbeats 3200000 in
set_option maxRecDepth 100000 in
theorem put_sets (k n : Int) (s : ByteArray) (na : Option Addr) (nc : Nat) (ns : List ByteArray) (xa : Option Addr) (xc : Nat) (xs : List AV) (x : AV) (p : ByteArray) (r : List ByteArray) (sb so sc : Nat) (w0 w : World) (lv : Nat) (hin0 : (AV.mk k n s na nc ns xa xc xs).In w0) (hxin0 : x.In w0) (hb0 : Below w0.heap.size w0 w) (hf : AV.formedJ (.mk k n s na nc ns xa xc xs) lv = true)
    (hp : w.cell? ⟨sb, so, none⟩ = some (.string p)) (h1 : 0 < p.size) (h2 : p.size ≤ 60) (hE : ErrV w) (hsc : r.length + 1 ≤ sc) (i : Nat) (hpl : (AV.mk k n s na nc ns xa xc xs).place p = some i) (hi : i < xs.length) (Z : AV) (hRes : xs[i].putAt r x = some Z)
    (IH : Hid (∀ (W : World) (sa : Option Addr) (l c : Nat), Below w.heap.size w W → l = r.length → l ≤ c → (r = [] ∨ sa = some ⟨sb, so + 1, none⟩) → Calls Tryd.prog 48 #[xs[i].val, .slice sa l c, x.val] W (PutEnd (xs[i].putAt r x) w0.heap.size W))) :
    Calls Tryd.prog 48 #[(AV.mk k n s na nc ns xa xc xs).val, .slice (some ⟨sb, so, none⟩) (r.length + 1) sc, x.val] w (PutEnd ((AV.mk k n s na nc ns xa xc xs).putAt (p :: r) x) w0.heap.size w) := by
  have FI := Lib.hid (fun W (h : Below w.heap.size w W) => find_any (AV.mk k n s na nc ns xa xc xs) p W ((hin0.below hb0 (Nat.le_refl _)).below h (Nat.le_refl _)) h1 h2 (hE.later h) lv hf)
  have HPUT : Hid ((AV.mk k n s na nc ns xa xc xs).putAt (p :: r) x = match xs[i].putAt r x with | some z => some (.mk k n s na nc ns xa xc (xs.set i z)) | none => none) := by
    refine Lib.hid ?_
    rw [AV.putAt]
    simp only [hpl]
    rw [List.getElem?_eq_getElem hi]
    dsimp only
    cases AV.putAt r xs[i] x <;> rfl
  rw [HPUT.out]
  clear HPUT
  unfold FindEnd at FI
  rw [findI_some hpl, hpl] at FI
  have HIN0 := Lib.hid hin0
  have HXIN0 := Lib.hid hxin0
  have HB0 := Lib.hid hb0
  have HS0 : Hid (w0.heap.size ≤ w.heap.size) := Lib.hid hb0.size
  have hx24 := formed_len hf
  obtain ⟨bx, ox, rfl, hit⟩ := hin0.item (by intro e; rw [e] at hi; simp at hi)
  obtain ⟨hr, hyin⟩ := hit i hi
  have HYIN := Lib.hid hyin
  have hr1 : w.rangeAt bx (ox + i * 5) xs[i].row := AV.rangeAt_old (fun a ha => hb0.cell ha) hr
  obtain ⟨y, hy⟩ : ∃ y, xs[i] = y := ⟨_, rfl⟩
  rw [hy] at hr1 IH HYIN ⊢
  have HY := Lib.hid hy
  rw [hy] at hRes
  obtain ⟨R, hR⟩ : ∃ R, y.putAt r x = R := ⟨_, rfl⟩
  rw [hR] at IH hRes ⊢
  clear hpl hf hE hin0 hxin0 h1 h2 hb0 hit hr hyin hy hR
  obtain ⟨k2, n2, s2, na2, nc2, ns2, xa2, xc2, xs2⟩ := x
  obtain ⟨k3, n3, s3, na3, nc3, ns3, xa3, xc3, xs3⟩ := y
  simp only [AV.val, AV.row] at FI IH hr1 ⊢
  have HR1 := Lib.hid hr1
  have HB3 : Hid (Below w.heap.size w (((w.alloc (.cells #[.int .i64 k, .int .i64 n, .string s, .slice na ns.length nc, .slice (some ⟨bx, ox, none⟩) xs.length xc] 25)).alloc (.cells #[.int .i64 k2, .int .i64 n2, .string s2, .slice na2 ns2.length nc2, .slice xa2 xs2.length xc2] 25)).alloc (.cells #[.int .i64 0, .int .i64 0, .string ⟨#[]⟩, .slice none 0 0, .slice none 0 0] 25))) :=
    Lib.hid ((((Below.refl _ _).alloc (Nat.le_refl _) _).alloc (by simp) _).alloc (by simp; omega) _)
  have HT := Lib.hid (three_new w #[.int .i64 k, .int .i64 n, .string s, .slice na ns.length nc, .slice (some ⟨bx, ox, none⟩) xs.length xc] #[.int .i64 k2, .int .i64 n2, .string s2, .slice na2 ns2.length nc2, .slice xa2 xs2.length xc2] #[.int .i64 0, .int .i64 0, .string ⟨#[]⟩, .slice none 0 0, .slice none 0 0])
  have hrl : decide ((r.length : Int) + 1 = 0) = false := by rw [decide_eq_false_iff_not]; omega
  have hrl2 : (0 : Int) < (r.length : Int) + 1 := by omega
  clear hr1
  go_enter Tryd.func48, Tryd.ntmps48
  go_upto_region 1 with fail
  generalize (((w.alloc (.cells #[.int .i64 k, .int .i64 n, .string s, .slice na ns.length nc, .slice (some ⟨bx, ox, none⟩) xs.length xc] 25)).alloc (.cells #[.int .i64 k2, .int .i64 n2, .string s2, .slice na2 ns2.length nc2, .slice xa2 xs2.length xc2] 25)).alloc (.cells #[.int .i64 0, .int .i64 0, .string ⟨#[]⟩, .slice none 0 0, .slice none 0 0] 25)) = W3 at *
  have hp3 := cell_later hp HB3.out
  obtain ⟨a0, a1, a2, a3, a4⟩ := bx5 HT.out.h0
  have hq0 := fun d os => cell_regrown a0 d os
  have hq1 := fun d os => cell_regrown a1 d os
  have hq2 := fun d os => cell_regrown a2 d os
  have hq3 := fun d os => cell_regrown a3 d os
  have hq4 := fun d os => cell_regrown a4 d os
  have hq5 := fun d os => cell_regrown hp3 d os
  go_upto_region 3 with fail
  refine wp_region_quiet_below (by kernel_rfl) (by kernel_rfl) ?_
  repeat (go_big_quiet_step (exact Calls.regrown_of (FI.out _ (HB3.out.trans ((below_regrown _ _ _).mono HB3.out.size)))))
  refine wpQuiet_nil ?_
  intro _ hw'
  obtain ⟨⟨dq, osq⟩, hw''⟩ := hw'
  subst hw''
  have hbq := below_regrown W3 dq osq
  clear hq0 hq1 hq2 hq3 hq4 hq5
  generalize Go.Sort.grow (redrawn W3 dq) osq = w3 at *
  have HT3 := Lib.hid (HT.out.later (B := W3.heap.size) hbq (by have := block_lt HT.out.h2; omega))
  have HB4 := Lib.hid (HB3.out.trans (hbq.mono HB3.out.size))
  clear a0 a1 a2 a3 a4 hbq HB3 HT hp3 FI
  have a4 := (bx5 HT3.out.h0).2.2.2.2
  obtain ⟨b0, b1, b2, b3, b4⟩ := bx5 HT3.out.h1
  obtain ⟨g0, g1, g2, g3, g4⟩ := range5 (AV.rangeAt_old (fun a ha => HB4.out.cell ha) HR1.out)
  have lat : ∀ {a : Addr} {v : Value}, w3.cell? a = some v → ∀ o, (w3.alloc o).cell? a = some v := fun h o => cell_later h ((Below.refl w3.heap.size w3).alloc (Nat.le_refl _) o)
  have a4' := lat a4
  have b0' := lat b0
  have b1' := lat b1
  have b2' := lat b2
  have b3' := lat b3
  have b4' := lat b4
  have g0' := lat g0
  have g1' := lat g1
  have g2' := lat g2
  have g3' := lat g3
  have g4' := lat g4
  have HD : Hid (Below w.heap.size w w3.drew) := Lib.hid HB4.out.drew
  have HE : Hid (∀ o, Below w.heap.size w (w3.alloc o).drew) := Lib.hid (fun o => (HB4.out.alloc HB4.out.size o).drew)
  have HBOX : Hid ((w3.alloc (.cells #[.int .i64 0, .int .i64 0, .string ⟨#[]⟩, .slice none 0 0, .slice none 0 0] 25)).drew.heap[w3.heap.size]? = some (.cells #[.int .i64 0, .int .i64 0, .string ⟨#[]⟩, .slice none 0 0, .slice none 0 0] 25 (0, 0))) := Lib.hid (heap_alloc_new w3 _)
  have hi' : (i : Int) < (xs.length : Int) := by omega
  have hsc1 : (1 : Int) ≤ (r.length : Int) + 1 := by omega
  clear lat HR1
  have hcase : sc = 1 ∧ r = [] ∨ ¬ sc = 1 := by
    by_cases h : sc = 1
    · exact .inl ⟨h, List.length_eq_zero_iff.1 (by omega)⟩
    · exact .inr h
  subst hRes
  have CV := Lib.hid (fun W (hb : Below w.heap.size w W) => cloneV_any (some ⟨bx, ox, none⟩) xc xs W (by omega) (by
    obtain ⟨b, o, e, hit⟩ := HIN0.out.item (by intro e; rw [e] at hi; simp at hi)
    exact .inr ⟨b, o, e, fun i hi => AV.rangeAt_old (fun a ha => (hb.cell (Nat.lt_of_lt_of_le ha HB0.out.size)).trans (HB0.out.cell ha)) (hit i hi).1⟩))
  unfold PutEnd at IH
  rcases hcase with ⟨rfl, rfl⟩ | hs1
  all_goals
    go_upto_region 6 with fail
    go_cut [10, 11] (fun s10 s11 wx => Cut w0 w #[.int .i64 k, .int .i64 n, .string s, .slice na ns.length nc, .slice (some ⟨bx, ox, none⟩) xs.length xc] #[.int .i64 k2, .int .i64 n2, .string s2, .slice na2 ns2.length nc2, .slice xa2 xs2.length xc2] #[.int .i64 0, .int .i64 0, .string ⟨#[]⟩, .slice none 0 0, .slice none 0 0] Z s10 s11 wx)
    case first =>
      clear CV
      go_region_with (first
        | (go_at_call 48; (with_reducible refine (IH.out _ _ _ _ HD.out (by first | rfl | omega) (by first | exact Nat.zero_le _ | omega) (by first | exact .inl rfl | exact .inr rfl)).mono ?_); rintro e w5 ⟨hb5, z', rfl, hza, hze⟩; obtain ⟨k4, n4, s4, na4, nc4, ns4, xa4, xc4, xs4⟩ := z'; simp only [AV.val, AV.row])
        | (go_at_call 48; (with_reducible refine (IH.out _ _ _ _ (HE.out _) (by first | rfl | omega) (by first | exact Nat.zero_le _ | omega) (by first | exact .inl rfl | exact .inr rfl)).mono ?_); rintro e w5 ⟨hb5, z', rfl, hza, hze⟩; obtain ⟨k4, n4, s4, na4, nc4, ns4, xa4, xc4, xs4⟩ := z'; simp only [AV.val, AV.row]; obtain ⟨u0, u1, u2, u3, u4⟩ := bx5 (box_past HBOX.out hb5); obtain ⟨v0, v1, v2, v3, v4⟩ := fz5 (box_past HBOX.out hb5)))
      all_goals
        go_wp2_with fail
        go_meet
        first
          | with_reducible exact cut_new HT3.out HB4.out hb5 hza hze
          | with_reducible exact cut_old HT3.out HB4.out HS0.out hb5 HBOX.out hza hze
    case rest =>
      obtain ⟨N, z, rfl, rfl, hN, hNge, hzA, hze, hT4, hB4⟩ := hcut
      have HZA := Lib.hid hzA
      have HZE := Lib.hid hze
      have HN := Lib.hid hN
      have HNGE := Lib.hid hNge
      have HT5 := Lib.hid hT4
      have HB5 := Lib.hid hB4
      obtain ⟨k4, n4, s4, na4, nc4, ns4, xa4, xc4, xs4⟩ := z
      simp only [AV.row] at HN
      have d4 := (bx5 hT4.h0).2.2.2.2
      clear hN hNge hzA hze hT4 hB4
      go_wp2_with fail
      refine (CV.out _ HB5.out).mono ?_
      rintro e w6 ⟨v1, rfl, hown, hb6⟩
      obtain ⟨xa1, xc1, rfl⟩ := ownsRow_slice hown
      have HCAP := Lib.hid (ownsRow_caps hown)
      have HT6 := Lib.hid (HT5.out.later (B := wc.heap.size) hb6 (by have := block_lt HT5.out.h2; omega))
      have HN6 := Lib.hid (box_past HN.out hb6)
      have HOWN := Lib.hid hown
      have HB6 := Lib.hid hb6
      clear d4 hown hb6
      have e4 := (bx5 HT6.out.h0).2.2.2.2
      have h4 := (fz5 HT6.out.h0).2.2.2.2
      go_upto_region 10 with fail
      have HOWN7 := Lib.hid (ownsRow_set HOWN.out (b := w.heap.size) (by have := block_lt HT5.out.h2; omega) 4 (.slice xa1 xs.length xc1))
      have HT7 := Lib.hid (HT6.out.set4 (u := .slice xa1 xs.length xc1))
      have HN7 : Hid ((w6.setCell ⟨w.heap.size, 4, none⟩ (.slice xa1 xs.length xc1)).heap[N]? = some (.cells #[.int .i64 k4, .int .i64 n4, .string s4, .slice na4 ns4.length nc4, .slice xa4 xs4.length xc4] 25 (0, 0))) := Lib.hid ((Below.heap_setCell _ _ _ _ (by have := HNGE.out; simp; omega)).trans HN6.out)
      have HK7 : Hid (∀ a : Addr, a.block ≠ w.heap.size → a.block < wc.heap.size → (w6.setCell ⟨w.heap.size, 4, none⟩ (.slice xa1 xs.length xc1)).cell? a = wc.cell? a) := Lib.hid (fun a h1 h2 => by
        rw [World.cell?_setCell_far _ _ _ _ (by simp; omega)]
        exact HB6.out.cell h2)
      have HB7 : Hid (Below w.heap.size w (w6.setCell ⟨w.heap.size, 4, none⟩ (.slice xa1 xs.length xc1))) := Lib.hid ((HB5.out.trans (HB6.out.mono HB5.out.size)).setCell (p := ⟨w.heap.size, 4, none⟩) (Nat.le_refl _) _)
      have HS7 : Hid (wc.heap.size ≤ (w6.setCell ⟨w.heap.size, 4, none⟩ (.slice xa1 xs.length xc1)).heap.size) := Lib.hid (by rw [set_size]; exact HB6.out.size)
      obtain ⟨gb, rfl, hgb, hrow⟩ := rowOf_owns HOWN7.out (by omega)
      have HROW := Lib.hid hrow
      have HGB := Lib.hid hgb
      clear e4 h4 HN6 HT6 HOWN HOWN7 hrow hgb HB6
      generalize w6.setCell ⟨w.heap.size, 4, none⟩ (.slice (some ⟨gb, 0, none⟩) xs.length xc1) = w7 at *
      have d4 := (bx5 HT7.out.h0).2.2.2.2
      obtain ⟨m0, m1, m2, m3, m4⟩ := bx5 HN7.out
      obtain ⟨⟨v0, q0⟩, ⟨v1, q1⟩, ⟨v2, q2⟩, ⟨v3, q3⟩, ⟨v4, q4⟩, r0, r1, r2, r3, r4⟩ := HROW.out.facts hi
      go_upto_region 11 with fail
      have hgt : w.heap.size + 3 ≤ gb := by have := block_lt HT5.out.h2; have := HGB.out; omega
      have hw8 : (((((w7.setCell ⟨gb, i * 5, none⟩ (.int .i64 k4)).setCell ⟨gb, i * 5 + 1, none⟩ (.int .i64 n4)).setCell ⟨gb, i * 5 + 2, none⟩ (.string s4)).setCell ⟨gb, i * 5 + 3, none⟩ (.slice na4 ns4.length nc4)).setCell ⟨gb, i * 5 + 4, none⟩ (.slice xa4 xs4.length xc4)) = w7.setCells gb (i * 5) (AV.mk k4 n4 s4 na4 nc4 ns4 xa4 xc4 xs4).row := rfl
      rw [hw8]
      have HROW8 := Lib.hid (HROW.out.set hi (AV.mk k4 n4 s4 na4 nc4 ns4 xa4 xc4 xs4))
      have HT8 : Hid (Three w.heap.size #[.int .i64 k, .int .i64 n, .string s, .slice na ns.length nc, .slice (some ⟨gb, 0, none⟩) xs.length xc1] #[.int .i64 k2, .int .i64 n2, .string s2, .slice na2 ns2.length nc2, .slice xa2 xs2.length xc2] #[.int .i64 0, .int .i64 0, .string ⟨#[]⟩, .slice none 0 0, .slice none 0 0] (w7.setCells gb (i * 5) (AV.mk k4 n4 s4 na4 nc4 ns4 xa4 xc4 xs4).row)) :=
        Lib.hid ⟨(blk_setCells _ (by omega) _ _ _).trans HT7.out.h0, (blk_setCells _ (by omega) _ _ _).trans HT7.out.h1, (blk_setCells _ (by omega) _ _ _).trans HT7.out.h2⟩
      have HB8 := Lib.hid (below_setCells gb (by omega) (AV.mk k4 n4 s4 na4 nc4 ns4 xa4 xc4 xs4).row (i * 5) w7 HB7.out)
      have HK8 : Hid (∀ a : Addr, a.block ≠ w.heap.size → a.block < wc.heap.size → (w7.setCells gb (i * 5) (AV.mk k4 n4 s4 na4 nc4 ns4 xa4 xc4 xs4).row).cell? a = wc.cell? a) := Lib.hid (fun a h1 h2 => by
        rw [World.cell?_setCells_out _ _ _ _ _ (fun e => by have := HGB.out; omega)]
        exact HK7.out a h1 h2)
      have HS8 : Hid (wc.heap.size ≤ (w7.setCells gb (i * 5) (AV.mk k4 n4 s4 na4 nc4 ns4 xa4 xc4 xs4).row).heap.size) := Lib.hid (by rw [size_setCells]; exact HS7.out)
      clear hw8 d4 m0 m1 m2 m3 m4 v0 q0 v1 q1 v2 q2 v3 q3 v4 q4 r0 r1 r2 r3 r4 HROW HT7 HN7 HK7 HB7 HS7
      generalize w7.setCells gb (i * 5) (AV.mk k4 n4 s4 na4 nc4 ns4 xa4 xc4 xs4).row = w8 at *
      obtain ⟨d0, d1, d2, d3, d4⟩ := bx5 HT8.out.h0
      obtain ⟨c0, c1, c2, c3, c4⟩ := bx5 HT8.out.h2
      obtain ⟨f0, f1, f2, f3, f4⟩ := fz5 HT8.out.h2
      go_wp2_with fail
      have hfin := below_five HB8.out (b := w.heap.size + 1 + 1) (by omega) (.int .i64 k) (.int .i64 n) (.string s) (.slice na ns.length nc) (.slice (some ⟨gb, 0, none⟩) xs.length xc1)
      refine bodyPost_ret (v := .tuple #[.agg #[.int .i64 k, .int .i64 n, .string s, .slice na ns.length nc, .slice (some ⟨gb, 0, none⟩) xs.length xc1], .int .i64 0]) (by simp [results, Tryd.results48, go_sem, c0, c1, c2, c3, c4]) rfl ⟨hfin, .mk k n s na nc ns (some ⟨gb, 0, none⟩) xc1 (xs.set i (.mk k4 n4 s4 na4 nc4 ns4 xa4 xc4 xs4)), by simp [AV.val, AV.row], ?_, set_eqv i HZE.out⟩
      have hS := HS0.out
      refine set_apart HIN0.out (HB0.out.trans (hfin.mono HB0.out.size)) HZA.out (fun a h1 h2 => ?_) (Nat.le_trans HS8.out (Nat.le_of_eq (by simp))) hi (by omega) (by simpa [set_size] using HROW8.out.lt) (fun j hj c v hv => ?_) HCAP.out
      · rw [World.cell?_setCell_far _ _ _ _ (by simp; omega), World.cell?_setCell_far _ _ _ _ (by simp; omega), World.cell?_setCell_far _ _ _ _ (by simp; omega), World.cell?_setCell_far _ _ _ _ (by simp; omega), World.cell?_setCell_far _ _ _ _ (by simp; omega)]
        exact HK8.out a (by omega) h2
      · rw [World.cell?_setCell_far _ _ _ _ (by simp; omega), World.cell?_setCell_far _ _ _ _ (by simp; omega), World.cell?_setCell_far _ _ _ _ (by simp; omega), World.cell?_setCell_far _ _ _ _ (by simp; omega), World.cell?_setCell_far _ _ _ _ (by simp; omega)]
        exact HROW8.out.cells j hj c v hv
end Go.Proofs.YtijibjdgnaphiaaDoor
