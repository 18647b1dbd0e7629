/- The document's put: a step that leads nowhere, where nothing can be put. -/
/- What the document's put builds: a box of its own, names and items behind it in rows of their own; plain facts and laws for the walk; no condition of ours. -/
import Derived.Test.YtijibjdgnaphiaaDoorPputb
import Derived.Test.YtijibjdgnaphiaaDoorRplace
import Derived.Test.YtijibjdgnaphiaaDoorRputs
import Derived.Test.YtijibjdgnaphiaaDoorPputc
import Derived.Deep.AppendLies
import Derived.Deep.RegionLaw
import Derived.Laws.OwnMore
namespace Go.Proofs.YtijibjdgnaphiaaDoor
open Go.ChangeShapes Go.WideShapes Go.Deep Go.RowKit Go.Lib

set_option maxHeartbeats 1600000 in
set_option maxRecDepth 100000 in
theorem rput_no (t x : AV) (p : ByteArray) (r : List ByteArray) (sb so sc : Nat) (w0 w : World) (lv : Nat) (hin0 : t.In w0) (hb0 : Below w0.heap.size w0 w) (hf : AV.formedJ t lv = true) (hp : w.cell? ⟨sb, so, none⟩ = some (.string p)) (h2 : p.size ≤ 60) (hpl : t.place p = none) (hno : t.putAt (p :: r) x = none) :
    Calls Tryd.prog 49 #[t.val, .slice (some ⟨sb, so, none⟩) (r.length + 1) sc, x.val] w (PutEnd none w0.heap.size w) := by
  have hin := hin0.below hb0 (Nat.le_refl _)
  have FI := Lib.hid (fun W (h : Below w.heap.size w W) => rplace_any t p W (hin.below h (Nat.le_refl _)) (by omega) lv hf)
  rw [hpl] at FI
  simp only [numI] at FI
  have hkr : r ≠ [] ∨ (r = [] ∧ ∀ k n s na nc ns xa xc xs, t = .mk k n s na nc ns xa xc xs → k ≠ 6) := by
    by_cases hr : r = []
    · refine .inr ⟨hr, fun k n s na nc ns xa xc xs e h6 => ?_⟩
      subst e h6
      rw [AV.putAt] at hno
      simp only [hpl] at hno
      rw [if_pos ⟨trivial, hr⟩] at hno
      cases hno
    · exact .inl hr
  clear hpl hno hf hin hin0 hb0
  obtain ⟨k, n, s, na, nc, ns, xa, xc, xs⟩ := t
  obtain ⟨k2, n2, s2, na2, nc2, ns2, xa2, xc2, xs2⟩ := x
  simp only [AV.val, AV.row] at FI ⊢
  have hcase : (1 : Int) < (r.length : Int) + 1 ∨ (r = [] ∧ (k != 6) = true) := by
    rcases hkr with h | ⟨h, h'⟩
    · left
      have := List.length_pos_iff.2 h
      omega
    · right
      exact ⟨h, by simpa using h' _ _ _ _ _ _ _ _ _ rfl⟩
  have HB3 : Hid (Below w.heap.size w (((w.alloc (.cells #[.int .i64 k, .int .i64 n, .string s, .slice na ns.length nc, .slice xa xs.length xc] 25)).alloc (.cells #[.int .i64 k2, .int .i64 n2, .string s2, .slice na2 ns2.length nc2, .slice xa2 xs2.length xc2] 25)).alloc (.cells #[.int .i64 0, .int .i64 0, .string ⟨#[]⟩, .slice none 0 0, .slice none 0 0] 25))) :=
    Lib.hid ((((Below.refl _ _).alloc (Nat.le_refl _) _).alloc (by simp) _).alloc (by simp; omega) _)
  have HT := Lib.hid (three_new w #[.int .i64 k, .int .i64 n, .string s, .slice na ns.length nc, .slice xa xs.length xc] #[.int .i64 k2, .int .i64 n2, .string s2, .slice na2 ns2.length nc2, .slice xa2 xs2.length xc2] #[.int .i64 0, .int .i64 0, .string ⟨#[]⟩, .slice none 0 0, .slice none 0 0])
  have hrl2 : (0 : Int) < (r.length : Int) + 1 := by omega
  clear hkr
  go_enter Tryd.func49, Tryd.ntmps49
  go_upto_region 1 with fail
  generalize (((w.alloc (.cells #[.int .i64 k, .int .i64 n, .string s, .slice na ns.length nc, .slice xa xs.length xc] 25)).alloc (.cells #[.int .i64 k2, .int .i64 n2, .string s2, .slice na2 ns2.length nc2, .slice xa2 xs2.length xc2] 25)).alloc (.cells #[.int .i64 0, .int .i64 0, .string ⟨#[]⟩, .slice none 0 0, .slice none 0 0] 25)) = W3 at *
  have hp3 := cell_later hp HB3.out
  obtain ⟨a0, a1, a2, a3, a4⟩ := bx5 HT.out.h0
  have hq0 := fun d os => cell_regrown a0 d os
  have hq1 := fun d os => cell_regrown a1 d os
  have hq2 := fun d os => cell_regrown a2 d os
  have hq3 := fun d os => cell_regrown a3 d os
  have hq4 := fun d os => cell_regrown a4 d os
  have hq5 := fun d os => cell_regrown hp3 d os
  refine wp_region_quiet_below (by kernel_rfl) (by kernel_rfl) ?_
  repeat (go_big_quiet_step (exact Calls.regrown_of (FI.out _ (HB3.out.trans ((below_regrown _ _ _).mono HB3.out.size)))))
  refine wpQuiet_nil ?_
  intro _ hw'
  obtain ⟨⟨dq, osq⟩, hw''⟩ := hw'
  subst hw''
  have hbq := below_regrown W3 dq osq
  clear hq0 hq1 hq2 hq3 hq4 hq5
  generalize Go.Sort.grow (redrawn W3 dq) osq = w3 at *
  have HT3 := Lib.hid (HT.out.later (B := W3.heap.size) hbq (by have := block_lt HT.out.h2; omega))
  have HB4 := Lib.hid (HB3.out.trans (hbq.mono HB3.out.size))
  clear a0 a1 a2 a3 a4 hbq HB3 HT hp3
  rcases hcase with hlt | ⟨rfl, hk⟩
  · obtain ⟨c0, c1, c2, c3, c4⟩ := bx5 HT3.out.h2
    obtain ⟨f0, f1, f2, f3, f4⟩ := fz5 HT3.out.h2
    go_wp2_with fail
    have hfin := below_five HB4.out (b := w.heap.size + 1 + 1) (by omega) (.int .i64 0) (.int .i64 0) (.string ⟨#[]⟩) (.slice none 0 0) (.slice none 0 0)
    refine bodyPost_ret (v := .tuple #[.agg #[.int .i64 0, .int .i64 0, .string ⟨#[]⟩, .slice none 0 0, .slice none 0 0], .int .i64 4]) (by simp [results, Tryd.results49, go_sem, c0, c1, c2, c3, c4]) rfl ⟨hfin, rfl⟩
  · obtain ⟨a0, a1, a2, a3, a4⟩ := bx5 HT3.out.h0
    have HT5 := Lib.hid (fun (o : Obj) => three_past HT3.out HB4.out ((Below.refl w3.heap.size w3).alloc (Nat.le_refl _) o))
    have HSZ := Lib.hid (block_lt HT3.out.h2)
    have a0' := fun o => (bx5 (HT5.out o).1.h0).1
    have c0 := fun o => (bx5 (HT5.out o).1.h2).1
    have c1 := fun o => (bx5 (HT5.out o).1.h2).2.1
    have c2 := fun o => (bx5 (HT5.out o).1.h2).2.2.1
    have c3 := fun o => (bx5 (HT5.out o).1.h2).2.2.2.1
    have c4 := fun o => (bx5 (HT5.out o).1.h2).2.2.2.2
    have f0 := fun o => (fz5 (HT5.out o).1.h2).1
    have f1 := fun o => (fz5 (HT5.out o).1.h2).2.1
    have f2 := fun o => (fz5 (HT5.out o).1.h2).2.2.1
    have f3 := fun o => (fz5 (HT5.out o).1.h2).2.2.2.1
    have f4 := fun o => (fz5 (HT5.out o).1.h2).2.2.2.2
    go_wp2_with fail
    have hfin := below_five (HT5.out (.cells #[.int .i64 k, .int .i64 0, .string ⟨#[]⟩, .slice none 0 0, .slice none 0 0] 25)).2 (b := w.heap.size + 1 + 1) (by omega) (.int .i64 0) (.int .i64 0) (.string ⟨#[]⟩) (.slice none 0 0) (.slice none 0 0)
    refine bodyPost_ret (v := .tuple #[.agg #[.int .i64 0, .int .i64 0, .string ⟨#[]⟩, .slice none 0 0, .slice none 0 0], .int .i64 4]) (by simp [results, Tryd.results49, go_sem, c0, c1, c2, c3, c4]) rfl ⟨hfin, rfl⟩
end Go.Proofs.YtijibjdgnaphiaaDoor

namespace Go.Proofs.YtijibjdgnaphiaaDoor
open Go.ChangeShapes Go.WideShapes Go.Deep Go.RowKit Go.Lib

/-- Appending to a row of the call's own, whatever the source is. -/
theorem run_append_any {P : Program} (w : World) (base : Nat) (t ty e : TypeId) (i : TypeInfo) (z : Value) (size bytes : Nat) (ht : P.underlying t = some (.slice e)) (hi : P.info? e = some i) (hz : i.zero = some z)
    (hsize : i.size = size) (hby : i.bytes = bytes) (hzs : z.cells.size = size) (hsz : 0 < size)
    (v : Value) (n : Nat) (xs : List Value) (hown : w.ownsRow base e size v n xs)
    (ao : Option Addr) (m c : Nat) (news : List Value) (hl : news.length = m * size) (hnone : ao = none → m = 0) (hnews : ∀ a, ao = some a → ∀ j u, news[j]? = some u → w.cell? (a.add j) = some u) (h1 : ∀ u ∈ news, u.oneCell' = true)
    (h63 : n + m ≤ maxLen) (hbytes : (n + m) * bytes ≤ 140737488355328) (hbase : base ≤ w.heap.size) :
    ∃ v' w', (Builtin.append_ #[t, t] ty #[v, .slice ao m c]).run P w = .ok v' w' ∧ w'.ownsRow base e size v' (n + m) (xs ++ news) ∧ w.grownBy w' v.ownBlock := by
  cases ao with
  | some a =>
    obtain ⟨v', w', h1', h2, h3, _⟩ := run_append_own (P := P) w base t ty e i z size bytes ht hi hz hsize hby hzs hsz v n xs hown a m c news hl (hnews a rfl) h1 h63 hbytes hbase
    exact ⟨v', w', h1', h2, h3⟩
  | none =>
    obtain rfl := hnone rfl
    obtain rfl : news = [] := List.eq_nil_of_length_eq_zero (by simpa using hl)
    refine ⟨v, w, ?_, by simpa using hown, ⟨rfl, rfl, rfl, Nat.le_refl _, fun _ _ _ => rfl⟩⟩
    rcases hown.2 with ⟨rfl, rfl⟩ | ⟨g, cap, cur, rfl, _, _, hnc, _⟩
    · simp [Builtin.append_, run_underlying ht, sizeOf, typeInfo, hi, Builtin.lenOf, Builtin.firstCells]
    · simp [Builtin.append_, run_underlying ht, sizeOf, typeInfo, hi, Builtin.lenOf, Builtin.firstCells, hnc, storeCells]

theorem wp_append_any {P : Program} (w : World) {o : Oper} {a : Act} {K : Act → World → Prop} {Q : Exit → Act → World → Prop} (s x : Operand) (t : TypeId)
    (ho : o.op = .call { callee := .builtin .append, args := #[s, x], argTypes := #[t, t] })
    (base : Nat) (e : TypeId) (i : TypeInfo) (z : Value) (size bytes : Nat) (ht : P.underlying t = some (.slice e)) (hi : P.info? e = some i) (hz : i.zero = some z)
    (hsize : i.size = size) (hby : i.bytes = bytes) (hzs : z.cells.size = size) (hsz : 0 < size)
    (v : Value) (n : Nat) (xs : List Value) (hs : a.eval s = v) (hown : w.ownsRow base e size v n xs)
    (ao : Option Addr) (m c : Nat) (news : List Value) (hx : a.eval x = .slice ao m c) (hl : news.length = m * size) (hnone : ao = none → m = 0) (hnews : ∀ a, ao = some a → ∀ j u, news[j]? = some u → w.cell? (a.add j) = some u) (h1 : ∀ u ∈ news, u.oneCell' = true)
    (h63 : n + m ≤ maxLen) (hbytes : (n + m) * bytes ≤ 140737488355328) (hbase : base ≤ w.heap.size)
    (h : ∀ v' w', w'.ownsRow base e size v' (n + m) (xs ++ news) → w.grownBy w' v.ownBlock → K (a.put o.dst v') w') : o.wp P a w K Q := by
  obtain ⟨v', w', hr, h2, h3⟩ := run_append_any (P := P) w base t o.type e i z size bytes ht hi hz hsize hby hzs hsz v n xs hown ao m c news hl hnone hnews h1 h63 hbytes hbase
  unfold Oper.wp execOp
  simp only [ho, resolve, invoke, builtin, Sem.run_bind, Sem.run_pure, Result.andThen_ok, List.map_toArray, List.map_cons, List.map_nil, hs, hx, hr]
  exact h v' w' h2 h3

theorem wpList_append_any {P : Program} (w : World) {ops : Array Oper} {rest : List Oper} {o : Oper} {a : Act} {Q : Exit → Act → World → Prop} (hgd : o.guard = none) (s x : Operand) (t : TypeId)
    (ho : o.op = .call { callee := .builtin .append, args := #[s, x], argTypes := #[t, t] })
    (base : Nat) (e : TypeId) (i : TypeInfo) (z : Value) (size bytes : Nat) (ht : P.underlying t = some (.slice e)) (hi : P.info? e = some i) (hz : i.zero = some z)
    (hsize : i.size = size) (hby : i.bytes = bytes) (hzs : z.cells.size = size) (hsz : 0 < size)
    (v : Value) (n : Nat) (xs : List Value) (hs : a.eval s = v) (hown : w.ownsRow base e size v n xs)
    (ao : Option Addr) (m c : Nat) (news : List Value) (hx : a.eval x = .slice ao m c) (hl : news.length = m * size) (hnone : ao = none → m = 0) (hnews : ∀ a, ao = some a → ∀ j u, news[j]? = some u → w.cell? (a.add j) = some u) (h1 : ∀ u ∈ news, u.oneCell' = true)
    (h63 : n + m ≤ maxLen) (hbytes : (n + m) * bytes ≤ 140737488355328) (hbase : base ≤ w.heap.size)
    (h : ∀ v' w', w'.ownsRow base e size v' (n + m) (xs ++ news) → w.grownBy w' v.ownBlock → wpList P ops Q rest (a.put o.dst v') w') : wpList P ops Q (o :: rest) a w :=
  wpList_plain hgd fun _ hK => wp_append_any w s x t ho base e i z size bytes ht hi hz hsize hby hzs hsz v n xs hs hown ao m c news hx hl hnone hnews h1 h63 hbytes hbase fun v' w' h2 h3 => hK _ _ (h v' w' h2 h3)

theorem step_append_any {P : Program} (w : World) {ops : Array Oper} {o : Oper} {a : Act} {K : Act → World → Prop} {Q : Exit → Act → World → Prop} {E : Prop} (hgd : o.guard = none) (s x : Operand) (t : TypeId)
    (ho : o.op = .call { callee := .builtin .append, args := #[s, x], argTypes := #[t, t] })
    (base : Nat) (e : TypeId) (i : TypeInfo) (z : Value) (size bytes : Nat) (ht : P.underlying t = some (.slice e)) (hi : P.info? e = some i) (hz : i.zero = some z)
    (hsize : i.size = size) (hby : i.bytes = bytes) (hzs : z.cells.size = size) (hsz : 0 < size)
    (v : Value) (n : Nat) (xs : List Value) (hs : a.eval s = v) (hown : w.ownsRow base e size v n xs)
    (ao : Option Addr) (m c : Nat) (news : List Value) (hx : a.eval x = .slice ao m c) (hl : news.length = m * size) (hnone : ao = none → m = 0) (hnews : ∀ a, ao = some a → ∀ j u, news[j]? = some u → w.cell? (a.add j) = some u) (h1 : ∀ u ∈ news, u.oneCell' = true)
    (h63 : n + m ≤ maxLen) (hbytes : (n + m) * bytes ≤ 140737488355328) (hbase : base ≤ w.heap.size)
    (h : ∀ v' w', w'.ownsRow base e size v' (n + m) (xs ++ news) → w.grownBy w' v.ownBlock → K (a.put o.dst v') w') :
    if Region.wanted o (yielded ops a.tmps) = true then Oper.wp P o a w K Q else E := by
  have hw : Region.wanted o (yielded ops a.tmps) = true := by simp [Region.wanted, hgd]
  rw [if_pos hw]
  exact wp_append_any w s x t ho base e i z size bytes ht hi hz hsize hby hzs hsz v n xs hs hown ao m c news hx hl hnone hnews h1 h63 hbytes hbase h

/-- The box that is being filled: names so far, items so far; what is older is as it was in W0. -/
structure Out (Q : Nat) (k : Int) (W0 : World) (na : Option Addr) (nc : Nat) (ns : List ByteArray) (xa : Option Addr) (xc : Nat) (xs : List AV) (W : World) : Prop where
  box : W.heap[Q]? = some (.cells #[.int .i64 k, .int .i64 0, .string ⟨#[]⟩, .slice na ns.length nc, .slice xa xs.length xc] 25 (0, 0))
  nown : W.ownsRow (Q + 1) 9 1 (.slice na ns.length nc) ns.length (ns.map Value.string)
  iown : W.ownsRow (Q + 1) 25 5 (.slice xa xs.length xc) xs.length (rows xs)
  past : Below Q W0 W

theorem Out.lt {Q : Nat} {k : Int} {W0 W : World} {na : Option Addr} {nc : Nat} {ns : List ByteArray} {xa : Option Addr} {xc : Nat} {xs : List AV} (h : Out Q k W0 na nc ns xa xc xs W) : Q < W.heap.size := block_lt h.box

theorem Out.new {k : Int} (W0 : World) : Out W0.heap.size k W0 none 0 [] none 0 [] (W0.alloc (.cells #[.int .i64 k, .int .i64 0, .string ⟨#[]⟩, .slice none 0 0, .slice none 0 0] 25)) where
  box := heap_alloc_new W0 _
  nown := World.ownsRow_nil _ _ _ _
  iown := World.ownsRow_nil _ _ _ _
  past := (Below.refl _ _).alloc (Nat.le_refl _) _

/-- Rows of two kinds are apart. -/
theorem apart_rows {W : World} {b b' : Nat} {v v' : Value} {n n' : Nat} {xs ys : List Value} (h : W.ownsRow b 9 1 v n xs) (h' : W.ownsRow b' 25 5 v' n' ys) : v.ownBlock = none ∨ v.ownBlock ≠ v'.ownBlock := by
  rcases h.2 with ⟨rfl, _⟩ | ⟨g, cap, cur, rfl, _, hg, _⟩
  · exact .inl rfl
  · refine .inr fun e => ?_
    rcases h'.2 with ⟨rfl, _⟩ | ⟨g', cap', cur', rfl, _, hg', _⟩
    · cases e
    · simp only [Value.ownBlock, Option.some.injEq] at e
      subst e
      rw [hg] at hg'
      simp at hg'

theorem grown_below {Q : Nat} {Wa w' : World} {u : Option Nat} (hg : Wa.grownBy w' u) (hQ : Q ≤ Wa.heap.size) (hu : ∀ k, u = some k → Q ≤ k) : Below Q Wa w' := (Below.refl Q Wa).grown hg hQ hu

/-- Behind an append to the items, and its store. -/
theorem Out.items {Q : Nat} {k : Int} {W0 W Wa w' : World} {na : Option Addr} {nc : Nat} {ns : List ByteArray} {xa : Option Addr} {xc : Nat} {xs : List AV} (h : Out Q k W0 na nc ns xa xc xs W) (hWa : Below W.heap.size W Wa)
    {v' : Value} {n' : Nat} {ys : List AV} (hn' : n' = ys.length) (ho : w'.ownsRow (Q + 1) 25 5 v' n' (rows ys)) (hg : Wa.grownBy w' (Value.slice xa xs.length xc).ownBlock) :
    ∃ xa' xc', v' = .slice xa' ys.length xc' ∧ w'.cell? ⟨Q, 4, none⟩ = some (.slice xa xs.length xc) ∧ w'.frozen? ⟨Q, 4, none⟩ = false ∧ Out Q k W0 na nc ns xa' xc' ys (w'.setCell ⟨Q, 4, none⟩ (.slice xa' ys.length xc')) := by
  subst hn'
  obtain ⟨xa', xc', rfl⟩ := ownsRow_slice ho
  have hlt := h.lt
  have hu : ∀ j, (Value.slice xa xs.length xc).ownBlock = some j → Q + 1 ≤ j := fun j e => (h.iown.lt j e).1
  have hsz : W.heap.size ≤ Wa.heap.size := hWa.size
  have hbox : w'.heap[Q]? = some (.cells #[.int .i64 k, .int .i64 0, .string ⟨#[]⟩, .slice na ns.length nc, .slice xa xs.length xc] 25 (0, 0)) := by
    rw [hg.block Q (by omega) (fun e => by have := hu Q e.symm; omega)]
    exact (hWa.block Q hlt).trans h.box
  refine ⟨xa', xc', rfl, (bx5 hbox).2.2.2.2, (fz5 hbox).2.2.2.2, ?_, ?_, ?_, ?_⟩
  · have := heap_setCell_same w' Q 4 _ 25 (.slice xa' ys.length xc') hbox
    rw [this]; rfl
  · exact ownsRow_set ((ownsRow_later h.nown hWa).kept hg (apart_rows (ownsRow_later h.nown hWa) (ownsRow_later h.iown hWa))) (by omega) _ _
  · exact ownsRow_set ho (by omega) _ _
  · exact ((h.past.trans (hWa.mono (by omega))).trans (grown_below hg (by omega) (fun j e => by have := hu j e; omega))).setCell (p := ⟨Q, 4, none⟩) (Nat.le_refl _) _

/-- Behind an append to the names, and its store. -/
theorem Out.names {Q : Nat} {k : Int} {W0 W Wa w' : World} {na : Option Addr} {nc : Nat} {ns : List ByteArray} {xa : Option Addr} {xc : Nat} {xs : List AV} (h : Out Q k W0 na nc ns xa xc xs W) (hWa : Below W.heap.size W Wa)
    {v' : Value} {n' : Nat} {ms : List ByteArray} (hn' : n' = ms.length) (ho : w'.ownsRow (Q + 1) 9 1 v' n' (ms.map Value.string)) (hg : Wa.grownBy w' (Value.slice na ns.length nc).ownBlock) :
    ∃ na' nc', v' = .slice na' ms.length nc' ∧ w'.cell? ⟨Q, 3, none⟩ = some (.slice na ns.length nc) ∧ w'.frozen? ⟨Q, 3, none⟩ = false ∧ Out Q k W0 na' nc' ms xa xc xs (w'.setCell ⟨Q, 3, none⟩ (.slice na' ms.length nc')) := by
  subst hn'
  obtain ⟨na', nc', rfl⟩ := ownsRow_slice ho
  have hlt := h.lt
  have hu : ∀ j, (Value.slice na ns.length nc).ownBlock = some j → Q + 1 ≤ j := fun j e => (h.nown.lt j e).1
  have hsz : W.heap.size ≤ Wa.heap.size := hWa.size
  have hbox : w'.heap[Q]? = some (.cells #[.int .i64 k, .int .i64 0, .string ⟨#[]⟩, .slice na ns.length nc, .slice xa xs.length xc] 25 (0, 0)) := by
    rw [hg.block Q (by omega) (fun e => by have := hu Q e.symm; omega)]
    exact (hWa.block Q hlt).trans h.box
  have hap : (Value.slice xa xs.length xc).ownBlock = none ∨ (Value.slice xa xs.length xc).ownBlock ≠ (Value.slice na ns.length nc).ownBlock := by
    rcases apart_rows h.nown h.iown with e | e
    · rcases hx : (Value.slice xa xs.length xc).ownBlock with _ | j
      · exact .inl rfl
      · exact .inr (by rw [e]; exact fun h => by cases h)
    · exact .inr fun h => e h.symm
  refine ⟨na', nc', rfl, (bx5 hbox).2.2.2.1, (fz5 hbox).2.2.2.1, ?_, ?_, ?_, ?_⟩
  · have := heap_setCell_same w' Q 3 _ 25 (.slice na' ms.length nc') hbox
    rw [this]; rfl
  · exact ownsRow_set ho (by omega) _ _
  · exact ownsRow_set ((ownsRow_later h.iown hWa).kept hg hap) (by omega) _ _
  · exact ((h.past.trans (hWa.mono (by omega))).trans (grown_below hg (by omega) (fun j e => by have := hu j e; omega))).setCell (p := ⟨Q, 3, none⟩) (Nat.le_refl _) _
end Go.Proofs.YtijibjdgnaphiaaDoor
