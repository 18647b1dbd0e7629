/- Appending to a row of the call's own: which block it is in behind it; rows of values that lie in blocks of their own; no condition of ours. -/
import Derived.Test.YtcbfbmidekmboaaDoorRno
namespace Go.Proofs.YtcbfbmidekmboaaDoor
open Go.ChangeShapes Go.WideShapes Go.Deep Go.RowKit Go.Lib

/-- The block behind an append: the one that it was, or a new one. -/
def Next (w : World) (v v' : Value) : Prop := v'.ownBlock = v.ownBlock ∨ ∀ g, v'.ownBlock = some g → w.heap.size ≤ g

theorem run_append_next {P : Program} (w : World) (base : Nat) (t ty e : TypeId) (i : TypeInfo) (z : Value) (size bytes : Nat) (ht : P.underlying t = some (.slice e)) (hi : P.info? e = some i) (hz : i.zero = some z)
    (hsize : i.size = size) (hby : i.bytes = bytes) (hzs : z.cells.size = size) (hsz : 0 < size)
    (v : Value) (n : Nat) (xs : List Value) (hown : w.ownsRow base e size v n xs)
    (a : Addr) (m c : Nat) (news : List Value) (hl : news.length = m * size) (hnews : ∀ j u, news[j]? = some u → w.cell? (a.add j) = some u) (h1 : ∀ u ∈ news, u.oneCell' = true)
    (h63 : n + m ≤ maxLen) (hbytes : (n + m) * bytes ≤ 140737488355328) (hbase : base ≤ w.heap.size) :
    ∃ v' w', (Builtin.append_ #[t, t] ty #[v, .slice (some a) m c]).run P w = .ok v' w' ∧ w'.ownsRow base e size v' (n + m) (xs ++ news) ∧ w.grownBy w' v.ownBlock ∧ Next w v v' := by
  obtain ⟨v', w', hr, h2, h3, _⟩ := run_append_own (P := P) w base t ty e i z size bytes ht hi hz hsize hby hzs hsz v n xs hown a m c news hl hnews h1 h63 hbytes hbase
  refine ⟨v', w', hr, h2, h3, ?_⟩
  rcases id hown.2 with ⟨rfl, rfl⟩ | ⟨g, cap, cur, rfl, hbg, hg, hnc, hcm, hcs, htake⟩
  · have hx : xs = [] := List.eq_nil_of_length_eq_zero (by simpa using hown.1)
    subst hx
    obtain ⟨v2, w2, hr2, h4, _⟩ := run_append_own (P := P) w w.heap.size t ty e i z size bytes ht hi hz hsize hby hzs hsz _ 0 [] (World.ownsRow_nil w _ e size) a m c news hl hnews h1 h63 hbytes (Nat.le_refl _)
    rw [hr] at hr2
    injection hr2 with e1 e2
    subst e1 e2
    exact .inr fun k hk => (h4.lt k hk).1
  · subst hsize
    subst hby
    by_cases hroom : n + m ≤ cap
    · have hfit : n * i.size + news.length ≤ cur.size := by rw [hl, hcs, ← Nat.add_mul]; exact Nat.mul_le_mul_right _ hroom
      have hr2 := run_append_room (P := P) w t ty e i ht hi g n cap cur hg a m c news hl hnews h1 hroom hfit
      rw [hr] at hr2
      injection hr2 with e1 e2
      subst e1
      exact .inl rfl
    · have hr2 := run_append_grow (P := P) w t ty e i z ht hi hz ⟨g, 0, none⟩ n cap xs hown.1 (hown.cells (g := g) rfl) a m c news hl hnews (by omega) (by simp only [maxLen] at h63; omega) (growslice_fits (by omega) hbytes)
      rw [hr] at hr2
      injection hr2 with e1 e2
      subst e1
      exact .inr fun k hk => by
        simp only [Value.ownBlock, Option.some.injEq] at hk
        omega

theorem wpList_append_next {P : Program} (w : World) {ops : Array Oper} {rest : List Oper} {o : Oper} {a : Act} {Q : Exit → Act → World → Prop} (hgd : o.guard = none) (s x : Operand) (t : TypeId)
    (ho : o.op = .call { callee := .builtin .append, args := #[s, x], argTypes := #[t, t] })
    (base : Nat) (e : TypeId) (i : TypeInfo) (z : Value) (size bytes : Nat) (ht : P.underlying t = some (.slice e)) (hi : P.info? e = some i) (hz : i.zero = some z)
    (hsize : i.size = size) (hby : i.bytes = bytes) (hzs : z.cells.size = size) (hsz : 0 < size)
    (v : Value) (n : Nat) (xs : List Value) (hs : a.eval s = v) (hown : w.ownsRow base e size v n xs)
    (ad : Addr) (m c : Nat) (news : List Value) (hx : a.eval x = .slice (some ad) m c) (hl : news.length = m * size) (hnews : ∀ j u, news[j]? = some u → w.cell? (ad.add j) = some u) (h1 : ∀ u ∈ news, u.oneCell' = true)
    (h63 : n + m ≤ maxLen) (hbytes : (n + m) * bytes ≤ 140737488355328) (hbase : base ≤ w.heap.size)
    (h : ∀ v' w', w'.ownsRow base e size v' (n + m) (xs ++ news) → w.grownBy w' v.ownBlock → Next w v v' → wpList P ops Q rest (a.put o.dst v') w') : wpList P ops Q (o :: rest) a w :=
  wpList_plain hgd fun _ hK => by
    obtain ⟨v', w', hr, h2, h3, h4⟩ := run_append_next (P := P) w base t o.type e i z size bytes ht hi hz hsize hby hzs hsz v n xs hown ad m c news hl hnews h1 h63 hbytes hbase
    unfold Oper.wp execOp
    simp only [ho, resolve, invoke, builtin, Sem.run_bind, Sem.run_pure, Result.andThen_ok, List.map_toArray, List.map_cons, List.map_nil, hs, hx, hr]
    exact hK _ _ (h v' w' h2 h3 h4)

/-- The cells of values, one behind the other. -/
def rows (xs : List AV) : List Value := xs.flatMap AV.row

theorem rows_length : ∀ xs : List AV, (rows xs).length = xs.length * 5
  | [] => rfl
  | x :: xs => by
    unfold rows
    rw [List.flatMap_cons, List.length_append, AV.row_length]
    have := rows_length xs
    unfold rows at this
    rw [this]
    simp
    omega

theorem rows_at : ∀ (xs : List AV) (i j : Nat) (hi : i < xs.length), j < 5 → (rows xs)[i * 5 + j]? = xs[i].row[j]?
  | x :: xs, 0, j, _, hj => by
    unfold rows
    rw [List.flatMap_cons, List.getElem?_append_left (by rw [AV.row_length]; omega)]
    simp
  | x :: xs, i + 1, j, hi, hj => by
    have h := rows_at xs i j (by simpa using hi) hj
    unfold rows at h ⊢
    rw [List.flatMap_cons, List.getElem?_append_right (by rw [AV.row_length]; omega), AV.row_length, show (i + 1) * 5 + j - 5 = i * 5 + j by omega]
    simpa using h

/-- Not in the blocks from C to D. -/
def Free (C D : Nat) (v : Value) : Prop := ∀ g, v.ownBlock = some g → g < C ∨ D ≤ g

/-- Values read so far: a row of the call's own from block B on; each lies in blocks of its own, which neither this row nor the row u is among. -/
structure Row (B : Nat) (u : Value) (ya : Option Addr) (yc : Nat) (ys : List AV) (w : World) : Prop where
  own : w.ownsRow B 25 5 (.slice ya ys.length yc) ys.length (rows ys)
  items : ∀ y ∈ ys, ∃ C D, y.Lies C D w ∧ B ≤ C ∧ D ≤ w.heap.size ∧ Free C D (.slice ya ys.length yc) ∧ Free C D u

theorem row_step {w w' : World} {p B : Nat} {e size : Nat} {v : Value} {n : Nat} {xs : List Value} (h : w.ownsRow B e size v n xs) (hk : Kept p w w') (hp : p < B) : w'.ownsRow B e size v n xs := by
  refine ⟨h.1, ?_⟩
  rcases h.2 with hn | ⟨g, cap, cur, rfl, hb1, hgg, rest⟩
  · exact .inl hn
  · refine .inr ⟨g, cap, cur, rfl, hb1, ?_, rest⟩
    rw [hk.block g (Array.getElem?_eq_some_iff.1 hgg).1 (by omega)]
    exact hgg

theorem Row.nil (B : Nat) (u : Value) (w : World) : Row B u none 0 [] w := ⟨World.ownsRow_nil _ _ _ _, fun _ h => by cases h⟩

theorem Row.step {B p : Nat} {u : Value} {ya : Option Addr} {yc : Nat} {ys : List AV} {w w' : World} (h : Row B u ya yc ys w) (hk : Kept p w w') (hp : p < B) : Row B u ya yc ys w' := by
  refine ⟨row_step h.own hk hp, fun y hy => ?_⟩
  obtain ⟨C, D, h1, h2, h3, h4, h5⟩ := h.items y hy
  exact ⟨C, D, h1.later fun k hC hD => hk.block k (by omega) (by omega), h2, Nat.le_trans h3 hk.size, h4, h5⟩

/-- Behind an append to the other row. -/
theorem Row.other {B : Nat} {u u' : Value} {ya : Option Addr} {yc : Nat} {ys : List AV} {w w' : World} (h : Row B u ya yc ys w) (hg : w.grownBy w' u.ownBlock) (hn : Next w u u') (hap : (Value.slice ya ys.length yc).ownBlock = none ∨ (Value.slice ya ys.length yc).ownBlock ≠ u.ownBlock) : Row B u' ya yc ys w' := by
  refine ⟨h.own.kept hg hap, fun y hy => ?_⟩
  obtain ⟨C, D, h1, h2, h3, h4, h5⟩ := h.items y hy
  refine ⟨C, D, h1.later fun k hC hD => hg.block k (by omega) (fun e => by have := h5 k e.symm; omega), h2, Nat.le_trans h3 hg.size, h4, fun g e => ?_⟩
  rcases hn with hn | hn
  · exact h5 g (by rw [← hn]; exact e)
  · have := hn g e
    omega

/-- Behind an append of one value more. -/
theorem Row.more {B : Nat} {u v' : Value} {ya : Option Addr} {yc : Nat} {ys : List AV} {x : AV} {w w' : World} (h : Row B u ya yc ys w) (hown : w'.ownsRow B 25 5 v' (ys.length + 1) (rows ys ++ x.row)) (hg : w.grownBy w' (Value.slice ya ys.length yc).ownBlock) (hn : Next w (.slice ya ys.length yc) v')
    {C D : Nat} (hx : x.Lies C D w) (hC : B ≤ C) (hD : D ≤ w.heap.size) (hf : Free C D (.slice ya ys.length yc)) (hu : Free C D u) : ∃ ya' yc', v' = .slice ya' (ys ++ [x]).length yc' ∧ Row B u ya' yc' (ys ++ [x]) w' := by
  obtain ⟨ya', yc', rfl⟩ : ∃ ya' yc', v' = .slice ya' (ys.length + 1) yc' := by
    rcases hown.2 with ⟨_, h0⟩ | ⟨g, cap, cur, hv, _⟩
    · omega
    · exact ⟨_, _, hv⟩
  refine ⟨ya', yc', by simp, ?_, ?_⟩
  · have e : rows (ys ++ [x]) = rows ys ++ x.row := by unfold rows; simp
    rw [List.length_append, List.length_singleton, e]
    exact hown
  · have fr : ∀ {C D : Nat}, D ≤ w.heap.size → Free C D (.slice ya ys.length yc) → Free C D (.slice ya' (ys ++ [x]).length yc') := fun {C D} hD hf g e => by
      rw [List.length_append, List.length_singleton] at e
      rcases hn with hn | hn
      · exact hf g (by rw [← hn]; exact e)
      · have := hn g e
        omega
    have lt : ∀ {C D : Nat} {y : AV}, y.Lies C D w → D ≤ w.heap.size → Free C D (.slice ya ys.length yc) → y.Lies C D w' := fun {C D y} h1 hD hf => h1.later fun k hC hD' => hg.block k (by omega) (fun e => by have := hf k e.symm; omega)
    intro y hy
    rcases List.mem_append.1 hy with hy | hy
    · obtain ⟨C', D', h1, h2, h3, h4, h5⟩ := h.items y hy
      exact ⟨C', D', lt h1 h3 h4, h2, Nat.le_trans h3 hg.size, fr h3 h4, h5⟩
    · obtain rfl : y = x := by simpa using hy
      exact ⟨C, D, lt hx hD hf, hC, Nat.le_trans hD hg.size, fr hD hf, hu⟩

/-- What such a row is, in every world that is as this one is from block B on. -/
theorem Row.lies {B : Nat} {u : Value} {ya : Option Addr} {yc : Nat} {ys : List AV} {w : World} (h : Row B u ya yc ys w) :
    ys.length ≤ yc ∧ yc ≤ maxLen ∧ (ys = [] ∨ ∃ b o, ya = some ⟨b, o, none⟩) ∧ ∀ w' : World, (∀ k, B ≤ k → k < w.heap.size → w'.heap[k]? = w.heap[k]?) → ∀ b o, ya = some ⟨b, o, none⟩ → AV.InAll w' b o ys := by
  rcases id h.own.2 with ⟨hv, h0⟩ | ⟨g, cap, cur, hv, hb, hg, hc, hm, hcs, htake⟩
  · have hy : ys = [] := List.length_eq_zero_iff.1 h0
    subst hy
    simp only [Value.slice.injEq] at hv
    obtain ⟨rfl, _, rfl⟩ := hv
    exact ⟨Nat.le_refl _, Nat.zero_le _, .inl rfl, fun w' _ b o e => by cases e⟩
  · simp only [Value.slice.injEq, true_and] at hv
    obtain ⟨rfl, rfl⟩ := hv
    refine ⟨hc, hm, .inr ⟨g, 0, rfl⟩, fun w' hw b o e => ?_⟩
    simp only [Option.some.injEq, Addr.mk.injEq, and_true] at e
    obtain ⟨rfl, rfl⟩ := e
    have hgl := (Array.getElem?_eq_some_iff.1 hg).1
    refine AV.InAll.of fun i hi => ⟨fun j v hv => ?_, ?_⟩
    · have hj : j < 5 := by
        have := (List.getElem?_eq_some_iff.1 hv).1
        rwa [AV.row_length] at this
      have h1 := h.own.cells (g := g) rfl (i * 5 + j) v (by rw [rows_at ys i j hi hj]; exact hv)
      rw [WideShapes.add_plain] at h1
      rw [World.cell?_of_block (w := w) (hw g hb hgl)]
      simpa [Nat.add_assoc] using h1
    · obtain ⟨C, D, h1, h2, h3, _, _⟩ := h.items _ (List.getElem_mem hi)
      exact h1 w' fun k hC hD => hw k (by omega) (by omega)

theorem infoVal : (Tryd.prog.info? 25).map (fun i => (i.zero, i.size, i.bytes)) = some (some (.agg #[.int .i64 0, .int .i64 0, .string ⟨#[]⟩, .slice none 0 0, .slice none 0 0]), 5, 80) := by kernel_rfl
theorem infoStr : (Tryd.prog.info? 9).map (fun i => (i.zero, i.size, i.bytes)) = some (some (.string ⟨#[]⟩), 1, 16) := by kernel_rfl

theorem row_cells1 (x : AV) : ∀ u ∈ x.row, u.oneCell' = true := by
  obtain ⟨k, n, s, na, nc, ns, xa, xc, xs⟩ := x
  intro u hu
  simp only [AV.row, List.mem_cons, List.mem_nil_iff, or_false] at hu
  rcases hu with rfl | rfl | rfl | rfl | rfl <;> rfl

/-- One value more, written out ahead of the append. -/
theorem wpList_val {ops : Array Oper} {rest : List Oper} {o : Oper} {a : Act} {Q : Exit → Act → World → Prop} (hgd : o.guard = none) (s l : Operand)
    (ho : o.op = .call { callee := .builtin .append, args := #[s, l], argTypes := #[23, 23] }) {B : Nat} {u : Value} {ya : Option Addr} {yc : Nat} {ys : List AV} {W : World} (h : Row B u ya yc ys W) (hB : B ≤ W.heap.size) (hs : a.eval s = .slice ya ys.length yc)
    (x : AV) (cs : Array Value) (hx : a.eval l = .slice (some ⟨W.heap.size, 0, none⟩) 1 1) (hcs : cs.toList = x.row) {C D : Nat} (hl : x.Lies C D W) (hC : B ≤ C) (hD : D ≤ W.heap.size) (hf : Free C D (.slice ya ys.length yc)) (hu : Free C D u) (h24 : ys.length < 24)
    (K : ∀ ya' yc' W', Row B u ya' yc' (ys ++ [x]) W' → Below B W W' → wpList Tryd.prog ops Q rest (a.put o.dst (.slice ya' (ys ++ [x]).length yc')) W') : wpList Tryd.prog ops Q (o :: rest) a (W.alloc (.cells cs 25)) := by
  obtain ⟨i0, hi, hz0, hz1, hz2⟩ := info_parts infoVal
  have hbA : Below W.heap.size W (W.alloc (.cells cs 25)) := (Below.refl _ _).alloc (Nat.le_refl _) _
  have hown2 : (W.alloc (.cells cs 25)).ownsRow B 25 5 (.slice ya ys.length yc) ys.length (rows ys) := h.own.alloc _
  have h2 : Row B u ya yc ys (W.alloc (.cells cs 25)) := ⟨hown2, fun y hy => by
    obtain ⟨C, D, h1, h2, h3, h4, h5⟩ := h.items y hy
    exact ⟨C, D, h1.later fun k hC hD => hbA.block k (by omega), h2, Nat.le_trans h3 hbA.size, h4, h5⟩⟩
  refine wpList_append_next _ hgd s l 23 ho B 25 i0 (.agg #[.int .i64 0, .int .i64 0, .string ⟨#[]⟩, .slice none 0 0, .slice none 0 0]) 5 80 Tryd.underlying23 hi hz0 hz1 hz2 rfl (by decide) (.slice ya ys.length yc) ys.length (rows ys) hs hown2
    ⟨W.heap.size, 0, none⟩ 1 1 x.row hx (by rw [AV.row_length]) ?_ (row_cells1 x) (by unfold maxLen; omega) (by omega) (Nat.le_trans hB hbA.size) ?_
  · intro j v hj
    rw [WideShapes.add_plain, Lib.cell_of_heap (heap_alloc_new W _), ← Array.getElem?_toList, hcs]
    simpa using hj
  · intro v' W' hown hg hn
    obtain ⟨ya', yc', rfl, h3⟩ := h2.more hown hg hn (hl.later fun k hC' hD' => hbA.block k (by omega)) hC (Nat.le_trans hD hbA.size) hf hu
    refine K ya' yc' W' h3 ((hbA.mono hB).trans ((Below.refl B _).grown hg (Nat.le_trans hB hbA.size) (fun k hk => (hown2.lt k hk).1)))

theorem Row.alloc {B : Nat} {u : Value} {ya : Option Addr} {yc : Nat} {ys : List AV} {w : World} (h : Row B u ya yc ys w) (o : Obj) : Row B u ya yc ys (w.alloc o) := by
  have hb : Below w.heap.size w (w.alloc o) := (Below.refl _ _).alloc (Nat.le_refl _) _
  refine ⟨h.own.alloc _, fun y hy => ?_⟩
  obtain ⟨C, D, h1, h2, h3, h4, h5⟩ := h.items y hy
  exact ⟨C, D, h1.later fun k hC hD => hb.block k (by omega), h2, Nat.le_trans h3 hb.size, h4, h5⟩

/-- The same, behind one block more. -/
theorem wpList_val2 {ops : Array Oper} {rest : List Oper} {o : Oper} {a : Act} {Q : Exit → Act → World → Prop} (hgd : o.guard = none) (s l : Operand)
    (ho : o.op = .call { callee := .builtin .append, args := #[s, l], argTypes := #[23, 23] }) {B : Nat} {u : Value} {ya : Option Addr} {yc : Nat} {ys : List AV} {W : World} {q : Obj} (h : Row B u ya yc ys W) (hB : B ≤ W.heap.size) (hs : a.eval s = .slice ya ys.length yc)
    (x : AV) (cs : Array Value) (hx : a.eval l = .slice (some ⟨W.heap.size + 1, 0, none⟩) 1 1) (hcs : cs.toList = x.row) {C D : Nat} (hl : x.Lies C D W) (hC : B ≤ C) (hD : D ≤ W.heap.size) (hf : Free C D (.slice ya ys.length yc)) (hu : Free C D u) (h24 : ys.length < 24)
    (K : ∀ ya' yc' W', Row B u ya' yc' (ys ++ [x]) W' → Below B W W' → wpList Tryd.prog ops Q rest (a.put o.dst (.slice ya' (ys ++ [x]).length yc')) W') : wpList Tryd.prog ops Q (o :: rest) a ((W.alloc q).alloc (.cells cs 25)) := by
  have hb : Below W.heap.size W (W.alloc q) := (Below.refl _ _).alloc (Nat.le_refl _) _
  refine wpList_val hgd s l ho (h.alloc q) (Nat.le_trans hB hb.size) hs x cs (by rw [hx]; simp) hcs (hl.later fun k _ hD' => hb.block k (by omega)) hC (Nat.le_trans hD hb.size) hf hu h24 ?_
  exact fun ya' yc' W' h1 h2 => K ya' yc' W' h1 ((hb.mono hB).trans h2)

theorem five_box {w : World} {q : Nat} {a b c d e : Value} (h : w.heap[q]? = some (.cells #[a, b, c, d, e] 25 (0, 0))) (v0 v1 v2 v3 v4 : Value) :
    (((((w.setCell ⟨q, 0, none⟩ v0).setCell ⟨q, 1, none⟩ v1).setCell ⟨q, 2, none⟩ v2).setCell ⟨q, 3, none⟩ v3).setCell ⟨q, 4, none⟩ v4).heap[q]? = some (.cells #[v0, v1, v2, v3, v4] 25 (0, 0)) := by
  have h0 := heap_setCell_same w q 0 _ 25 v0 h
  have h1 := heap_setCell_same _ q 1 _ 25 v1 h0
  have h2 := heap_setCell_same _ q 2 _ 25 v2 h1
  have h3 := heap_setCell_same _ q 3 _ 25 v3 h2
  have h4 := heap_setCell_same _ q 4 _ 25 v4 h3
  rw [h4]
  rfl

theorem fz5 {w : World} {n : Nat} {cs : Array Value} (h : w.heap[n]? = some (.cells cs 25 (0, 0))) :
    w.frozen? ⟨n, 0, none⟩ = false ∧ w.frozen? ⟨n, 1, none⟩ = false ∧ w.frozen? ⟨n, 2, none⟩ = false ∧ w.frozen? ⟨n, 3, none⟩ = false ∧ w.frozen? ⟨n, 4, none⟩ = false :=
  ⟨Lib.frozen_of_heap h 0, Lib.frozen_of_heap h 1, Lib.frozen_of_heap h 2, Lib.frozen_of_heap h 3, Lib.frozen_of_heap h 4⟩

/-- What is asked of the call that reads a value, where one is. -/
def RdAt (t : AV) : Prop := ∀ (w0 w : World) (p : Nat) (nb : Option Addr) (cb : Nat) (bs r : List UInt8) (lv : Nat), Src w0 p nb bs w → At p bs (AV.key t ++ r) w → AV.formedJ t lv = true → lv ≤ 6 →
  Calls Tryd.prog 42 #[.slice nb bs.length cb, .pointer (some ⟨p, 0, none⟩), .int .i64 (lv : Int)] w fun e w' => ∃ u : AV, e = .returned (.tuple #[u.val, .bool true]) ∧ AV.eqv t u = true ∧ u.Lies w.heap.size w'.heap.size w' ∧ Stepped p bs r w w'

/-- What the call that reads a member answers. -/
def MemberGave (p : Nat) (bs r : List UInt8) (y : ByteArray) (t : AV) (w : World) : Ending → World → Prop := fun e w' => ∃ u : AV, e = .returned (.tuple #[.string y, u.val, .bool true]) ∧ AV.eqv t u = true ∧ u.Lies w.heap.size w'.heap.size w' ∧ Stepped p bs r w w'

/-- What the call that reads the members of an array answers. -/
def ItemsGave (p : Nat) (bs r : List UInt8) (xs : List AV) (w : World) : Ending → World → Prop := fun e w' => ∃ ya yc ys u, e = .returned (.tuple #[.slice ya ys.length yc, .bool true]) ∧ xs.length = ys.length ∧ AV.eqvAll xs ys = true ∧ Row w.heap.size u ya yc ys w' ∧ Stepped p bs r w w'

theorem own_lt {w : World} {B : Nat} {e size : Nat} {v : Value} {n : Nat} {xs : List Value} (h : w.ownsRow B e size v n xs) {C D : Nat} (hC : w.heap.size ≤ C) : Free C D v := fun g hg => .inl (Nat.lt_of_lt_of_le (h.lt g hg).2 hC)

theorem eqvAll_take {xs ys : List AV} {x u : AV} {j : Nat} (hj : j < xs.length) (hx : xs[j] = x) (hl : ys.length = j) (h : AV.eqvAll (xs.take j) ys = true) (hu : AV.eqv x u = true) : AV.eqvAll (xs.take (j + 1)) (ys ++ [u]) = true := by
  rw [List.take_succ_eq_append_getElem hj, hx]
  refine AV.eqvAll_append (by rw [List.length_take, hl]; omega) h ?_
  rw [AV.eqvAll, AV.eqvAll, hu]
  rfl
end Go.Proofs.YtcbfbmidekmboaaDoor
