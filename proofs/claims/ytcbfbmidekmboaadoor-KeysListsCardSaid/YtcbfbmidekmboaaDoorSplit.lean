/- A compound key split: what the program's call answers where there is one; no condition of ours. -/
import Derived.Test.YtcbfbmidekmboaaDoorTurn
import Derived.Test.YtcbfbmidekmboaaDoorRdf
namespace Go.Proofs.YtcbfbmidekmboaaDoor
open Go.ChangeShapes Go.WideShapes Go.Deep Go.RowKit Go.Lib

/-- One value more, written out ahead of the append. -/
theorem wpList_valm {ops : Array Oper} {rest : List Oper} {o : Oper} {a : Act} {Q : Exit → Act → World → Prop} (hgd : o.guard = none) (s l : Operand)
    (ho : o.op = .call { callee := .builtin .append, args := #[s, l], argTypes := #[23, 23] }) {B : Nat} {u : Value} {ya : Option Addr} {yc : Nat} {ys : List AV} {W : World} (h : Row B u ya yc ys W) (hB : B ≤ W.heap.size) (hs : a.eval s = .slice ya ys.length yc)
    (x : AV) (cs : Array Value) (hx : a.eval l = .slice (some ⟨W.heap.size, 0, none⟩) 1 1) (hcs : cs.toList = x.row) {C D : Nat} (hl : x.Lies C D W) (hC : B ≤ C) (hD : D ≤ W.heap.size) (hf : Free C D (.slice ya ys.length yc)) (hu : Free C D u) (h24 : ys.length < 1000)
    (K : ∀ ya' yc' W', Row B u ya' yc' (ys ++ [x]) W' → Below B W W' → wpList Tryd.prog ops Q rest (a.put o.dst (.slice ya' (ys ++ [x]).length yc')) W') : wpList Tryd.prog ops Q (o :: rest) a (W.alloc (.cells cs 25)) := by
  obtain ⟨i0, hi, hz0, hz1, hz2⟩ := info_parts infoVal
  have hbA : Below W.heap.size W (W.alloc (.cells cs 25)) := (Below.refl _ _).alloc (Nat.le_refl _) _
  have hown2 : (W.alloc (.cells cs 25)).ownsRow B 25 5 (.slice ya ys.length yc) ys.length (rows ys) := h.own.alloc _
  have h2 : Row B u ya yc ys (W.alloc (.cells cs 25)) := ⟨hown2, fun y hy => by
    obtain ⟨C, D, h1, h2, h3, h4, h5⟩ := h.items y hy
    exact ⟨C, D, h1.later fun k hC hD => hbA.block k (by omega), h2, Nat.le_trans h3 hbA.size, h4, h5⟩⟩
  refine wpList_append_next _ hgd s l 23 ho B 25 i0 (.agg #[.int .i64 0, .int .i64 0, .string ⟨#[]⟩, .slice none 0 0, .slice none 0 0]) 5 80 Tryd.underlying23 hi hz0 hz1 hz2 rfl (by decide) (.slice ya ys.length yc) ys.length (rows ys) hs hown2
    ⟨W.heap.size, 0, none⟩ 1 1 x.row hx (by rw [AV.row_length]) ?_ (row_cells1 x) (by unfold maxLen; omega) (by omega) (Nat.le_trans hB hbA.size) ?_
  · intro j v hj
    rw [WideShapes.add_plain, Lib.cell_of_heap (heap_alloc_new W _), ← Array.getElem?_toList, hcs]
    simpa using hj
  · intro v' W' hown hg hn
    obtain ⟨ya', yc', rfl, h3⟩ := h2.more hown hg hn (hl.later fun k hC' hD' => hbA.block k (by omega)) hC (Nat.le_trans hD hbA.size) hf hu
    refine K ya' yc' W' h3 ((hbA.mono hB).trans ((Below.refl B _).grown hg (Nat.le_trans hB hbA.size) (fun k hk => (hown2.lt k hk).1)))

/-- The same, behind one block more. -/
theorem wpList_valm2 {ops : Array Oper} {rest : List Oper} {o : Oper} {a : Act} {Q : Exit → Act → World → Prop} (hgd : o.guard = none) (s l : Operand)
    (ho : o.op = .call { callee := .builtin .append, args := #[s, l], argTypes := #[23, 23] }) {B : Nat} {u : Value} {ya : Option Addr} {yc : Nat} {ys : List AV} {W : World} {q : Obj} (h : Row B u ya yc ys W) (hB : B ≤ W.heap.size) (hs : a.eval s = .slice ya ys.length yc)
    (x : AV) (cs : Array Value) (hx : a.eval l = .slice (some ⟨W.heap.size + 1, 0, none⟩) 1 1) (hcs : cs.toList = x.row) {C D : Nat} (hl : x.Lies C D W) (hC : B ≤ C) (hD : D ≤ W.heap.size) (hf : Free C D (.slice ya ys.length yc)) (hu : Free C D u) (h24 : ys.length < 1000)
    (K : ∀ ya' yc' W', Row B u ya' yc' (ys ++ [x]) W' → Below B W W' → wpList Tryd.prog ops Q rest (a.put o.dst (.slice ya' (ys ++ [x]).length yc')) W') : wpList Tryd.prog ops Q (o :: rest) a ((W.alloc q).alloc (.cells cs 25)) := by
  have hb : Below W.heap.size W (W.alloc q) := (Below.refl _ _).alloc (Nat.le_refl _) _
  refine wpList_valm hgd s l ho (h.alloc q) (Nat.le_trans hB hb.size) hs x cs (by rw [hx]; simp) hcs (hl.later fun k _ hD' => hb.block k (by omega)) hC (Nat.le_trans hD hb.size) hf hu h24 ?_
  exact fun ya' yc' W' h1 h2 => K ya' yc' W' h1 ((hb.mono hB).trans h2)


/-- Appending what may be nothing at all. -/
theorem wpList_mores {ops : Array Oper} {rest : List Oper} {o : Oper} {a : Act} {Q : Exit → Act → World → Prop} (hgd : o.guard = none) (s x : Operand)
    (ho : o.op = .call { callee := .builtin .append, args := #[s, x], argTypes := #[28, 28] }) {B : Nat} {v : Value} {l : List UInt8} {w W : World} (h : Took B v l w W) (hB : B ≤ W.heap.size) (hs : a.eval s = v)
    (news : List UInt8) (na : Option Addr) (m c : Nat) (hx : a.eval x = .slice na m c) (hm : m = news.length) (hin : BytesIn W na news) (hl : l.length + news.length ≤ 140737488355328)
    (K : ∀ na cap W', Took B (.slice na (l ++ news).length cap) (l ++ news) w W' → wpList Tryd.prog ops Q rest (a.put o.dst (.slice na (l ++ news).length cap)) W') : wpList Tryd.prog ops Q (o :: rest) a W := by
  cases na with
  | some ad =>
    refine wpList_app hgd s x ho h hB hs news ad m c hx hm ?_ hl K
    rcases hin with h0 | ⟨b, o', e, hc⟩
    · subst h0
      intro j u hj
      simp [Lib.byteCells] at hj
    · obtain rfl := Option.some.inj e
      intro j u hj
      simp only [Lib.byteCells, List.getElem?_map, Option.map_eq_some_iff] at hj
      obtain ⟨c', hc', rfl⟩ := hj
      obtain ⟨hj, rfl⟩ := List.getElem?_eq_some_iff.1 hc'
      rw [WideShapes.add_plain]
      exact hc j hj
  | none =>
    have h0 : news = [] := by
      rcases hin with h0 | ⟨b, o', e, _⟩
      · exact h0
      · cases e
    subst h0
    have hm0 : m = 0 := hm
    subst hm0
    rw [List.append_nil] at K
    obtain ⟨na', cap', rfl⟩ := h.slice
    refine wpList_plain hgd fun _ hK => ?_
    have hr : (Builtin.append_ #[28, 28] o.type #[.slice na' l.length cap', .slice none 0 c]).run Tryd.prog W = .ok (.slice na' l.length cap') W := by
      obtain ⟨i0, hi, hz0, hz1, hz2⟩ := info_parts infoByte
      rcases id h.own.2 with ⟨hv, hn⟩ | ⟨g, cap2, cur, hv, _, _, hnc, _⟩
      · simp only [Value.slice.injEq] at hv
        obtain ⟨rfl, h0, rfl⟩ := hv
        simp [Builtin.append_, run_underlying Tryd.underlying28, sizeOf, typeInfo, hi, Builtin.lenOf, Builtin.firstCells, h0]
      · simp only [Value.slice.injEq, true_and] at hv
        obtain ⟨rfl, rfl⟩ := hv
        simp [Builtin.append_, run_underlying Tryd.underlying28, sizeOf, typeInfo, hi, Builtin.lenOf, Builtin.firstCells, hnc, storeCells]
    unfold Oper.wp execOp
    simp only [ho, resolve, invoke, builtin, Sem.run_bind, Sem.run_pure, Result.andThen_ok, List.map_toArray, List.map_cons, List.map_nil, hs, hx, hr]
    exact hK _ _ (K _ _ _ h)

theorem At.turn {p : Nat} {b r : List UInt8} {w : World} (h : At p b r w) : At p (turnL b) (turnL r) w := by
  obtain ⟨a, h1, h2, h3⟩ := h
  exact ⟨a, by rw [turnL_length]; exact h1, by rw [← turnL_drop, h2], h3⟩

theorem At.unturn {p : Nat} {b r : List UInt8} {w : World} (h : At p (turnL b) (turnL r) w) : At p b r w := by
  have := h.turn
  rwa [turnL_turnL, turnL_turnL] at this

theorem Row.its {B : Nat} {u : Value} {ya : Option Addr} {yc : Nat} {ys : List AV} {w : World} (h : Row B u ya yc ys w) : AV.Its w ya ys := by
  obtain ⟨_, _, h3, h4⟩ := h.lies
  rcases h3 with h3 | ⟨b, o, e⟩
  · exact .inl h3
  · exact .inr ⟨b, o, e, fun i hi => (h4 w (fun _ _ _ => rfl) b o e).at i hi⟩

/-- What Split answers. -/
def SplitGave (xs : List AV) (w : World) : Ending → World → Prop := fun e w' => ∃ ya yc ys, e = .returned (.tuple #[.slice ya ys.length yc, .int .i64 0]) ∧ xs.length = ys.length ∧ AV.eqvAll xs ys = true ∧ AV.Its w' ya ys ∧ Below w.heap.size w w'

set_option maxHeartbeats 4000000 in
theorem turn_nil (c : Nat) (w : World) : Calls Tryd.prog 33 #[.slice none 0 c] w fun e w' => e = .returned (.tuple #[]) ∧ w' = w := by
  go_enter Tryd.func33, Tryd.ntmps33
  go_wp2_with fail
  go_loopg [5] 0 (fun k i wr => i = .int .i64 0 ∧ wr = w)
  case atStart => exact ⟨rfl, rfl⟩
  case round =>
    obtain ⟨rfl, rfl⟩ := hrel
    go_wp2_with fail
    go_end0
    exact ⟨rfl, rfl⟩

/-- A row of bytes of the call's own, turned. -/
theorem turn_own (B : Nat) (na : Option Addr) (cap : Nat) (l : List UInt8) (w : World) (hB : B ≤ w.heap.size) (h : w.ownsRow B 5 1 (.slice na l.length cap) l.length (Lib.byteCells l)) (hl : l.length ≤ 9223372036854775807) :
    Calls Tryd.prog 33 #[.slice na l.length cap] w fun e w' => e = .returned (.tuple #[]) ∧ BytesIn w' na (turnL l) ∧ Below B w w' := by
  rcases id h.2 with ⟨hv, h0⟩ | ⟨g, cap', cur, hv, hb, _⟩
  · obtain rfl : l = [] := List.length_eq_zero_iff.1 h0
    simp only [Value.slice.injEq] at hv
    obtain ⟨rfl, _, rfl⟩ := hv
    refine (turn_nil 0 w).mono ?_
    rintro e w' ⟨rfl, rfl⟩
    exact ⟨rfl, .inl rfl, Below.refl _ _⟩
  · simp only [Value.slice.injEq, true_and] at hv
    obtain ⟨rfl, rfl⟩ := hv
    refine (turn_any B g l.length cap cap [] l w (by simp) (by simpa using h) hl).mono ?_
    rintro e w' ⟨rfl, h1, h2⟩
    refine ⟨rfl, BytesIn.of (B := B) (cap := cap) (by rw [turnL_length]; simpa using h1), (Below.refl _ _).grown h2 hB (fun k hk => by cases hk; exact hb)⟩

set_option maxHeartbeats 4000000 in
set_option maxRecDepth 100000 in
theorem Split_any (w : World) (nb : Option Addr) (cb : Nat) (b : List UInt8) (da : Option Addr) (dc : Nat) (down : List Bool) (xs : List AV) (hb : b = compL down 0 xs) (hby : BytesIn w nb b) (h200 : b.length ≤ 200) (h100 : xs.length ≤ 100) (hd : BoolsIn w da down) (hf : ∀ x ∈ xs, AV.formedJ x 6 = true ∧ ∃ W, x.In W) (hT : Tabs w) :
    Calls Tryd.prog 21 #[.slice nb b.length cb, .slice da down.length dc, .int .i64 (xs.length : Int)] w (SplitGave xs w) := by
  have HB := Lib.hid hb
  have HBY := Lib.hid hby
  have H200 := Lib.hid h200
  have H100 := Lib.hid h100
  have HD := Lib.hid hd
  have HF := Lib.hid hf
  have HT := Lib.hid hT
  have g0 : ¬ (xs.length : Int) < 0 := by omega
  have g1 : ¬ (100 : Int) < (xs.length : Int) := by omega
  have g2 : ¬ (200 : Int) < (b.length : Int) := by omega
  have hT1 : Took w.heap.size (.slice (some ⟨w.heap.size, 0, none⟩) 0 0) [] w (w.alloc (.cells #[] 5)) :=
    ⟨World.ownsRow_lit (e := 5) (base := w.heap.size) (size := 1) w #[] 0 (Nat.le_refl _) (by unfold maxLen; omega) rfl, (Below.refl _ _).alloc (Nat.le_refl _) _, kept_of_below ((Below.refl _ _).alloc (Nat.le_refl _) _)⟩
  have HT1 := Lib.hid hT1
  have HBY1 := Lib.hid (hby.below (w' := w.alloc (.cells #[] 5)) ((Below.refl _ _).alloc (Nat.le_refl _) _))
  clear hb hby h200 h100 hd hf hT hT1
  go_enter Tryd.func21, Tryd.ntmps21
  go_wp2_with (at_builtin; refine wpList_mores rfl _ _ rfl HT1.out (by simp) rfl b nb b.length cb rfl rfl HBY1.out (by have := H200.out; simp; omega) ?_)
  intro nt ct w2 hT2
  have HT2 : Hid (Took w.heap.size (.slice nt b.length ct) b w w2) := Lib.hid (by simpa using hT2)
  clear hT2
  have TURN := Lib.hid (turn_own w.heap.size nt ct b w2 HT2.out.below.size HT2.out.own (by have := H200.out; omega))
  go_wp2_with fail
  refine (TURN.out).mono ?_
  rintro e w3 ⟨rfl, hbt, hb3⟩
  have hb3' : Below w.heap.size w w3 := HT2.out.below.trans hb3
  have HBT := Lib.hid hbt
  have hb4 : Below w3.heap.size w3 (w3.alloc (.cells #[.int .i64 0] 3)) := (Below.refl _ _).alloc (Nat.le_refl _) _
  have HS := Lib.hid (show Src w3 w3.heap.size nb b (w3.alloc (.cells #[.int .i64 0] 3)) from ⟨HBY.out.below hb3', hb4, Nat.le_refl _, by have := H200.out; omega⟩)
  have HSt := Lib.hid (show Src w3 w3.heap.size nt (turnL b) (w3.alloc (.cells #[.int .i64 0] 3)) from ⟨hbt, hb4, Nat.le_refl _, by rw [turnL_length]; have := H200.out; omega⟩)
  have HAT := Lib.hid (show At w3.heap.size b (compL down 0 xs) (w3.alloc (.cells #[.int .i64 0] 3)) from ⟨0, Nat.zero_le _, by rw [List.drop_zero, HB.out], heap_alloc_new w3 _⟩)
  have HZ : Hid ((w3.alloc (.cells #[.int .i64 0] 3)).heap.size = w3.heap.size + 1) := Lib.hid (by simp)
  have HB3 := Lib.hid hb3'
  have HT3 := Lib.hid (HT.out.later hb3')
  have HD3 := Lib.hid (fun W (h : Below w3.heap.size w3 W) => (HD.out.below hb3').below h)
  clear hbt hb3 hb3' hb4
  go_wp2_with fail
  go_loopg [9, 30] xs.length (fun g v i wr => ∃ (j : Nat) (ya : Option Addr) (yc : Nat) (ys : List AV), j + g = xs.length ∧ ys.length = j ∧ i = .int .i64 (j : Int) ∧ v = .slice ya ys.length yc ∧ Row (w3.heap.size + 1) (.slice none 0 0) ya yc ys wr ∧ AV.eqvAll (xs.take j) ys = true ∧ At w3.heap.size b (compL down j (xs.drop j)) wr ∧ Kept w3.heap.size (w3.alloc (.cells #[.int .i64 0] 3)) wr)
  case atStart => exact ⟨0, none, 0, [], by omega, rfl, rfl, rfl, Row.nil _ _ _, by simp [AV.eqvAll], HAT.out, Kept.refl _ _⟩
  case round =>
    obtain ⟨j, ya, yc, ys, hj, hyl, rfl, rfl, hrow, heq, hat, hk⟩ := hrel
    have HJ := Lib.hid hj
    have HYL := Lib.hid hyl
    have HROW := Lib.hid hrow
    have HEQ := Lib.hid heq
    have HK := Lib.hid hk
    have hks := hk.size
    have hz := HZ.out
    clear hj hyl hrow heq
    by_cases h1 : j < xs.length
    · rw [compL_drop h1] at hat
      have hfx := HF.out _ (List.getElem_mem h1)
      have HTK := Lib.hid (fun u (hu : AV.eqv xs[j] u = true) => eqvAll_take h1 rfl HYL.out HEQ.out hu)
      have hb5 : Below w3.heap.size w3 wr := HS.out.old.trans (hk.below (Nat.le_refl _) (by omega))
      have FALLS := Lib.hid (falls_any da dc down j wr (HD3.out wr hb5))
      obtain ⟨x, hx⟩ : ∃ x, xs[j] = x := ⟨_, rfl⟩
      rw [hx] at hat hfx
      simp only [hx] at HTK
      obtain ⟨d, hdd⟩ : ∃ d, fallsB down j = d := ⟨_, rfl⟩
      rw [hdd] at FALLS hat
      have hp : partL d x = if d then turnL (AV.key x) else AV.key x := rfl
      rw [hp] at hat
      have HY24 : Hid (ys.length < 1000) := Lib.hid (by have := H100.out; have := HYL.out; omega)
      have hz1 : w3.heap.size + 1 ≤ wr.heap.size := by omega
      obtain ⟨rest, hrest⟩ : ∃ r, compL down (j + 1) (xs.drop (j + 1)) = r := ⟨_, rfl⟩
      rw [hrest] at hat
      have HREST := Lib.hid hrest
      cases d
      · simp only [Bool.false_eq_true, if_false] at hat
        have CALL := Lib.hid (readFormed_any w3 wr w3.heap.size nb cb b _ x (HS.out.kept hk) hat hfx.1 hfx.2 HT3.out)
        clear hat hfx hx hdd hp hk hb5 hks hz hrest
        go_wp2_with fail
        refine (FALLS.out).mono ?_
        rintro e w5 ⟨rfl, rfl⟩
        go_wp2_with fail
        refine (CALL.out).mono ?_
        rintro e w6 ⟨u, rfl, hu, hlies, hat6, hk6⟩
        have HR6 := Lib.hid (HROW.out.step hk6 (Nat.lt_succ_self _))
        have HF6 := Lib.hid (own_lt (C := w5.heap.size) (D := w6.heap.size) HROW.out.own (Nat.le_refl _))
        have HTK6 := Lib.hid (HTK.out u hu)
        have HA6 := Lib.hid hat6
        have HK6 := Lib.hid (HK.out.trans hk6)
        have HZ6 := Lib.hid hk6.size
        obtain ⟨k', n', s', na', nc', ns', xa', xc', xs'⟩ := u
        have HLI := Lib.hid hlies
        clear hat6 hk6 hu hlies
        simp only [AV.val, AV.row]
        go_wp2_with (at_builtin; refine wpList_valm2 rfl _ _ rfl HR6.out (Nat.le_trans hz1 HZ6.out) rfl (AV.mk k' n' s' na' nc' ns' xa' xc' xs') _ rfl rfl HLI.out hz1 (Nat.le_refl _) HF6.out (fun g hg => by cases hg) HY24.out ?_)
        intro ya7 yc7 w7 hR7 hb7
        have HR7 : Hid (Row (w3.heap.size + 1) (.slice none 0 0) ya7 yc7 (ys ++ [AV.mk k' n' s' na' nc' ns' xa' xc' xs']) w7) := Lib.hid hR7
        have HA7 := Lib.hid (HA6.out.through hb7 (Nat.lt_succ_self _))
        have HK7 := Lib.hid (HK6.out.grow (hb7.mono (Nat.le_of_eq HZ.out)))
        clear hR7 hb7
        go_wp2_with fail
        go_roundg (gk - 1)
        case measure => have := HJ.out; omega
        case rel => exact ⟨j + 1, ya7, yc7, _, by have := HJ.out; omega, by have := HYL.out; simp; omega, by go_num, by simp, HR7.out, HTK6.out, by rw [HREST.out]; exact HA7.out, HK7.out⟩
      · simp only [if_true] at hat
        have hat2 := hat.turn
        rw [turnL_append, turnL_turnL] at hat2
        have call := readFormed_any w3 wr w3.heap.size nt ct (turnL b) _ x (HSt.out.kept hk) hat2 hfx.1 hfx.2 HT3.out
        rw [turnL_length] at call
        have CALL := Lib.hid call
        clear hat2 call hat hfx hx hdd hp hk hb5 hks hz hrest
        go_wp2_with fail
        refine (FALLS.out).mono ?_
        rintro e w5 ⟨rfl, rfl⟩
        go_wp2_with fail
        refine (CALL.out).mono ?_
        rintro e w6 ⟨u, rfl, hu, hlies, hat6, hk6⟩
        have HR6 := Lib.hid (HROW.out.step hk6 (Nat.lt_succ_self _))
        have HF6 := Lib.hid (own_lt (C := w5.heap.size) (D := w6.heap.size) HROW.out.own (Nat.le_refl _))
        have HTK6 := Lib.hid (HTK.out u hu)
        have HA6 := Lib.hid hat6
        have HK6 := Lib.hid (HK.out.trans hk6)
        have HZ6 := Lib.hid hk6.size
        obtain ⟨k', n', s', na', nc', ns', xa', xc', xs'⟩ := u
        have HLI := Lib.hid hlies
        clear hat6 hk6 hu hlies
        simp only [AV.val, AV.row]
        go_wp2_with (at_builtin; refine wpList_valm2 rfl _ _ rfl HR6.out (Nat.le_trans hz1 HZ6.out) rfl (AV.mk k' n' s' na' nc' ns' xa' xc' xs') _ rfl rfl HLI.out hz1 (Nat.le_refl _) HF6.out (fun g hg => by cases hg) HY24.out ?_)
        intro ya7 yc7 w7 hR7 hb7
        have HR7 : Hid (Row (w3.heap.size + 1) (.slice none 0 0) ya7 yc7 (ys ++ [AV.mk k' n' s' na' nc' ns' xa' xc' xs']) w7) := Lib.hid hR7
        have HA7 := Lib.hid ((HA6.out.unturn).through hb7 (Nat.lt_succ_self _))
        have HK7 := Lib.hid (HK6.out.grow (hb7.mono (Nat.le_of_eq HZ.out)))
        clear hR7 hb7
        go_wp2_with fail
        go_roundg (gk - 1)
        case measure => have := HJ.out; omega
        case rel => exact ⟨j + 1, ya7, yc7, _, by have := HJ.out; omega, by have := HYL.out; simp; omega, by go_num, by simp, HR7.out, HTK6.out, by rw [HREST.out]; exact HA7.out, HK7.out⟩
    · obtain rfl : j = xs.length := by have := HJ.out; omega
      rw [List.drop_eq_nil_of_le (Nat.le_refl _), compL] at hat
      obtain ⟨a, ha, hd, hbox⟩ := hat
      have hab : a = b.length := by
        have h := congrArg List.length hd
        rw [List.length_drop] at h
        simp at h
        omega
      subst hab
      obtain ⟨c0, -⟩ := place_cell hbox
      have heq := HEQ.out
      rw [List.take_of_length_le (Nat.le_refl _)] at heq
      have HEQ2 := Lib.hid heq
      have HBF := Lib.hid (HB3.out.trans ((HS.out.old.trans (hk.below (Nat.le_refl _) (by omega))).mono HB3.out.size))
      clear hk hd hbox heq ha hks hz
      go_wp2_with fail
      go_ret2
      exact ⟨ya, yc, ys, rfl, HYL.out.symm, HEQ2.out, HROW.out.its, HBF.out⟩
end Go.Proofs.YtcbfbmidekmboaaDoor
