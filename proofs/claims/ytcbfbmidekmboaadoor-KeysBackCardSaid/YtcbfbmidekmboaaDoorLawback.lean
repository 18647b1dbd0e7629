/- KeysBack: what is written is read as it was, whatever stands behind, and takes just its bytes: the walk of the statement. -/
import Derived.Test.YtcbfbmidekmboaaDoorRdk
import Derived.Test.YtcbfbmidekmboaaDoorAwk
import Derived.Test.YtcbfbmidekmboaaDoorFewl
import Derived.Test.YtcbfbmidekmboaaDoorRsame
namespace Go.Proofs.YtcbfbmidekmboaaDoor
open Go.ChangeShapes Go.WideShapes Go.Deep Go.RowKit Go.Lib

theorem row_of_new (w : World) (cs : List Value) (t : TypeId) : (w.alloc (.cells cs.toArray t)).rangeAt w.heap.size 0 cs := fun j v hv => by
  rw [Lib.cell_of_heap (heap_alloc_new w _)]
  simpa using hv

theorem keyR_most (t : AV) : (keyR t).length ≤ 819200000000 := by
  unfold keyR
  split
  · exact key_max (by assumption)
  · simp

/-- Appending what may be nothing at all. -/
theorem wpList_more {ops : Array Oper} {rest : List Oper} {o : Oper} {a : Act} {Q : Exit → Act → World → Prop} (hgd : o.guard = none) (s x : Operand)
    (ho : o.op = .call { callee := .builtin .append, args := #[s, x], argTypes := #[28, 28] }) {B : Nat} {v : Value} {l : List UInt8} {w W : World} (h : Took B v l w W) (hB : B ≤ W.heap.size) (hs : a.eval s = v)
    (news : List UInt8) (na : Option Addr) (m c : Nat) (hx : a.eval x = .slice na m c) (hm : m = news.length) (hin : BytesIn W na news) (hl : l.length + news.length ≤ 140737488355328)
    (K : ∀ na cap W', Took B (.slice na (l ++ news).length cap) (l ++ news) w W' → wpList Tryd.prog ops Q rest (a.put o.dst (.slice na (l ++ news).length cap)) W') : wpList Tryd.prog ops Q (o :: rest) a W := by
  cases na with
  | some ad =>
    refine wpList_app hgd s x ho h hB hs news ad m c hx hm ?_ hl K
    rcases hin with h0 | ⟨b, o', e, hc⟩
    · subst h0
      intro j u hj
      simp [Lib.byteCells] at hj
    · obtain rfl := Option.some.inj e
      intro j u hj
      simp only [Lib.byteCells, List.getElem?_map, Option.map_eq_some_iff] at hj
      obtain ⟨c', hc', rfl⟩ := hj
      obtain ⟨hj, rfl⟩ := List.getElem?_eq_some_iff.1 hc'
      rw [WideShapes.add_plain]
      exact hc j hj
  | none =>
    have h0 : news = [] := by
      rcases hin with h0 | ⟨b, o', e, _⟩
      · exact h0
      · cases e
    subst h0
    have hm0 : m = 0 := hm
    subst hm0
    rw [List.append_nil] at K
    obtain ⟨na', cap', rfl⟩ := h.slice
    refine wpList_plain hgd fun _ hK => ?_
    have hr : (Builtin.append_ #[28, 28] o.type #[.slice na' l.length cap', .slice none 0 c]).run Tryd.prog W = .ok (.slice na' l.length cap') W := by
      obtain ⟨i0, hi, hz0, hz1, hz2⟩ := info_parts infoByte
      rcases id h.own.2 with ⟨hv, hn⟩ | ⟨g, cap2, cur, hv, _, _, hnc, _⟩
      · simp only [Value.slice.injEq] at hv
        obtain ⟨rfl, h0, rfl⟩ := hv
        simp [Builtin.append_, run_underlying Tryd.underlying28, sizeOf, typeInfo, hi, Builtin.lenOf, Builtin.firstCells, h0]
      · simp only [Value.slice.injEq, true_and] at hv
        obtain ⟨rfl, rfl⟩ := hv
        simp [Builtin.append_, run_underlying Tryd.underlying28, sizeOf, typeInfo, hi, Builtin.lenOf, Builtin.firstCells, hnc, storeCells]
    unfold Oper.wp execOp
    simp only [ho, resolve, invoke, builtin, Sem.run_bind, Sem.run_pure, Result.andThen_ok, List.map_toArray, List.map_cons, List.map_nil, hs, hx, hr]
    exact hK _ _ (K _ _ _ h)

set_option maxHeartbeats 4000000 in
set_option maxRecDepth 100000 in
theorem lawback_any (t : AV) (ma : Option Addr) (mc : Nat) (more : List UInt8) (w : World) (hin : t.In w) (hm : BytesIn w ma more) (hml : more.length ≤ 9223372036854775807) (hT : Tabs w) : Calls Tryd.prog 5 #[t.val, .slice ma more.length mc] w fun e w' => e = .returned (.bool true) ∧ Below w.heap.size w w' := by
  have AWAKE := Lib.hid (fun W (h : Below w.heap.size w W) => awake_any W (hT.later h))
  have KEY := Lib.hid (fun W (h : Below w.heap.size w W) => Key_any t W (hin.below h (Nat.le_refl _)) (hT.later h))
  have FORM := Lib.hid (fun W (h : Below w.heap.size w W) => Formed_any t W (hin.below h (Nat.le_refl _)) (hT.later h))
  have FEW := Lib.hid (fun W x c (h : Below w.heap.size w W) (hr : W.rangeAt x 0 t.row) => fewL_any (some ⟨x, 0, none⟩) c [t] W (.inr ⟨x, 0, rfl, fun i hi => by
    rcases i with _ | i
    · exact ⟨by simpa using hr, hin.below h (Nat.le_refl _)⟩
    · simp at hi⟩) (by simp))
  have SAME := Lib.hid (fun W (u : AV) (h : Below w.heap.size w W) (hu : u.In W) (he : AV.eqv t u = true) => by
    have h1 := rsame_any t u W (hin.below h (Nat.le_refl _)) hu
    rw [he] at h1
    exact h1)
  have READ := Lib.hid (fun W (nb : Option Addr) (cb : Nat) (h : Below w.heap.size w W) (hf : AV.formedJ t 6 = true) (hlen : (AV.key t ++ more).length ≤ 9223372036854775807) (hby : BytesIn W nb (AV.key t ++ more)) => Read_any W nb cb (AV.key t ++ more) more t rfl hby hlen hf ⟨w, hin⟩ (hT.later h))
  have HM := Lib.hid (fun W (h : Below w.heap.size w W) => hm.below h)
  have hmax := keyR_most t
  have hk1 := AV.key_length t
  unfold KeyGave keyR keyE at KEY
  unfold keyR at hmax
  obtain ⟨F, hF⟩ : ∃ F, fewL 0 [t] = F := ⟨_, rfl⟩
  obtain ⟨FT, hFT⟩ : ∃ F, AV.formedJ t 6 = F := ⟨_, rfl⟩
  obtain ⟨R, hR⟩ : ∃ R, AV.key t = R := ⟨_, rfl⟩
  unfold ReadGave at READ
  simp only [hF] at FEW
  simp only [hFT, hR] at KEY FORM READ hmax
  rw [hR] at hk1
  have HK1 := Lib.hid hk1
  have HMAX := Lib.hid hmax
  clear hF hFT hR hin hT hm hk1 hmax
  have HML := Lib.hid hml
  clear hml
  obtain ⟨k, n, s, na, nc, ns, xa, xc, xs⟩ := t
  simp only [AV.val, AV.row] at KEY FORM FEW SAME READ ⊢
  have hb0 : Below w.heap.size w (w.alloc (.cells #[.int .i64 k, .int .i64 n, .string s, .slice na ns.length nc, .slice xa xs.length xc] 25)) := (Below.refl _ _).alloc (Nat.le_refl _) _
  have hbx : (w.alloc (.cells #[.int .i64 k, .int .i64 n, .string s, .slice na ns.length nc, .slice xa xs.length xc] 25)).heap[w.heap.size]? = some (.cells #[.int .i64 k, .int .i64 n, .string s, .slice na ns.length nc, .slice xa xs.length xc] 25 (0, 0)) := heap_alloc_new w _
  have HBX := Lib.hid hbx
  clear hbx
  go_enter Tryd.func5, Tryd.ntmps5
  go_wp2_with fail
  generalize w.alloc (.cells #[.int .i64 k, .int .i64 n, .string s, .slice na ns.length nc, .slice xa xs.length xc] 25) = W0 at *
  refine (AWAKE.out _ hb0).mono ?_
  rintro e w1 ⟨rfl, hq1⟩
  have hb1 := hb0.trans (hq1.mono hb0.size)
  have x1 := box_later HBX.out hq1
  obtain ⟨a0, a1, a2, a3, a4⟩ := box_cells x1
  have X1 := Lib.hid x1
  clear x1 HBX
  go_wp2_with fail
  have hba : Below w1.heap.size w1 (w1.alloc (.cells #[.int .i64 k, .int .i64 n, .string s, .slice na ns.length nc, .slice xa xs.length xc] 25)) := (Below.refl _ _).alloc (Nat.le_refl _) _
  have hb2 := hb1.trans (hba.mono hb1.size)
  have X2 := Lib.hid (box_later X1.out hba)
  refine (FEW.out _ w1.heap.size 1 hb2 (row_of_new w1 [.int .i64 k, .int .i64 n, .string s, .slice na ns.length nc, .slice xa xs.length xc] 25)).mono ?_
  rintro e w2 ⟨rfl, hq2⟩
  have hb3 := hb2.trans (hq2.mono hb2.size)
  have X3 := Lib.hid (box_later X2.out hq2)
  clear a0 a1 a2 a3 a4 X1 X2 hba hb2 hq2
  cases F
  · go_wp2_with fail
    refine (AWAKE.out _ hb3).mono ?_
    rintro e w3 ⟨rfl, hq3⟩
    go_wp2_with fail
    go_ret
    exact ⟨rfl, hb3.trans (hq3.mono hb3.size)⟩
  by_cases h1000 : more.length ≤ 1000
  rotate_left
  · have g1 : 1000 < (more.length : Int) := by omega
    go_wp2_with fail
    refine (AWAKE.out _ hb3).mono ?_
    rintro e w3 ⟨rfl, hq3⟩
    go_wp2_with fail
    go_ret
    exact ⟨rfl, hb3.trans (hq3.mono hb3.size)⟩
  have g1 : ¬ 1000 < (more.length : Int) := by omega
  have H1000 := Lib.hid h1000
  clear h1000
  obtain ⟨a0, a1, a2, a3, a4⟩ := box_cells X3.out
  cases FT
  · simp only [Bool.false_eq_true, if_false] at KEY
    go_wp2_with fail
    refine (KEY.out _ hb3).mono ?_
    rintro e w4 ⟨va, vc, rfl, hin4, hq4⟩
    have hb4 := hb3.trans (hq4.mono hb3.size)
    have X4 := Lib.hid (box_later X3.out hq4)
    clear a0 a1 a2 a3 a4 hin4 hq4
    obtain ⟨a0, a1, a2, a3, a4⟩ := box_cells X4.out
    go_wp2_with fail
    refine (FORM.out _ hb4).mono ?_
    rintro e w5 ⟨rfl, hq5⟩
    go_wp2_with fail
    go_ret
    exact ⟨rfl, hb4.trans (hq5.mono hb4.size)⟩
  simp only [if_true] at KEY HMAX
  go_wp2_with fail
  refine (KEY.out _ hb3).mono ?_
  rintro e w4 ⟨va, vc, rfl, hin4, hq4⟩
  have hb4 := hb3.trans (hq4.mono hb3.size)
  have X4 := Lib.hid (box_later X3.out hq4)
  have HI4 := Lib.hid hin4
  have hB4 : w.heap.size ≤ w4.heap.size := hb4.size
  clear a0 a1 a2 a3 a4 hin4 hq4
  go_wp2_with (at_builtin; refine wpList_more rfl _ _ rfl (Took.nil w4.heap.size w4) (Nat.le_refl _) rfl R va R.length vc rfl rfl HI4.out (by have := HMAX.out; simp; omega) ?_)
  intro vb vd w5 hT5
  have HT5 := Lib.hid hT5
  have X5 := Lib.hid (hT5.box X4.out (by intro c fz h; cases h))
  have hB5 := hT5.size (Nat.le_refl _)
  have HM5 := Lib.hid (HM.out w5 (hb4.trans (hT5.below.mono hB4)))
  clear hT5
  go_wp2_with (at_builtin; refine wpList_more rfl _ _ rfl (Took.refl HT5.out.own) hB5 rfl more ma more.length mc rfl rfl HM5.out (by have := HMAX.out; have := H1000.out; omega) ?_)
  intro vf vg w6 hT6
  have hb6 : Below w.heap.size w w6 := (hb4.trans (HT5.out.below.mono hB4)).trans (hT6.below.mono hB4)
  have X6 := Lib.hid (hT6.box X5.out (by intro c fz h; cases h))
  have hown6 := hT6.own
  rw [← List.length_append] at hown6
  have HI6 := Lib.hid (BytesIn.of hown6)
  have hln : (R ++ more).length ≤ 9223372036854775807 := by have := HMAX.out; have := H1000.out; rw [List.length_append]; omega
  have READ6 := Lib.hid (READ.out w6 vf vg hb6 trivial hln HI6.out)
  simp only [List.length_append] at READ6
  have hB6 := hb6.size
  clear hT6 hown6 hln HT5 X5 HM5 READ
  go_wp2_with fail
  refine (READ6.out).mono ?_
  rintro e w7 ⟨u, rfl, hu, hui, hq7⟩
  have hb7 := hb6.trans (hq7.mono hB6)
  have hb8 : ∀ o, Below w.heap.size w (w7.alloc o) := fun o => hb7.alloc hb7.size o
  have X7 := Lib.hid (box_later X6.out hq7)
  have HUI := Lib.hid (fun o => hui.below (w' := w7.alloc o) ((Below.refl _ _).alloc (Nat.le_refl _) o) (Nat.le_refl _))
  have X8 := Lib.hid (fun o => box_later X7.out (w' := w7.alloc o) ((Below.refl _ _).alloc (Nat.le_refl _) o))
  have SAME8 := Lib.hid (fun o => SAME.out (w7.alloc o) u (hb8 o) (HUI.out o) hu)
  obtain ⟨k', n', s', na', nc', ns', xa', xc', xs'⟩ := u
  obtain ⟨a0, a1, a2, a3, a4⟩ := box_cells X7.out
  have hz7 : w.heap.size < w7.heap.size := (Array.getElem?_eq_some_iff.1 X7.out).1
  clear hu hui hq7
  go_wp2_with fail
  refine (SAME8.out _).mono ?_
  rintro e w9 ⟨rfl, hq9⟩
  go_wp2_with fail
  go_ret
  exact ⟨rfl, (hb8 _).trans (hq9.mono (hb8 _).size)⟩
end Go.Proofs.YtcbfbmidekmboaaDoor
