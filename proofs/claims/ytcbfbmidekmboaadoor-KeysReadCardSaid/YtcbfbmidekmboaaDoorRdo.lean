/- The members of an object read: what the program's call answers where they are; no condition of ours. -/
import Derived.Test.YtcbfbmidekmboaaDoorRdm
import Derived.Test.YtcbfbmidekmboaaDoorRdi
namespace Go.Proofs.YtcbfbmidekmboaaDoor
open Go.ChangeShapes Go.WideShapes Go.Deep Go.RowKit Go.Lib

/-- What the call that reads the members of an object answers. -/
def MembersGave (p : Nat) (bs r : List UInt8) (ns : List ByteArray) (xs : List AV) (w : World) : Ending → World → Prop := fun e w' => ∃ ma mc ya yc ys, e = .returned (.tuple #[.slice ma ns.length mc, .slice ya ys.length yc, .bool true]) ∧ xs.length = ys.length ∧ AV.eqvAll xs ys = true ∧
  w'.ownsRow w.heap.size 9 1 (.slice ma ns.length mc) ns.length (ns.map Value.string) ∧ Row w.heap.size (.slice ma ns.length mc) ya yc ys w' ∧ Stepped p bs r w w'

theorem rows_apart {W : World} {b b' : Nat} {v v' : Value} {n n' : Nat} {xs ys : List Value} (h : W.ownsRow b 9 1 v n xs) (h' : W.ownsRow b' 25 5 v' n' ys) : v'.ownBlock = none ∨ v'.ownBlock ≠ v.ownBlock := by
  rcases h'.2 with ⟨rfl, _⟩ | ⟨g, cap, cur, rfl, _, hg, _⟩
  · exact .inl rfl
  · refine .inr fun e => ?_
    rcases h.2 with ⟨rfl, _⟩ | ⟨g', cap', cur', rfl, _, hg', _⟩
    · cases e
    · simp only [Value.ownBlock, Option.some.injEq] at e
      subst e
      rw [hg] at hg'
      simp at hg'

/-- One name more, written out ahead of the append, behind one block more. -/
theorem wpList_name {ops : Array Oper} {rest : List Oper} {o : Oper} {a : Act} {Q : Exit → Act → World → Prop} (hgd : o.guard = none) (s l : Operand)
    (ho : o.op = .call { callee := .builtin .append, args := #[s, l], argTypes := #[22, 22] }) {B n : Nat} {ma : Option Addr} {mc : Nat} {xs : List Value} {ya : Option Addr} {yc : Nat} {ys : List AV} {W : World} {q : Obj} (hm : W.ownsRow B 9 1 (.slice ma n mc) n xs) (h : Row B (.slice ma n mc) ya yc ys W) (hB : B ≤ W.heap.size)
    (hs : a.eval s = .slice ma n mc) (y : ByteArray) (hx : a.eval l = .slice (some ⟨W.heap.size + 1, 0, none⟩) 1 1) (h24 : n < 24)
    (K : ∀ ma' mc' W', W'.ownsRow B 9 1 (.slice ma' (n + 1) mc') (n + 1) (xs ++ [.string y]) → Row B (.slice ma' (n + 1) mc') ya yc ys W' → Below B W W' → (∀ k, k < (W.alloc q).heap.size → some k ≠ (Value.slice ma n mc).ownBlock → W'.heap[k]? = (W.alloc q).heap[k]?) →
      Next W (.slice ma n mc) (.slice ma' (n + 1) mc') → wpList Tryd.prog ops Q rest (a.put o.dst (.slice ma' (n + 1) mc')) W') : wpList Tryd.prog ops Q (o :: rest) a ((W.alloc q).alloc (.cells #[.string y] 9)) := by
  obtain ⟨i0, hi, hz0, hz1, hz2⟩ := info_parts infoStr
  have hb1 : Below W.heap.size W (W.alloc q) := (Below.refl _ _).alloc (Nat.le_refl _) _
  have hb2 : Below (W.alloc q).heap.size (W.alloc q) ((W.alloc q).alloc (.cells #[.string y] 9)) := (Below.refl _ _).alloc (Nat.le_refl _) _
  have hm2 := (hm.alloc q).alloc (.cells #[.string y] 9)
  have h2 := (h.alloc q).alloc (.cells #[.string y] 9)
  have hsz : W.heap.size ≤ ((W.alloc q).alloc (.cells #[.string y] 9)).heap.size := Nat.le_trans hb1.size hb2.size
  refine wpList_append_next _ hgd s l 22 ho B 9 i0 (.string ⟨#[]⟩) 1 16 Tryd.underlying22 hi hz0 hz1 hz2 rfl (by decide) (.slice ma n mc) n xs hs hm2 ⟨(W.alloc q).heap.size, 0, none⟩ 1 1 [.string y] (by rw [hx]; simp) (by simp) ?_ (by simp [Value.oneCell']) (by unfold maxLen; omega) (by omega) (Nat.le_trans hB hsz) ?_
  · intro j v hj
    rw [WideShapes.add_plain, Lib.cell_of_heap (heap_alloc_new (W.alloc q) _)]
    simpa using hj
  · intro v' W' hown hg hn
    obtain ⟨ma', mc', rfl⟩ : ∃ ma' mc', v' = .slice ma' (n + 1) mc' := by
      rcases hown.2 with ⟨_, h0⟩ | ⟨g, cap, cur, hv, _⟩
      · omega
      · exact ⟨_, _, hv⟩
    refine K ma' mc' W' hown (h2.other hg hn (rows_apart hm2 h2.own)) ((hb1.mono hB).trans ((hb2.mono (Nat.le_trans hB hb1.size)).trans ((Below.refl B _).grown hg (Nat.le_trans hB hsz) (fun k hk => (hm2.lt k hk).1)))) (fun k hk hne => (hg.block k (Nat.lt_of_lt_of_le hk hb2.size) hne).trans (hb2.block k hk)) ?_
    rcases hn with hn | hn
    · exact .inl hn
    · exact .inr fun g hg' => Nat.le_trans hsz (hn g hg')

theorem rows_apart2 {W : World} {b b' : Nat} {v v' : Value} {n n' : Nat} {xs ys : List Value} (h : W.ownsRow b 9 1 v n xs) (h' : W.ownsRow b' 25 5 v' n' ys) : v.ownBlock = none ∨ v.ownBlock ≠ v'.ownBlock := by
  rcases rows_apart h h' with e | e
  · rcases hx : v.ownBlock with _ | j
    · exact .inl rfl
    · exact .inr (by rw [e]; exact fun h => by cases h)
  · exact .inr fun h => e h.symm

/-- One value more, where names are kept beside. -/
theorem wpList_val1 {ops : Array Oper} {rest : List Oper} {o : Oper} {a : Act} {Q : Exit → Act → World → Prop} (hgd : o.guard = none) (s l : Operand)
    (ho : o.op = .call { callee := .builtin .append, args := #[s, l], argTypes := #[23, 23] }) {B n : Nat} {zs : List Value} {u : Value} {ya : Option Addr} {yc : Nat} {ys : List AV} {W : World} (h : Row B u ya yc ys W) (hB : B ≤ W.heap.size) (hm : W.ownsRow B 9 1 u n zs) (hs : a.eval s = .slice ya ys.length yc)
    (x : AV) (cs : Array Value) (hx : a.eval l = .slice (some ⟨W.heap.size, 0, none⟩) 1 1) (hcs : cs.toList = x.row) {C D : Nat} (hl : x.Lies C D W) (hC : B ≤ C) (hD : D ≤ W.heap.size) (hf : Free C D (.slice ya ys.length yc)) (hu : Free C D u) (h24 : ys.length < 24)
    (K : ∀ ya' yc' W', Row B u ya' yc' (ys ++ [x]) W' → Below B W W' → W'.ownsRow B 9 1 u n zs → wpList Tryd.prog ops Q rest (a.put o.dst (.slice ya' (ys ++ [x]).length yc')) W') : wpList Tryd.prog ops Q (o :: rest) a (W.alloc (.cells cs 25)) := by
  obtain ⟨i0, hi, hz0, hz1, hz2⟩ := info_parts infoVal
  have hbA : Below W.heap.size W (W.alloc (.cells cs 25)) := (Below.refl _ _).alloc (Nat.le_refl _) _
  have h2 := h.alloc (.cells cs 25)
  have hm2 := hm.alloc (.cells cs 25)
  refine wpList_append_next _ hgd s l 23 ho B 25 i0 (.agg #[.int .i64 0, .int .i64 0, .string ⟨#[]⟩, .slice none 0 0, .slice none 0 0]) 5 80 Tryd.underlying23 hi hz0 hz1 hz2 rfl (by decide) (.slice ya ys.length yc) ys.length (rows ys) hs h2.own
    ⟨W.heap.size, 0, none⟩ 1 1 x.row hx (by rw [AV.row_length]) ?_ (row_cells1 x) (by unfold maxLen; omega) (by omega) (Nat.le_trans hB hbA.size) ?_
  · intro j v hj
    rw [WideShapes.add_plain, Lib.cell_of_heap (heap_alloc_new W _), ← Array.getElem?_toList, hcs]
    simpa using hj
  · intro v' W' hown hg hn
    obtain ⟨ya', yc', rfl, h3⟩ := h2.more hown hg hn (hl.later fun k hC' hD' => hbA.block k (by omega)) hC (Nat.le_trans hD hbA.size) hf hu
    exact K ya' yc' W' h3 ((hbA.mono hB).trans ((Below.refl B _).grown hg (Nat.le_trans hB hbA.size) (fun k hk => (h2.own.lt k hk).1))) (hm2.kept hg (rows_apart2 hm2 h2.own))

set_option maxHeartbeats 4000000 in
set_option maxRecDepth 100000 in
theorem readMembers_any (w0 w : World) (p : Nat) (nb : Option Addr) (cb : Nat) (bs r : List UInt8) (ns : List ByteArray) (xs : List AV) (lv : Nat) (hS : Src w0 p nb bs w) (hat : At p bs (AV.keyAll true ns xs ++ ([0] ++ r)) w) (hl : ns.length = xs.length) (hns : ∀ y ∈ ns, y.size ≤ 60) (hall : AV.allJ xs lv = true) (hlv : lv ≤ 6) (h24 : xs.length ≤ 24) (IH : Hid (∀ x ∈ xs, RdAt x)) :
    Calls Tryd.prog 58 #[.slice nb bs.length cb, .pointer (some ⟨p, 0, none⟩), .int .i64 (lv : Int)] w (MembersGave p bs r ns xs w) := by
  have HS := Lib.hid hS
  have HPL := Lib.hid hat.lt
  have HAT := Lib.hid hat
  have HL := Lib.hid hl
  have HNS := Lib.hid hns
  have HALL : Hid (∀ x ∈ xs, AV.formedJ x lv = true) := Lib.hid (AV.allJ_all hall)
  have H24 := Lib.hid h24
  have HLV := Lib.hid hlv
  clear hS hat hall h24 hlv hl hns
  go_enter Tryd.func58, Tryd.ntmps58
  go_wp2_with fail
  go_loopg [9, 10] xs.length (fun g m v wr => ∃ (j : Nat) (ma : Option Addr) (mc : Nat) (ms : List ByteArray) (ya : Option Addr) (yc : Nat) (ys : List AV), j + g = xs.length ∧ ys.length = j ∧ ms.length = j ∧ ms = ns.take j ∧ m = .slice ma ms.length mc ∧ v = .slice ya ys.length yc ∧
    wr.ownsRow w.heap.size 9 1 (.slice ma ms.length mc) ms.length (ms.map Value.string) ∧ Row w.heap.size (.slice ma ms.length mc) ya yc ys wr ∧ AV.eqvAll (xs.take j) ys = true ∧ At p bs (AV.keyAll true (ns.drop j) (xs.drop j) ++ ([0] ++ r)) wr ∧ Kept p w wr)
  case atStart => exact ⟨0, none, 0, [], none, 0, [], by omega, rfl, rfl, by simp, rfl, rfl, World.ownsRow_nil _ _ _ _, Row.nil _ _ _, by simp [AV.eqvAll], HAT.out, Kept.refl _ _⟩
  case round =>
    obtain ⟨j, ma, mc, ms, ya, yc, ys, hj, hyl, hml, hms, rfl, rfl, hown, hrow, heq, hat, hk⟩ := hrel
    have HJ := Lib.hid hj
    have HYL := Lib.hid hyl
    have HML := Lib.hid hml
    have HMS := Lib.hid hms
    have HOWN := Lib.hid hown
    have HROW := Lib.hid hrow
    have HEQ := Lib.hid heq
    have HK := Lib.hid hk
    clear hj hyl hrow heq hml hms hown
    by_cases h1 : j < xs.length
    · have h1n : j < ns.length := by have := HL.out; omega
      have hd := AV.keyAll_drop (o := true) (ns := ns) h1
      have hgd : ns.getD j ⟨#[]⟩ = ns[j] := by simp [List.getD_eq_getElem?_getD, List.getElem?_eq_getElem h1n]
      rw [hd, AV.nameL, if_pos rfl, hgd, List.append_assoc, List.cons_append] at hat
      have hmem : xs[j] ∈ xs := List.getElem_mem h1
      have hfx := HALL.out _ hmem
      have hih := IH.out _ hmem
      have hy60 := HNS.out _ (List.getElem_mem h1n)
      have HTK := Lib.hid (fun u (hu : AV.eqv xs[j] u = true) => eqvAll_take h1 rfl HYL.out HEQ.out hu)
      have htn : ns.take (j + 1) = ms ++ [ns[j]] := by rw [List.take_succ_eq_append_getElem h1n, HMS.out]
      obtain ⟨x, hx⟩ : ∃ x, xs[j] = x := ⟨_, rfl⟩
      obtain ⟨y, hy⟩ : ∃ y, ns[j] = y := ⟨_, rfl⟩
      rw [hx] at hat hfx hih
      rw [hy] at hat hy60 htn
      simp only [hx] at HTK
      have HTN := Lib.hid htn
      have hyl24 : ys.length < 24 := by have := H24.out; have := HYL.out; omega
      have ENDS := Lib.hid (ends_more w0 wr p nb cb bs _ 1 ys.length (HS.out.kept hk) hat (by decide) hyl24)
      have CALL := Lib.hid (fun W (h1 : Kept p wr W) (h2 : At p bs (1 :: (textL y.data.toList ++ (AV.key x ++ (AV.keyAll true (ns.drop (j + 1)) (xs.drop (j + 1)) ++ ([0] ++ r))))) W) => readMember_any w0 W p nb cb bs _ y x lv ((HS.out.kept hk).kept h1) h2 hy60 hfx HLV.out hih)
      have HY24 := Lib.hid hyl24
      have HM24 : Hid (ms.length < 24) := Lib.hid (by have := H24.out; have := HML.out; omega)
      simp only [List.append_assoc] at ENDS CALL
      clear hd hat hmem hfx hih hx hy hk hgd hy60 htn hyl24
      go_wp2_with fail
      refine (ENDS.out).mono ?_
      rintro e w1 ⟨rfl, hat1, hk1⟩
      have HA1 := Lib.hid hat1
      have HQ1 := Lib.hid hk1
      have HR1 := Lib.hid (HROW.out.step hk1 HPL.out)
      have HO1 := Lib.hid (row_step HOWN.out hk1 HPL.out)
      have HK1 := Lib.hid (HK.out.trans hk1)
      clear hat1 hk1
      go_wp2_with fail
      refine (CALL.out w1 HQ1.out HA1.out).mono ?_
      rintro e w2 ⟨u, rfl, hu, hlies, hat2, hk2⟩
      have HR2 := Lib.hid (HR1.out.step hk2 HPL.out)
      have HO2 := Lib.hid (row_step HO1.out hk2 HPL.out)
      have HF := Lib.hid (own_lt (C := w1.heap.size) (D := w2.heap.size) HR1.out.own (Nat.le_refl _))
      have HFM := Lib.hid (own_lt (C := w1.heap.size) (D := w2.heap.size) HO1.out (Nat.le_refl _))
      have HTK2 := Lib.hid (HTK.out u hu)
      have HA2 := Lib.hid hat2
      have HK2 := Lib.hid (HK1.out.trans hk2)
      obtain ⟨k', n', s', na', nc', ns', xa', xc', xs'⟩ := u
      have HLI := Lib.hid hlies
      have hz1 : w.heap.size ≤ w1.heap.size := HK1.out.size
      have HZ2 := Lib.hid hk2.size
      clear hat2 hk2 hu hlies
      simp only [AV.val, AV.row]
      go_wp2_with (at_builtin; refine wpList_name rfl _ _ rfl HO2.out HR2.out (Nat.le_trans hz1 HZ2.out) rfl y rfl HM24.out ?_)
      intro ma3 mc3 W3 hown3 hrow3 hb3 hkeep hnext
      have hnb : ∀ k, w1.heap.size ≤ k → some k ≠ (Value.slice ma ms.length mc).ownBlock := fun k hk e => by
        have := (HO1.out.lt k e.symm).2
        omega
      have hz2 := HZ2.out
      have HB3 := Lib.hid ((hkeep w2.heap.size (by simp) (hnb _ hz2)).trans (heap_alloc_new w2 _))
      have hl3 := HLI.out.later (w' := W3) fun k hC hD => (hkeep k (by omega) (hnb _ hC)).trans (Lib.alloc_old w2 _ k hD)
      have hf3 : Free w1.heap.size w2.heap.size (.slice ma3 (ms.length + 1) mc3) := fun g e => by
        rcases hnext with hnext | hnext
        · exact HFM.out g (by rw [← hnext]; exact e)
        · exact .inr (hnext g e)
      have HL3 := Lib.hid hl3
      have HF3 := Lib.hid hf3
      have HO3 := Lib.hid hown3
      have HR3 := Lib.hid hrow3
      have HA3 := Lib.hid (HA2.out.through hb3 HPL.out)
      have HK3 := Lib.hid (HK2.out.grow hb3)
      have HZ3 := Lib.hid hb3.size
      obtain ⟨a0, a1, a2, a3, a4⟩ := box_cells HB3.out
      clear hown3 hrow3 hb3 hkeep hnext hnb hl3 hf3
      go_wp2_with (at_builtin; refine wpList_val1 rfl _ _ rfl HR3.out (Nat.le_trans hz1 (Nat.le_trans HZ2.out HZ3.out)) HO3.out rfl (AV.mk k' n' s' na' nc' ns' xa' xc' xs') _ rfl rfl HL3.out hz1 HZ3.out HF.out HF3.out HY24.out ?_)
      intro ya4 yc4 W4 hR4 hb4 hO4
      have HR4 : Hid (Row w.heap.size (.slice ma3 (ms.length + 1) mc3) ya4 yc4 (ys ++ [AV.mk k' n' s' na' nc' ns' xa' xc' xs']) W4) := Lib.hid hR4
      have HO4 := Lib.hid hO4
      have HA4 := Lib.hid (HA3.out.through hb4 HPL.out)
      have HK4 := Lib.hid (HK3.out.grow hb4)
      clear hR4 hb4 hO4 a0 a1 a2 a3 a4
      go_wp2_with fail
      go_roundg (gk - 1)
      case measure => have := HJ.out; omega
      case rel => exact ⟨j + 1, ma3, mc3, ms ++ [y], ya4, yc4, _, by have := HJ.out; omega, by have := HYL.out; simp; omega, by have := HML.out; simp; omega, HTN.out.symm, by simp, by simp, by have := HO4.out; simpa using this, by have := HR4.out; simpa using this, HTK2.out, HA4.out, HK4.out⟩
    · obtain rfl : j = xs.length := by have := HJ.out; omega
      rw [AV.keyAll_end (Nat.le_refl _), List.nil_append] at hat
      have ENDS := Lib.hid (ends_over w0 wr p nb cb bs r ys.length (HS.out.kept hk) hat)
      have heq := HEQ.out
      rw [List.take_of_length_le (Nat.le_refl _)] at heq
      have HEQ2 := Lib.hid heq
      have hmn : ms = ns := by rw [HMS.out, List.take_of_length_le (by have := HL.out; omega)]
      subst hmn
      clear hat hk heq
      go_wp2_with fail
      refine (ENDS.out).mono ?_
      rintro e w1 ⟨rfl, hat1, hk1⟩
      have HA1 := Lib.hid hat1
      have HR1 := Lib.hid (HROW.out.step hk1 HPL.out)
      have HO1 := Lib.hid (row_step HOWN.out hk1 HPL.out)
      have HK1 := Lib.hid (HK.out.trans hk1)
      clear hat1 hk1
      go_wp2_with fail
      refine bodyPost_ret (v := .tuple #[.slice ma ms.length mc, .slice ya ys.length yc, .bool true]) (by simp [results, Tryd.results58, go_sem]) rfl ⟨ma, mc, ya, yc, ys, rfl, HYL.out.symm, HEQ2.out, HO1.out, HR1.out, HA1.out, HK1.out⟩
end Go.Proofs.YtcbfbmidekmboaaDoor
