/- The members of an object read by the document: what the call answers; no condition of ours. -/
import Derived.Test.YtcbfbmidekmboaaDoorRfa
namespace Go.Proofs.YtcbfbmidekmboaaDoor
open Go.ChangeShapes Go.WideShapes Go.Deep Go.RowKit Go.Lib

theorem wpList_dname0 {ops : Array Oper} {rest : List Oper} {o : Oper} {a : Act} {Q : Exit → Act → World → Prop} (hgd : o.guard = none) (s l : Operand)
    (ho : o.op = .call { callee := .builtin .append, args := #[s, l], argTypes := #[22, 22] }) {B n : Nat} {ma : Option Addr} {mc : Nat} {xs : List Value} {ya : Option Addr} {yc : Nat} {ys : List AV} {W : World} (hm : W.ownsRow B 9 1 (.slice ma n mc) n xs) (h : Row B (.slice ma n mc) ya yc ys W) (hB : B ≤ W.heap.size)
    (hs : a.eval s = .slice ma n mc) (y : ByteArray) (hx : a.eval l = .slice (some ⟨W.heap.size, 0, none⟩) 1 1) (h24 : n < 100)
    (K : ∀ ma' mc' W', W'.ownsRow B 9 1 (.slice ma' (n + 1) mc') (n + 1) (xs ++ [.string y]) → Row B (.slice ma' (n + 1) mc') ya yc ys W' → Below B W W' → (∀ k, k < W.heap.size → some k ≠ (Value.slice ma n mc).ownBlock → W'.heap[k]? = W.heap[k]?) →
      Next W (.slice ma n mc) (.slice ma' (n + 1) mc') → wpList Tryd.prog ops Q rest (a.put o.dst (.slice ma' (n + 1) mc')) W') : wpList Tryd.prog ops Q (o :: rest) a (W.alloc (.cells #[.string y] 9)) := by
  obtain ⟨i0, hi, hz0, hz1, hz2⟩ := info_parts infoStr
  have hb1 : Below W.heap.size W W := Below.refl _ _
  have hb2 : Below W.heap.size W (W.alloc (.cells #[.string y] 9)) := (Below.refl _ _).alloc (Nat.le_refl _) _
  have hm2 := hm.alloc (.cells #[.string y] 9)
  have h2 := h.alloc (.cells #[.string y] 9)
  have hsz : W.heap.size ≤ (W.alloc (.cells #[.string y] 9)).heap.size := Nat.le_trans hb1.size hb2.size
  refine wpList_append_next _ hgd s l 22 ho B 9 i0 (.string ⟨#[]⟩) 1 16 Tryd.underlying22 hi hz0 hz1 hz2 rfl (by decide) (.slice ma n mc) n xs hs hm2 ⟨W.heap.size, 0, none⟩ 1 1 [.string y] hx (by simp) ?_ (by simp [Value.oneCell']) (by unfold maxLen; omega) (by omega) (Nat.le_trans hB hsz) ?_
  · intro j v hj
    rw [WideShapes.add_plain, Lib.cell_of_heap (heap_alloc_new W _)]
    simpa using hj
  · intro v' W' hown hg hn
    obtain ⟨ma', mc', rfl⟩ : ∃ ma' mc', v' = .slice ma' (n + 1) mc' := by
      rcases hown.2 with ⟨_, h0⟩ | ⟨g, cap, cur, hv, _⟩
      · omega
      · exact ⟨_, _, hv⟩
    refine K ma' mc' W' hown (h2.other hg hn (rows_apart hm2 h2.own)) ((hb1.mono hB).trans ((hb2.mono (Nat.le_trans hB hb1.size)).trans ((Below.refl B _).grown hg (Nat.le_trans hB hsz) (fun k hk => (hm2.lt k hk).1)))) (fun k hk hne => (hg.block k (Nat.lt_of_lt_of_le hk hb2.size) hne).trans (hb2.block k hk)) ?_
    rcases hn with hn | hn
    · exact .inl hn
    · exact .inr fun g hg' => Nat.le_trans hsz (hn g hg')

/-- One name more. -/
theorem MBox.name {w W W' : World} {k : Int} {ma : Option Addr} {mc : Nat} {ns : List ByteArray} {ya : Option Addr} {yc : Nat} {ys : List AV} (h : MBox w k ma mc ns ya yc ys W) {ma' : Option Addr} {mc' : Nat} {y : ByteArray}
    (hn : W'.ownsRow (w.heap.size + 2) 9 1 (.slice ma' (ns.length + 1) mc') (ns.length + 1) (ns.map Value.string ++ [.string y])) (hr : Row (w.heap.size + 2) (.slice ma' (ns.length + 1) mc') ya yc ys W') (hb : Below (w.heap.size + 2) W W') :
    MBox w k ma' mc' (ns ++ [y]) ya yc ys (W'.setCell ⟨w.heap.size, 3, none⟩ (.slice ma' (ns.length + 1) mc')) := by
  have hk := set_kept W' w.heap.size 3 (.slice ma' (ns.length + 1) mc')
  have e : (ns ++ [y]).length = ns.length + 1 := by simp
  refine ⟨?_, ?_, ?_, ?_, (h.below.trans (hb.mono (by omega))).setCell (p := ⟨w.heap.size, 3, none⟩) (Nat.le_refl _) _⟩
  · rw [e]; exact heap_setCell_same W' w.heap.size 3 _ 25 _ (by rw [hb.block _ (by omega)]; exact h.h1)
  · rw [heap_setCell_other _ _ _ _ (by simp), hb.block _ (by omega)]; exact h.h2
  · rw [e, List.map_append]; exact row_step hn hk (by omega)
  · rw [e]; exact hr.step hk (by omega)

set_option maxHeartbeats 4000000 in
set_option maxRecDepth 100000 in
theorem dobj_any (lv : Nat) (hlv6 : lv ≤ 6) (IH : DvAll lv) (w : World) (v0 : Value) (b : List UInt8) (hv : Sl w v0 b) (hlen : b.length ≤ 100000) :
    Calls Tryd.prog 44 #[.agg #[.int .i64 6, .int .i64 0, .string ⟨#[]⟩, .slice none 0 0, .slice none 0 0], v0, .int .i64 ((lv : Int) + 1)] w (MemGave v0 6 b lv w) := by
  have HM := Lib.hid (MBox.new w 6)
  have HV := Lib.hid hv
  have HIH := Lib.hid IH
  have HLEN := Lib.hid hlen
  have hlv2 : (lv : Int) ≤ 6 := by omega
  have hlv0 : (0 : Int) ≤ (lv : Int) := by omega
  obtain ⟨na0, cap0, rfl, -, -, -⟩ := id hv
  clear hv IH hlen
  go_enter Tryd.func44, Tryd.ntmps44
  go_wp2_with fail
  go_loopg [1] 26 (fun g x wr => ∃ (ma : Option Addr) (mc : Nat) (ns : List ByteArray) (ya : Option Addr) (yc : Nat) (ys : List AV) (rest : List UInt8), ys.length + g = 26 ∧ ys.length ≤ 25 ∧ Tail (.slice na0 b.length cap0) b x rest ∧ rest.length ≤ b.length ∧ MBox w 6 ma mc ns ya yc ys wr ∧ b = AV.keyAll true ns ys ++ rest ∧ AV.MadeAll ys ∧ ns.length = ys.length ∧ (∀ y ∈ ns, y.size ≤ 100000))
  case atStart => exact ⟨none, 0, [], none, 0, [], b, by simp, by simp, fun _ h => h, Nat.le_refl _, HM.out, by simp [AV.keyAll], by rw [AV.MadeAll]; trivial, rfl, by simp⟩
  case round =>
    obtain ⟨ma, mc, ns, ya, yc, ys, rest, hg, hy25, htail, hrl, hm, hb, hmade, hnl, hn100⟩ := hrel
    have hsl := htail w HV.out
    have HG := Lib.hid hg
    have HTAIL := Lib.hid htail
    have HMB := Lib.hid hm
    have HB := Lib.hid hb
    have HMADE := Lib.hid hmade
    have HRL := Lib.hid hrl
    have HNL := Lib.hid hnl
    have HN100 := Lib.hid hn100
    have hnn : ns.length < 100 := by omega
    clear htail hm hb hmade hrl hg hnl hn100
    obtain ⟨p0, p1, p2, p3, p4⟩ := HMB.out.five
    obtain ⟨r0, r1', r2, r3, r4⟩ := HMB.out.second
    obtain ⟨z0, z1', z2, z3, z4⟩ := fz5 HMB.out.h2
    cases rest with
    | nil =>
      have NO := Lib.hid (fun ns xs r (h : AList (decide ((6 : Int) = 6)) lv b ns xs r) => show False by
        obtain ⟨_, _, _, h2⟩ := AList.cut h HMADE.out (by simpa using HNL.out) HB.out
        exact h2.nil)
      obtain ⟨nz, cz, rfl, -, -, -⟩ := hsl
      simp only [List.length_nil]
      go_wp2_with fail
      obtain ⟨x1, x2, x3, x4, x5⟩ := HMB.out.fill (.int .i64 6) (.int .i64 0) (.string ⟨#[]⟩) (.slice ma ns.length mc) (.slice ya ys.length yc) rfl
      obtain ⟨g0, g1, g2, g3, g4⟩ := box_cells x1
      exact bodyPost_ret (v := .tuple #[.agg #[.int .i64 6, .int .i64 0, .string ⟨#[]⟩, .slice ma ns.length mc, .slice ya ys.length yc], .slice none 0 0, .bool false]) (by simp [results, Tryd.results44, go_sem, g0, g1, g2, g3, g4]) rfl ⟨x2, .inl ⟨AV.mk 6 0 ⟨#[]⟩ ma mc ns ya yc ys, _, rfl, NO.out⟩⟩
    | cons c rest =>
      obtain ⟨q, o, cap, rfl, hc0, hcap1, hcap2, na1, hrun1, hs1⟩ := hsl.next
      have HS1 := Lib.hid hs1
      have hc1 := cell_kept2 HMB.out.below hc0
      have HC0 := Lib.hid hc0
      have hl0 : (0 : Int) < (rest.length : Int) + 1 := by omega
      clear hs1 hc0
      by_cases h25 : ys.length = 25
      · have NO := Lib.hid (fun ns xs r (h : AList (decide ((6 : Int) = 6)) lv b ns xs r) => show False by
          obtain ⟨h1, _⟩ := AList.cut h HMADE.out (by simpa using HNL.out) HB.out
          omega)
        have t1 : ¬ (ys.length : Int) ≤ 24 := by omega
        have t2 : (24 : Int) < (ys.length : Int) := by omega
        clear h25 hsl
        go_wp2_with fail
        obtain ⟨x1, x2, x3, x4, x5⟩ := HMB.out.fill (.int .i64 6) (.int .i64 0) (.string ⟨#[]⟩) (.slice ma ns.length mc) (.slice ya ys.length yc) rfl
        obtain ⟨g0, g1, g2, g3, g4⟩ := box_cells x1
        exact bodyPost_ret (v := .tuple #[.agg #[.int .i64 6, .int .i64 0, .string ⟨#[]⟩, .slice ma ns.length mc, .slice ya ys.length yc], .slice none 0 0, .bool false]) (by simp [results, Tryd.results44, go_sem, g0, g1, g2, g3, g4]) rfl ⟨x2, .inl ⟨AV.mk 6 0 ⟨#[]⟩ ma mc ns ya yc ys, _, rfl, NO.out⟩⟩
      have t1 : (ys.length : Int) ≤ 24 := by omega
      have t1n : ys.length < 100 := by omega
      have H24 : Hid (ys.length ≤ 24) := Lib.hid (by omega)
      clear h25
      by_cases hz : c = 0
      · subst hz
        have hcz : wr.cell? ⟨q, o, none⟩ = some (.int .u8 0) := hc1
        clear hc1 hsl
        have HT3 := Lib.hid (HTAIL.out.trans HS1.out)
        obtain ⟨x1, x2, x3, x4, x5⟩ := HMB.out.fill (.int .i64 6) (.int .i64 0) (.string ⟨#[]⟩) (.slice ma ns.length mc) (.slice ya ys.length yc) rfl
        obtain ⟨hm1, hm2, hm3⟩ := names_lie x3
        have hl := list_lies (k := 6) (by decide) hm1 hm2 (fun y hy => by have := HN100.out y hy; unfold maxLen; omega) hm3 x4
        have HL := Lib.hid (hl.wider (C' := w.heap.size) (by omega) (Nat.le_refl _))
        have HX1 : Hid ((((((wr.setCell ⟨w.heap.size + 1, 0, none⟩ (.int .i64 6)).setCell ⟨w.heap.size + 1, 1, none⟩ (.int .i64 0)).setCell ⟨w.heap.size + 1, 2, none⟩ (.string ⟨#[]⟩)).setCell ⟨w.heap.size + 1, 3, none⟩ (.slice ma ns.length mc)).setCell ⟨w.heap.size + 1, 4, none⟩ (.slice ya ys.length yc)).drew.heap[w.heap.size + 1]? = some (.cells #[.int .i64 6, .int .i64 0, .string ⟨#[]⟩, .slice ma ns.length mc, .slice ya ys.length yc] 25 (0, 0))) := Lib.hid x1
        have HX2 := Lib.hid x2.drew
        clear x1 x2 x3 x4 x5 hl
        go_upto_region 3 with fail
        go_region_with (fail)
        all_goals
          go_wp2_with fail
          obtain ⟨g0, g1, g2, g3, g4⟩ := box_cells HX1.out
          exact bodyPost_ret (v := .tuple #[.agg #[.int .i64 6, .int .i64 0, .string ⟨#[]⟩, .slice ma ns.length mc, .slice ya ys.length yc], .slice na1 rest.length (cap - 1), .bool true]) (by simp [results, Tryd.results44, go_sem, g0, g1, g2, g3, g4]) rfl ⟨HX2.out, .inr ⟨ma, mc, ns, ya, yc, ys, rest, _, rfl, HB.out, HMADE.out, by simpa using HNL.out, HL.out.later (fun _ _ _ => rfl), HT3.out⟩⟩
      · have hcz : ((c.toNat : Int) == 0) = false := by rw [beq_eq_false_iff_ne]; have := zero_lt_byte hz; omega
        have HZ := Lib.hid hz
        clear hz
        by_cases hone : c = 1
        rotate_left
        · have NO : Hid (∀ ns xs r, ¬ AList (decide ((6 : Int) = 6)) lv b ns xs r) := Lib.hid (fun ns xs r h => by
            obtain ⟨_, _, _, h2⟩ := AList.cut h HMADE.out (by simpa using HNL.out) HB.out
            exact hone (AList.head2 h2 HZ.out).1)
          have e1 : ((c.toNat : Int) == 1) = false := by rw [beq_eq_false_iff_ne]; intro e; exact hone (UInt8.toNat_inj.1 (by rw [show (1 : UInt8).toNat = 1 from rfl]; omega))
          have e2 : ((c.toNat : Int) != 1) = true := by rw [bne, e1]; rfl
          clear hone hsl
          go_wp2_with fail
          obtain ⟨x1, x2, x3, x4, x5⟩ := HMB.out.fill (.int .i64 6) (.int .i64 0) (.string ⟨#[]⟩) (.slice ma ns.length mc) (.slice ya ys.length yc) rfl
          obtain ⟨g0, g1, g2, g3, g4⟩ := box_cells x1
          exact bodyPost_ret (v := .tuple #[.agg #[.int .i64 6, .int .i64 0, .string ⟨#[]⟩, .slice ma ns.length mc, .slice ya ys.length yc], .slice none 0 0, .bool false]) (by simp [results, Tryd.results44, go_sem, g0, g1, g2, g3, g4]) rfl ⟨x2, .inl ⟨AV.mk 6 0 ⟨#[]⟩ ma mc ns ya yc ys, _, rfl, NO.out⟩⟩
        subst hone
        have hcz1 : wr.cell? ⟨q, o, none⟩ = some (.int .u8 1) := hc1
        have GET := Lib.hid (get_any wr _ rest (((HS1.out w hsl)).below HMB.out.below) (by have := HRL.out; have := HLEN.out; have h9 : ((1 : UInt8) :: rest).length = rest.length + 1 := rfl; omega))
        clear hc1 hsl hcz
        go_wp2_with fail
        refine (GET.out).mono ?_
        rintro e w2 ⟨hb2, ⟨rfl, hno⟩ | ⟨X, r1, z1, rfl, hX, hz1⟩⟩
        · have NO : Hid (∀ ns xs r, ¬ AList (decide ((6 : Int) = 6)) lv b ns xs r) := Lib.hid (fun ns xs r h => by
            obtain ⟨_, _, _, h2⟩ := AList.cut h HMADE.out (by simpa using HNL.out) HB.out
            obtain ⟨_, y, x, l, _, _, f3⟩ := AList.head2 h2 HZ.out
            exact hno _ _ f3)
          have HM2 := Lib.hid (HMB.out.later hb2)
          clear hno hb2 p0 p1 p2 p3 p4 r0 r1' r2 r3 r4 z0 z1' z2 z3 z4
          obtain ⟨p0, p1, p2, p3, p4⟩ := HM2.out.five
          obtain ⟨r0, r1', r2, r3, r4⟩ := HM2.out.second
          obtain ⟨z0, z1', z2, z3, z4⟩ := fz5 HM2.out.h2
          go_wp2_with fail
          obtain ⟨x1, x2, x3, x4, x5⟩ := HM2.out.fill (.int .i64 6) (.int .i64 0) (.string ⟨#[]⟩) (.slice ma ns.length mc) (.slice ya ys.length yc) rfl
          obtain ⟨g0, g1, g2, g3, g4⟩ := box_cells x1
          exact bodyPost_ret (v := .tuple #[.agg #[.int .i64 6, .int .i64 0, .string ⟨#[]⟩, .slice ma ns.length mc, .slice ya ys.length yc], .slice none 0 0, .bool false]) (by simp [results, Tryd.results44, go_sem, g0, g1, g2, g3, g4]) rfl ⟨x2, .inl ⟨AV.mk 6 0 ⟨#[]⟩ ma mc ns ya yc ys, _, rfl, NO.out⟩⟩
        have HM2 := Lib.hid (HMB.out.later hb2)
        have HX := Lib.hid hX
        have HT1 := Lib.hid ((HTAIL.out.trans HS1.out).trans hz1)
        have HXS : Hid (X.length ≤ 100000) := Lib.hid (by have := congrArg List.length hX; rw [List.length_append] at this; have := textL_half X; have := HRL.out; have := HLEN.out; have h9 : ((1 : UInt8) :: rest).length = rest.length + 1 := rfl; omega)
        have HR1 : Hid (r1.length ≤ b.length) := Lib.hid (by have := congrArg List.length hX; rw [List.length_append] at this; have := HRL.out; have h9 : ((1 : UInt8) :: rest).length = rest.length + 1 := rfl; omega)
        clear hb2 hX hz1 p0 p1 p2 p3 p4 r0 r1' r2 r3 r4 z0 z1' z2 z3 z4 hcz1
        obtain ⟨p0, p1, p2, p3, p4⟩ := HM2.out.five
        go_wp2_with (at_builtin; refine wpList_dname0 rfl _ _ rfl HM2.out.names HM2.out.row HM2.out.lt rfl ⟨X.toArray⟩ rfl hnn ?_)
        intro ma3 mc3 W3 hown3 hrow3 hb3 hkeep hnext
        have hq3 : W3.heap[w.heap.size]? = some (.cells #[.int .i64 6, .int .i64 0, .string ⟨#[]⟩, .slice ma ns.length mc, .slice ya ys.length yc] 25 (0, 0)) := by rw [hb3.block _ (by omega)]; exact HM2.out.h1
        obtain ⟨b0, b1, b2, b3, b4⟩ := box_cells hq3
        obtain ⟨f0, f1, f2, f3, f4⟩ := fz5 hq3
        have hm3 := HM2.out.name hown3 hrow3 hb3
        have hnl3 := HNL.out
        have hns3 : ∀ y ∈ ns ++ [⟨X.toArray⟩], y.size ≤ 100000 := fun y hy => by
          rcases List.mem_append.1 hy with hy | hy
          · exact HN100.out y hy
          · obtain rfl : y = ⟨X.toArray⟩ := by simpa using hy
            have := HXS.out
            show X.toArray.size ≤ 100000
            simpa using this
        obtain ⟨NS, hNS⟩ : ∃ NS, ns ++ [⟨X.toArray⟩] = NS := ⟨_, rfl⟩
        rw [hNS] at hm3 hns3
        have HNS := Lib.hid hNS
        have HNSL : Hid (NS.length = ys.length + 1) := Lib.hid (by rw [← hNS]; simp; omega)
        have HNS3 := Lib.hid hns3
        have HM3 := Lib.hid hm3
        clear hq3 hown3 hrow3 hb3 hkeep hnext hm3 hnl3 hns3 hNS p0 p1 p2 p3 p4
        go_upto_region 11 with fail
        generalize W3.setCell ⟨w.heap.size, 3, none⟩ (.slice ma3 (ns.length + 1) mc3) = W4 at *
        clear b0 b1 b2 b3 b4 f0 f1 f2 f3 f4
        have VAL := Lib.hid (HIH.out W4 z1 r1 ((HT1.out w HV.out).below HM3.out.below) (by have := HR1.out; have := HLEN.out; omega))
        go_wp2_with fail
        refine (VAL.out).mono ?_
        rintro e w5 ⟨hb5, ⟨u, zz, rfl, hno⟩ | ⟨u, r, zz, rfl, hkey, humade, hlies, htl⟩⟩
        · have NO : Hid (∀ ns xs r, ¬ AList (decide ((6 : Int) = 6)) lv b ns xs r) := Lib.hid (fun ns xs r h => by
            obtain ⟨_, _, _, h2⟩ := AList.cut h HMADE.out (by simpa using HNL.out) HB.out
            obtain ⟨_, y, x, l, f1, f2, f3⟩ := AList.head2 h2 HZ.out
            obtain ⟨_, e2⟩ := text_once (HX.out.symm.trans f3)
            exact hno x l f1 f2 e2)
          obtain ⟨k', n', s', na', nc', ns', xa', xc', xs'⟩ := u
          have HM5 := Lib.hid ((HM3.out.later hb5).later ((Below.refl _ w5).alloc (Nat.le_refl _) (.cells #[.int .i64 k', .int .i64 n', .string s', .slice na' ns'.length nc', .slice xa' xs'.length xc'] 25)))
          clear hno hb5
          simp only [AV.val, AV.row]
          go_upto_region 14 with fail
          generalize w5.alloc (.cells #[.int .i64 k', .int .i64 n', .string s', .slice na' ns'.length nc', .slice xa' xs'.length xc'] 25) = W6 at *
          obtain ⟨p0, p1, p2, p3, p4⟩ := HM5.out.five
          obtain ⟨r0, r1', r2, r3, r4⟩ := HM5.out.second
          obtain ⟨z0, z1', z2, z3, z4⟩ := fz5 HM5.out.h2
          go_wp2_with fail
          obtain ⟨x1, x2, x3, x4, x5⟩ := HM5.out.fill (.int .i64 6) (.int .i64 0) (.string ⟨#[]⟩) (.slice ma3 NS.length mc3) (.slice ya ys.length yc) rfl
          obtain ⟨g0, g1, g2, g3, g4⟩ := box_cells x1
          exact bodyPost_ret (v := .tuple #[.agg #[.int .i64 6, .int .i64 0, .string ⟨#[]⟩, .slice ma3 NS.length mc3, .slice ya ys.length yc], .slice none 0 0, .bool false]) (by simp [results, Tryd.results44, go_sem, g0, g1, g2, g3, g4]) rfl ⟨x2, .inl ⟨AV.mk 6 0 ⟨#[]⟩ ma3 mc3 NS ya yc ys, _, rfl, NO.out⟩⟩
        · obtain ⟨k', n', s', na', nc', ns', xa', xc', xs'⟩ := u
          have HA := Lib.hid ((Below.refl _ w5).alloc (Nat.le_refl _) (.cells #[.int .i64 k', .int .i64 n', .string s', .slice na' ns'.length nc', .slice xa' xs'.length xc'] 25))
          have HM5 := Lib.hid (HM3.out.later hb5)
          have HM6 := Lib.hid (HM5.out.later HA.out)
          have HLI := Lib.hid (hlies.later fun k _ hD => HA.out.block k hD)
          have HBX := Lib.hid (heap_alloc_new w5 (.cells #[.int .i64 k', .int .i64 n', .string s', .slice na' ns'.length nc', .slice xa' xs'.length xc'] 25))
          have HF := Lib.hid (own_lt (C := W4.heap.size) (D := w5.heap.size) HM3.out.row.own (Nat.le_refl _))
          have HKEY : Hid (b = AV.keyAll true NS (ys ++ [AV.mk k' n' s' na' nc' ns' xa' xc' xs']) ++ r) := Lib.hid (by
            rw [HB.out, HX.out, hkey, ← HNS.out, keyAll_snoc2 _ _ _ _ HNL.out]
            simp)
          have HMD := Lib.hid (madeAll_snoc HMADE.out humade)
          have HTL := Lib.hid (HT1.out.trans htl)
          clear hkey humade hlies htl hb5
          simp only [AV.val, AV.row]
          go_upto_region 15 with fail
          have HFU := Lib.hid (own_lt (C := W4.heap.size) (D := w5.heap.size) HM3.out.names (Nat.le_refl _))
          have hC := HM3.out.lt
          have HD : Hid (w5.heap.size ≤ (w5.alloc (.cells #[.int .i64 k', .int .i64 n', .string s', .slice na' ns'.length nc', .slice xa' xs'.length xc'] 25)).heap.size) := Lib.hid HA.out.size
          generalize w5.alloc (.cells #[.int .i64 k', .int .i64 n', .string s', .slice na' ns'.length nc', .slice xa' xs'.length xc'] 25) = W6 at *
          obtain ⟨a0, a1, a2, a3, a4⟩ := box_cells HBX.out
          obtain ⟨p0, p1, p2, p3, p4⟩ := HM6.out.five
          have HB3 : Hid (w.heap.size + 2 ≤ W6.heap.size) := Lib.hid HM6.out.lt
          go_wp2_with (at_builtin; refine wpList_dval rfl _ _ rfl HM6.out.row HB3.out HM6.out.names rfl (AV.mk k' n' s' na' nc' ns' xa' xc' xs') _ rfl rfl HLI.out hC HD.out HF.out HFU.out t1n ?_)
          intro ya4 yc4 W7 hR4 hb4 hn4
          have hq4 : W7.heap[w.heap.size]? = some (.cells #[.int .i64 6, .int .i64 0, .string ⟨#[]⟩, .slice ma3 NS.length mc3, .slice ya ys.length yc] 25 (0, 0)) := by rw [hb4.block _ (by omega)]; exact HM6.out.h1
          obtain ⟨b0, b1, b2, b3, b4⟩ := box_cells hq4
          obtain ⟨f0, f1, f2, f3, f4⟩ := fz5 hq4
          have HM7 := Lib.hid (HM6.out.item hR4 hb4 hn4)
          clear hq4 hR4 hb4 hn4 a0 a1 a2 a3 a4 p0 p1 p2 p3 p4
          go_wp2_with fail
          go_roundg (gk - 1)
          case measure => have := HG.out; have := H24.out; omega
          case rel => exact ⟨ma3, mc3, NS, ya4, yc4, _, r, by have := HG.out; have := H24.out; simp; omega, by have := H24.out; simp; omega, HTL.out, by have := congrArg List.length HKEY.out; rw [List.length_append] at this; omega, by have := HM7.out; simpa using this, HKEY.out, HMD.out, by have := HNSL.out; simp; omega, HNS3.out⟩
end Go.Proofs.YtcbfbmidekmboaaDoor
