/- The members of an array read by the document: what the call answers; no condition of ours. -/
import Derived.Test.YtcbfbmidekmboaaDoorRfl
namespace Go.Proofs.YtcbfbmidekmboaaDoor
open Go.ChangeShapes Go.WideShapes Go.Deep Go.RowKit Go.Lib

theorem set_kept (W : World) (q j : Nat) (v : Value) : Kept q W (W.setCell ⟨q, j, none⟩ v) := (Kept.refl q W).setAt j v

/-- One value more. -/
theorem MBox.item {w W W' : World} {k : Int} {ma : Option Addr} {mc : Nat} {ns : List ByteArray} {ya : Option Addr} {yc : Nat} {ys : List AV} (h : MBox w k ma mc ns ya yc ys W) {ya' : Option Addr} {yc' : Nat} {x : AV}
    (hr : Row (w.heap.size + 2) (.slice ma ns.length mc) ya' yc' (ys ++ [x]) W') (hb : Below (w.heap.size + 2) W W') (hn : W'.ownsRow (w.heap.size + 2) 9 1 (.slice ma ns.length mc) ns.length (ns.map Value.string)) :
    MBox w k ma mc ns ya' yc' (ys ++ [x]) (W'.setCell ⟨w.heap.size, 4, none⟩ (.slice ya' (ys ++ [x]).length yc')) := by
  have hk := set_kept W' w.heap.size 4 (.slice ya' (ys ++ [x]).length yc')
  refine ⟨?_, ?_, row_step hn hk (by omega), hr.step hk (by omega), (h.below.trans (hb.mono (by omega))).setCell (p := ⟨w.heap.size, 4, none⟩) (Nat.le_refl _) _⟩
  · exact heap_setCell_same W' w.heap.size 4 _ 25 _ (by rw [hb.block _ (by omega)]; exact h.h1)
  · rw [heap_setCell_other _ _ _ _ (by simp), hb.block _ (by omega)]; exact h.h2

set_option maxHeartbeats 4000000 in
set_option maxRecDepth 100000 in
theorem darr_any (lv : Nat) (hlv6 : lv ≤ 6) (IH : DvAll lv) (w : World) (v0 : Value) (b : List UInt8) (hv : Sl w v0 b) (hlen : b.length ≤ 100000) :
    Calls Tryd.prog 44 #[.agg #[.int .i64 5, .int .i64 0, .string ⟨#[]⟩, .slice none 0 0, .slice none 0 0], v0, .int .i64 ((lv : Int) + 1)] w (MemGave v0 5 b lv w) := by
  have HM := Lib.hid (MBox.new w 5)
  have HV := Lib.hid hv
  have HIH := Lib.hid IH
  have HLEN := Lib.hid hlen
  have hlv2 : (lv : Int) ≤ 6 := by omega
  have hlv0 : (0 : Int) ≤ (lv : Int) := by omega
  obtain ⟨na0, cap0, rfl, -, -, -⟩ := id hv
  clear hv IH hlen
  go_enter Tryd.func44, Tryd.ntmps44
  go_wp2_with fail
  go_loopg [1] 26 (fun g x wr => ∃ (ya : Option Addr) (yc : Nat) (ys : List AV) (rest : List UInt8), ys.length + g = 26 ∧ ys.length ≤ 25 ∧ Tail (.slice na0 b.length cap0) b x rest ∧ rest.length ≤ b.length ∧ MBox w 5 none 0 [] ya yc ys wr ∧ b = AV.keyAll false [] ys ++ rest ∧ AV.MadeAll ys)
  case atStart => exact ⟨none, 0, [], b, by simp, by simp, fun _ h => h, Nat.le_refl _, HM.out, by simp [AV.keyAll], by rw [AV.MadeAll]; trivial⟩
  case round =>
    obtain ⟨ya, yc, ys, rest, hg, hy25, htail, hrl, hm, hb, hmade⟩ := hrel
    have hsl := htail w HV.out
    have HG := Lib.hid hg
    have HTAIL := Lib.hid htail
    have HMB := Lib.hid hm
    have HB := Lib.hid hb
    have HMADE := Lib.hid hmade
    have HRL := Lib.hid hrl
    clear htail hm hb hmade hrl hg
    obtain ⟨p0, p1, p2, p3, p4⟩ := HMB.out.five
    obtain ⟨r0, r1, r2, r3, r4⟩ := HMB.out.second
    obtain ⟨z0, z1, z2, z3, z4⟩ := fz5 HMB.out.h2
    cases rest with
    | nil =>
      have NO := Lib.hid (fun ns xs r (h : AList (decide ((5 : Int) = 6)) lv b ns xs r) => show False by
        obtain ⟨_, _, _, h2⟩ := AList.cut h HMADE.out (by simp) HB.out
        exact h2.nil)
      obtain ⟨nz, cz, rfl, -, -, -⟩ := hsl
      simp only [List.length_nil]
      go_wp2_with fail
      obtain ⟨x1, x2, x3, x4, x5⟩ := HMB.out.fill (.int .i64 5) (.int .i64 0) (.string ⟨#[]⟩) (.slice none 0 0) (.slice ya ys.length yc) rfl
      obtain ⟨g0, g1, g2, g3, g4⟩ := box_cells x1
      exact bodyPost_ret (v := .tuple #[.agg #[.int .i64 5, .int .i64 0, .string ⟨#[]⟩, .slice none 0 0, .slice ya ys.length yc], .slice none 0 0, .bool false]) (by simp [results, Tryd.results44, go_sem, g0, g1, g2, g3, g4]) rfl ⟨x2, .inl ⟨AV.mk 5 0 ⟨#[]⟩ none 0 [] ya yc ys, _, rfl, NO.out⟩⟩
    | cons c rest =>
      obtain ⟨q, o, cap, rfl, hc0, hcap1, hcap2, na1, hrun1, hs1⟩ := hsl.next
      have HS1 := Lib.hid hs1
      have hc1 := cell_kept2 HMB.out.below hc0
      have HC0 := Lib.hid hc0
      have hl0 : (0 : Int) < (rest.length : Int) + 1 := by omega
      clear hs1 hc0
      by_cases h25 : ys.length = 25
      · have NO := Lib.hid (fun ns xs r (h : AList (decide ((5 : Int) = 6)) lv b ns xs r) => show False by
          obtain ⟨h1, _⟩ := AList.cut h HMADE.out (by simp) HB.out
          omega)
        have t1 : ¬ (ys.length : Int) ≤ 24 := by omega
        have t2 : (24 : Int) < (ys.length : Int) := by omega
        clear h25 hsl
        go_wp2_with fail
        obtain ⟨x1, x2, x3, x4, x5⟩ := HMB.out.fill (.int .i64 5) (.int .i64 0) (.string ⟨#[]⟩) (.slice none 0 0) (.slice ya ys.length yc) rfl
        obtain ⟨g0, g1, g2, g3, g4⟩ := box_cells x1
        exact bodyPost_ret (v := .tuple #[.agg #[.int .i64 5, .int .i64 0, .string ⟨#[]⟩, .slice none 0 0, .slice ya ys.length yc], .slice none 0 0, .bool false]) (by simp [results, Tryd.results44, go_sem, g0, g1, g2, g3, g4]) rfl ⟨x2, .inl ⟨AV.mk 5 0 ⟨#[]⟩ none 0 [] ya yc ys, _, rfl, NO.out⟩⟩
      have t1 : (ys.length : Int) ≤ 24 := by omega
      have t1n : ys.length < 100 := by omega
      have H24 : Hid (ys.length ≤ 24) := Lib.hid (by omega)
      clear h25
      by_cases hz : c = 0
      · subst hz
        have hcz : wr.cell? ⟨q, o, none⟩ = some (.int .u8 0) := hc1
        clear hc1 hsl
        have HT3 := Lib.hid (HTAIL.out.trans HS1.out)
        obtain ⟨x1, x2, x3, x4, x5⟩ := HMB.out.fill (.int .i64 5) (.int .i64 0) (.string ⟨#[]⟩) (.slice none 0 0) (.slice ya ys.length yc) rfl
        have hl := list_lies (k := 5) (by decide) (na := none) (nc := 0) (ns := []) (by simp) (by simp [maxLen]) (by simp) (fun _ _ => .inl rfl) x4
        have HL := Lib.hid (hl.wider (C' := w.heap.size) (by omega) (Nat.le_refl _))
        have HX1 : Hid ((((((wr.setCell ⟨w.heap.size + 1, 0, none⟩ (.int .i64 5)).setCell ⟨w.heap.size + 1, 1, none⟩ (.int .i64 0)).setCell ⟨w.heap.size + 1, 2, none⟩ (.string ⟨#[]⟩)).setCell ⟨w.heap.size + 1, 3, none⟩ (.slice none 0 0)).setCell ⟨w.heap.size + 1, 4, none⟩ (.slice ya ys.length yc)).drew.heap[w.heap.size + 1]? = some (.cells #[.int .i64 5, .int .i64 0, .string ⟨#[]⟩, .slice none 0 0, .slice ya ys.length yc] 25 (0, 0))) := Lib.hid x1
        have HX2 := Lib.hid x2.drew
        clear x1 x2 x3 x4 x5 hl
        go_upto_region 3 with fail
        go_region_with (fail)
        all_goals
          go_wp2_with fail
          obtain ⟨g0, g1, g2, g3, g4⟩ := box_cells HX1.out
          exact bodyPost_ret (v := .tuple #[.agg #[.int .i64 5, .int .i64 0, .string ⟨#[]⟩, .slice none 0 0, .slice ya ys.length yc], .slice na1 rest.length (cap - 1), .bool true]) (by simp [results, Tryd.results44, go_sem, g0, g1, g2, g3, g4]) rfl ⟨HX2.out, .inr ⟨none, 0, [], ya, yc, ys, rest, _, rfl, HB.out, HMADE.out, by simp, HL.out.later (fun _ _ _ => rfl), HT3.out⟩⟩
      · have hcz : ((c.toNat : Int) == 0) = false := by rw [beq_eq_false_iff_ne]; have := zero_lt_byte hz; omega
        have HZ := Lib.hid hz
        have VAL := Lib.hid (HIH.out wr _ _ (hsl.below HMB.out.below) (by have := HRL.out; have := HLEN.out; omega))
        clear hz hsl
        go_wp2_with fail
        refine (VAL.out).mono ?_
        rintro e w2 ⟨hb2, ⟨u, zz, rfl, hno⟩ | ⟨u, r, zz, rfl, hkey, humade, hlies, htl⟩⟩
        · have NO := Lib.hid (fun ns xs r (h : AList (decide ((5 : Int) = 6)) lv b ns xs r) => show False by
            obtain ⟨_, _, _, h2⟩ := AList.cut h HMADE.out (by simp) HB.out
            obtain ⟨x, l, f1, f2, f3⟩ := AList.head h2 HZ.out
            exact hno x l f1 f2 f3)
          obtain ⟨k', n', s', na', nc', ns', xa', xc', xs'⟩ := u
          have HM3 := Lib.hid ((HMB.out.later hb2).later ((Below.refl _ w2).alloc (Nat.le_refl _) (.cells #[.int .i64 k', .int .i64 n', .string s', .slice na' ns'.length nc', .slice xa' xs'.length xc'] 25)))
          clear hno hb2 p0 p1 p2 p3 p4 r0 r1 r2 r3 r4 z0 z1 z2 z3 z4
          simp only [AV.val, AV.row]
          go_upto_region 14 with fail
          generalize w2.alloc (.cells #[.int .i64 k', .int .i64 n', .string s', .slice na' ns'.length nc', .slice xa' xs'.length xc'] 25) = W3 at *
          obtain ⟨p0, p1, p2, p3, p4⟩ := HM3.out.five
          obtain ⟨r0, r1, r2, r3, r4⟩ := HM3.out.second
          obtain ⟨z0, z1, z2, z3, z4⟩ := fz5 HM3.out.h2
          go_wp2_with fail
          obtain ⟨x1, x2, x3, x4, x5⟩ := HM3.out.fill (.int .i64 5) (.int .i64 0) (.string ⟨#[]⟩) (.slice none 0 0) (.slice ya ys.length yc) rfl
          obtain ⟨g0, g1, g2, g3, g4⟩ := box_cells x1
          exact bodyPost_ret (v := .tuple #[.agg #[.int .i64 5, .int .i64 0, .string ⟨#[]⟩, .slice none 0 0, .slice ya ys.length yc], .slice none 0 0, .bool false]) (by simp [results, Tryd.results44, go_sem, g0, g1, g2, g3, g4]) rfl ⟨x2, .inl ⟨AV.mk 5 0 ⟨#[]⟩ none 0 [] ya yc ys, _, rfl, NO.out⟩⟩
        · obtain ⟨k', n', s', na', nc', ns', xa', xc', xs'⟩ := u
          have HA := Lib.hid ((Below.refl _ w2).alloc (Nat.le_refl _) (.cells #[.int .i64 k', .int .i64 n', .string s', .slice na' ns'.length nc', .slice xa' xs'.length xc'] 25))
          have HM2 := Lib.hid (HMB.out.later hb2)
          have HM3 := Lib.hid (HM2.out.later HA.out)
          have HLI := Lib.hid (hlies.later fun k _ hD => HA.out.block k hD)
          have HBX := Lib.hid (heap_alloc_new w2 (.cells #[.int .i64 k', .int .i64 n', .string s', .slice na' ns'.length nc', .slice xa' xs'.length xc'] 25))
          have HSZ : Hid (w2.heap.size + 1 = (w2.alloc (.cells #[.int .i64 k', .int .i64 n', .string s', .slice na' ns'.length nc', .slice xa' xs'.length xc'] 25)).heap.size) := Lib.hid (by simp)
          have HF := Lib.hid (own_lt (C := wr.heap.size) (D := w2.heap.size) HMB.out.row.own (Nat.le_refl _))
          have HKEY : Hid (b = AV.keyAll false [] (ys ++ [AV.mk k' n' s' na' nc' ns' xa' xc' xs']) ++ r) := Lib.hid (by rw [HB.out, keyAll_snoc, hkey, List.append_assoc])
          have HMD := Lib.hid (madeAll_snoc HMADE.out humade)
          have HTL := Lib.hid (HTAIL.out.trans htl)
          clear hkey humade hlies htl hb2 p0 p1 p2 p3 p4 r0 r1 r2 r3 r4 z0 z1 z2 z3 z4 hc1 hcz hrun1
          simp only [AV.val, AV.row]
          go_upto_region 15 with fail
          have HFU := Lib.hid (own_lt (C := wr.heap.size) (D := w2.heap.size) HMB.out.names (Nat.le_refl _))
          have hC := HMB.out.lt
          have HD : Hid (w2.heap.size ≤ (w2.alloc (.cells #[.int .i64 k', .int .i64 n', .string s', .slice na' ns'.length nc', .slice xa' xs'.length xc'] 25)).heap.size) := Lib.hid HA.out.size
          generalize w2.alloc (.cells #[.int .i64 k', .int .i64 n', .string s', .slice na' ns'.length nc', .slice xa' xs'.length xc'] 25) = W3 at *
          obtain ⟨a0, a1, a2, a3, a4⟩ := box_cells HBX.out
          obtain ⟨p0, p1, p2, p3, p4⟩ := HM3.out.five
          have HB3 : Hid (w.heap.size + 2 ≤ W3.heap.size) := Lib.hid HM3.out.lt
          go_wp2_with (at_builtin; refine wpList_dval rfl _ _ rfl HM3.out.row HB3.out HM3.out.names rfl (AV.mk k' n' s' na' nc' ns' xa' xc' xs') _ rfl rfl HLI.out hC HD.out HF.out HFU.out t1n ?_)
          intro ya4 yc4 W4 hR4 hb4 hn4
          have hq4 : W4.heap[w.heap.size]? = some (.cells #[.int .i64 5, .int .i64 0, .string ⟨#[]⟩, .slice none 0 0, .slice ya ys.length yc] 25 (0, 0)) := by rw [hb4.block _ (by omega)]; exact HM3.out.h1
          obtain ⟨b0, b1, b2, b3, b4⟩ := box_cells hq4
          obtain ⟨f0, f1, f2, f3, f4⟩ := fz5 hq4
          have HM4 := Lib.hid (HM3.out.item hR4 hb4 hn4)
          clear hq4 hR4 hb4 hn4 a0 a1 a2 a3 a4 p0 p1 p2 p3 p4
          go_wp2_with fail
          go_roundg (gk - 1)
          case measure => have := HG.out; have := H24.out; omega
          case rel => exact ⟨ya4, yc4, _, r, by have := HG.out; have := H24.out; simp; omega, by have := H24.out; simp; omega, HTL.out, by have := congrArg List.length HKEY.out; rw [List.length_append] at this; omega, by have := HM4.out; simpa using this, HKEY.out, HMD.out⟩
end Go.Proofs.YtcbfbmidekmboaaDoor
