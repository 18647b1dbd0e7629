/- A value read by the document: a list; and so whatever the bytes are; no condition but that there are not more than a hundred thousand. -/
/- The document's Read, whatever the bytes are; no condition but that there are not more than a hundred thousand. -/
/- KeysRead: all bytes are read as the value whose key they begin with, or refused: the walk of the statement; no condition of ours. -/
import Derived.Test.YtcbfbmidekmboaaDoorRfo
import Derived.Test.YtcbfbmidekmboaaDoorAwk
import Derived.Test.YtcbfbmidekmboaaDoorFewl
namespace Go.Proofs.YtcbfbmidekmboaaDoor
open Go.ChangeShapes Go.WideShapes Go.Deep Go.RowKit Go.Lib

theorem list_few {k n : Int} {s : ByteArray} {na : Option Addr} {nc : Nat} {ns : List ByteArray} {xa : Option Addr} {xc : Nat} {xs : List AV} {lv : Nat} (h : AV.formedJ (.mk k n s na nc ns xa xc xs) lv = true) (hk : k = 5 ∨ k = 6) : xs.length ≤ 24 := by
  rw [AV.formedJ] at h
  have k0 : ¬ (k = 0 ∨ k = 1 ∨ k = 2) := by omega
  have k3 : ¬ k = 3 := by omega
  have k4 : ¬ k = 4 := by omega
  by_cases h0 : lv = 0
  · rw [if_pos h0] at h; cases h
  rw [if_neg h0, if_neg k0, if_neg k3, if_neg k4] at h
  rcases hk with rfl | rfl
  · simp at h
    omega
  · simp at h
    omega

/-- A list's key ahead. -/
theorem list_key {k : Int} {c : UInt8} {b : List UInt8} {lv : Nat} (hk : k = 5 ∨ k = 6) (hc : (c.toNat : Int) - 1 = k) (hno : ∀ ns xs r, ¬ AList (decide (k = 6)) lv b ns xs r) (t : AV) (r : List UInt8) (hf : AV.formedJ t (lv + 1) = true) (_hm : AV.Made t) : c :: b ≠ AV.key t ++ r := by
  obtain ⟨k', n, s, na, nc, ns, xa, xc, xs⟩ := t
  intro e
  have hp := AV.parts hf
  rw [AV.key, List.cons_append, List.cons.injEq] at e
  obtain ⟨e1, e2⟩ := e
  have e3 := congrArg UInt8.toNat e1
  rw [toNat_byte] at e3
  obtain rfl : k' = k := by rcases hp with ⟨hk', _⟩ | ⟨hk', _⟩ | ⟨hk', _⟩ | ⟨hk', _⟩ | ⟨hk', _⟩ <;> omega
  have hfew := list_few hf hk
  rw [AV.Made] at _hm
  obtain ⟨_, _, _, hns, _, hma⟩ := _hm
  rw [if_neg (by omega), if_neg (by omega), if_pos hk, List.append_assoc] at e2
  have hall : AV.allJ xs lv = true := by
    rcases hp with ⟨hk', _⟩ | ⟨hk', _⟩ | ⟨hk', _⟩ | ⟨_, _, _, _, h⟩ | ⟨_, _, _, _, h⟩
    · omega
    · omega
    · omega
    · exact h
    · exact h
  exact hno ns xs r ⟨hall, hma, by simpa using hns, hfew, e2⟩

theorem list_head {k : Int} {c : UInt8} {b r : List UInt8} {ma : Option Addr} {mc : Nat} {ns : List ByteArray} {ya : Option Addr} {yc : Nat} {ys : List AV} (hk : k = 5 ∨ k = 6) (hc : (c.toNat : Int) - 1 = k) (h : b = AV.keyAll (decide (k = 6)) ns ys ++ ([0] ++ r)) (hm : AV.MadeAll ys) (hn : if decide (k = 6) then ns.length = ys.length else ns = []) :
    c :: b = AV.key (.mk k 0 ⟨#[]⟩ ma mc ns ya yc ys) ++ r ∧ AV.Made (.mk k 0 ⟨#[]⟩ ma mc ns ya yc ys) := by
  refine ⟨?_, ?_⟩
  · rw [AV.key, if_neg (by omega), if_neg (by omega), if_pos hk, h]
    have e : (k + 1).toNat = c.toNat := by omega
    rw [e, UInt8.ofNat_toNat]
    simp
  · rw [AV.Made]
    exact ⟨by omega, by rw [if_neg (by omega)], .inr rfl, by simpa using hn, by omega, hm⟩

set_option maxHeartbeats 4000000 in
set_option maxRecDepth 100000 in
theorem dval_list (k : Int) (hk : k = 5 ∨ k = 6) (lv : Nat) (hlv6 : lv ≤ 6) (w : World) (v : Value) (c : UInt8) (b : List UInt8) (hc : (c.toNat : Int) - 1 = k) (hv : Sl w v (c :: b))
    (MEM : ∀ (W : World) (z : Value), Sl W z b → Calls Tryd.prog 44 #[.agg #[.int .i64 k, .int .i64 0, .string ⟨#[]⟩, .slice none 0 0, .slice none 0 0], z, .int .i64 ((lv : Int) + 1)] W (MemGave z k b lv W)) :
    Calls Tryd.prog 28 #[v, .int .i64 ((lv : Int) + 1)] w (ValGave v (c :: b) (lv + 1) w) := by
  have HV := Lib.hid (VBox.new w #[.int .i64 0, .int .i64 0, .string ⟨#[]⟩, .slice none 0 0, .slice none 0 0] #[.int .i64 k, .int .i64 0, .string ⟨#[]⟩, .slice none 0 0, .slice none 0 0])
  obtain ⟨q, o, cap, rfl, hc0, hcap1, hcap2, na1, hrun1, hs1⟩ := hv.next
  have HMEM := Lib.hid (fun W (h : Below w.heap.size w W) => MEM W _ ((hs1 w hv).below h))
  have HS1 := Lib.hid hs1
  have HC0 := Lib.hid hc0
  have HKK := Lib.hid hk
  have HC := Lib.hid hc
  have e1 : ((b.length : Int) + 1 == 0) = false := by rw [beq_eq_false_iff_ne]; omega
  have g1 : ((lv : Int) + 1 == 0) = false := by rw [beq_eq_false_iff_ne]; omega
  have k3 : (k == 3) = false := by rw [beq_eq_false_iff_ne]; omega
  have k4 : (k == 4) = false := by rw [beq_eq_false_iff_ne]; omega
  have i1 : ¬ (c.toNat : Int) < 1 := by omega
  have i2 : ¬ (7 : Int) < (c.toNat : Int) := by omega
  have hlv2 : (lv : Int) ≤ 6 := by omega
  have hlv0 : (0 : Int) ≤ (lv : Int) := by omega
  have hc1 : (w.alloc (.cells #[.int .i64 0, .int .i64 0, .string ⟨#[]⟩, .slice none 0 0, .slice none 0 0] 25)).cell? ⟨q, o, none⟩ = some (.int .u8 (c.toNat : Int)) := cell_kept2 ((Below.refl _ _).alloc (Nat.le_refl _) _) HC0.out
  clear hv hs1 hc0 MEM hk
  go_enter Tryd.func28, Tryd.ntmps28
  go_upto_region 4 with fail
  generalize (w.alloc (.cells #[.int .i64 0, .int .i64 0, .string ⟨#[]⟩, .slice none 0 0, .slice none 0 0] 25)).alloc (.cells #[.int .i64 k, .int .i64 0, .string ⟨#[]⟩, .slice none 0 0, .slice none 0 0] 25) = W1 at *
  clear hc1 hc
  obtain ⟨p0, p1, p2, p3, p4⟩ := HV.out.five
  rcases HKK.out with h5 | h6
  · subst h5
    go_wp2_with fail
    refine (HMEM.out _ HV.out.below).mono ?_
    rintro e w2 ⟨hb2, ⟨u, z, rfl, hno⟩ | ⟨ma, mc, ns, ya, yc, ys, r, z, rfl, hb, hma, hnn, hlies, htl⟩⟩
    · have HV2 := Lib.hid (HV.out.later hb2)
      have NO := Lib.hid (fun t r hf hm => list_key (lv := lv) (.inl rfl) HC.out hno t r hf hm)
      obtain ⟨k', n', s', na', nc', ns', xa', xc', xs'⟩ := u
      clear hb2 hno p0 p1 p2 p3 p4
      simp only [AV.val, AV.row]
      obtain ⟨r0, r1, r2, r3, r4⟩ := HV2.out.first
      obtain ⟨z0, z1, z2, z3, z4⟩ := fz5 HV2.out.h1
      have HV4 := Lib.hid (HV2.out.fill (.int .i64 k') (.int .i64 n') (.string s') (.slice na' ns'.length nc') (.slice xa' xs'.length xc'))
      go_wp2_with fail
      obtain ⟨g0, g1', g2, g3, g4⟩ := HV4.out.first
      exact bodyPost_ret (v := .tuple #[.agg #[.int .i64 k', .int .i64 n', .string s', .slice na' ns'.length nc', .slice xa' xs'.length xc'], z, .bool false]) (by simp [results, Tryd.results28, go_sem, g0, g1', g2, g3, g4]) rfl ⟨HV4.out.below, .inl ⟨AV.mk k' n' s' na' nc' ns' xa' xc' xs', _, rfl, NO.out⟩⟩
    · have HV2 := Lib.hid (HV.out.later hb2)
      have HH := Lib.hid (list_head (ma := ma) (mc := mc) (ya := ya) (yc := yc) (.inl rfl) HC.out hb hma hnn)
      have HT := Lib.hid (HS1.out.trans htl)
      have HL := Lib.hid hlies
      have HZ := Lib.hid hb2.size
      have HV1 := HV.out.lt
      clear hb2 hb hma hnn hlies htl p0 p1 p2 p3 p4
      simp only [AV.val, AV.row]
      obtain ⟨r0, r1, r2, r3, r4⟩ := HV2.out.first
      obtain ⟨z0, z1, z2, z3, z4⟩ := fz5 HV2.out.h1
      have HV4 := Lib.hid (HV2.out.fill (.int .i64 5) (.int .i64 0) (.string ⟨#[]⟩) (.slice ma ns.length mc) (.slice ya ys.length yc))
      have HL4 := Lib.hid (HL.out.later (w' := ((((w2.setCell ⟨w.heap.size, 0, none⟩ (.int .i64 5)).setCell ⟨w.heap.size, 1, none⟩ (.int .i64 0)).setCell ⟨w.heap.size, 2, none⟩ (.string ⟨#[]⟩)).setCell ⟨w.heap.size, 3, none⟩ (.slice ma ns.length mc)).setCell ⟨w.heap.size, 4, none⟩ (.slice ya ys.length yc)) fun g hC hD => ((Kept.refl w.heap.size w2).five (.int .i64 5) (.int .i64 0) (.string ⟨#[]⟩) (.slice ma ns.length mc) (.slice ya ys.length yc)).block g hD (by omega))
      go_wp2_with fail
      obtain ⟨g0, g1', g2, g3, g4⟩ := HV4.out.first
      exact bodyPost_ret (v := .tuple #[.agg #[.int .i64 5, .int .i64 0, .string ⟨#[]⟩, .slice ma ns.length mc, .slice ya ys.length yc], z, .bool true]) (by simp [results, Tryd.results28, go_sem, g0, g1', g2, g3, g4]) rfl ⟨HV4.out.below, .inr ⟨AV.mk 5 0 ⟨#[]⟩ ma mc ns ya yc ys, r, _, rfl, HH.out.1, HH.out.2, HL4.out.wider HV.out.below.size (by simp [World.setCell]), HT.out⟩⟩
  · subst h6
    go_wp2_with fail
    refine (HMEM.out _ HV.out.below).mono ?_
    rintro e w2 ⟨hb2, ⟨u, z, rfl, hno⟩ | ⟨ma, mc, ns, ya, yc, ys, r, z, rfl, hb, hma, hnn, hlies, htl⟩⟩
    · have HV2 := Lib.hid (HV.out.later hb2)
      have NO := Lib.hid (fun t r hf hm => list_key (lv := lv) (.inr rfl) HC.out hno t r hf hm)
      obtain ⟨k', n', s', na', nc', ns', xa', xc', xs'⟩ := u
      clear hb2 hno p0 p1 p2 p3 p4
      simp only [AV.val, AV.row]
      obtain ⟨r0, r1, r2, r3, r4⟩ := HV2.out.first
      obtain ⟨z0, z1, z2, z3, z4⟩ := fz5 HV2.out.h1
      have HV4 := Lib.hid (HV2.out.fill (.int .i64 k') (.int .i64 n') (.string s') (.slice na' ns'.length nc') (.slice xa' xs'.length xc'))
      go_wp2_with fail
      obtain ⟨g0, g1', g2, g3, g4⟩ := HV4.out.first
      exact bodyPost_ret (v := .tuple #[.agg #[.int .i64 k', .int .i64 n', .string s', .slice na' ns'.length nc', .slice xa' xs'.length xc'], z, .bool false]) (by simp [results, Tryd.results28, go_sem, g0, g1', g2, g3, g4]) rfl ⟨HV4.out.below, .inl ⟨AV.mk k' n' s' na' nc' ns' xa' xc' xs', _, rfl, NO.out⟩⟩
    · have HV2 := Lib.hid (HV.out.later hb2)
      have HH := Lib.hid (list_head (ma := ma) (mc := mc) (ya := ya) (yc := yc) (.inr rfl) HC.out hb hma hnn)
      have HT := Lib.hid (HS1.out.trans htl)
      have HL := Lib.hid hlies
      have HZ := Lib.hid hb2.size
      have HV1 := HV.out.lt
      clear hb2 hb hma hnn hlies htl p0 p1 p2 p3 p4
      simp only [AV.val, AV.row]
      obtain ⟨r0, r1, r2, r3, r4⟩ := HV2.out.first
      obtain ⟨z0, z1, z2, z3, z4⟩ := fz5 HV2.out.h1
      have HV4 := Lib.hid (HV2.out.fill (.int .i64 6) (.int .i64 0) (.string ⟨#[]⟩) (.slice ma ns.length mc) (.slice ya ys.length yc))
      have HL4 := Lib.hid (HL.out.later (w' := ((((w2.setCell ⟨w.heap.size, 0, none⟩ (.int .i64 6)).setCell ⟨w.heap.size, 1, none⟩ (.int .i64 0)).setCell ⟨w.heap.size, 2, none⟩ (.string ⟨#[]⟩)).setCell ⟨w.heap.size, 3, none⟩ (.slice ma ns.length mc)).setCell ⟨w.heap.size, 4, none⟩ (.slice ya ys.length yc)) fun g hC hD => ((Kept.refl w.heap.size w2).five (.int .i64 6) (.int .i64 0) (.string ⟨#[]⟩) (.slice ma ns.length mc) (.slice ya ys.length yc)).block g hD (by omega))
      go_wp2_with fail
      obtain ⟨g0, g1', g2, g3, g4⟩ := HV4.out.first
      exact bodyPost_ret (v := .tuple #[.agg #[.int .i64 6, .int .i64 0, .string ⟨#[]⟩, .slice ma ns.length mc, .slice ya ys.length yc], z, .bool true]) (by simp [results, Tryd.results28, go_sem, g0, g1', g2, g3, g4]) rfl ⟨HV4.out.below, .inr ⟨AV.mk 6 0 ⟨#[]⟩ ma mc ns ya yc ys, r, _, rfl, HH.out.1, HH.out.2, HL4.out.wider HV.out.below.size (by simp [World.setCell]), HT.out⟩⟩

theorem dv_step (lv : Nat) (hlv : lv ≤ 5) (IH : DvAll lv) : DvAll (lv + 1) := fun w v b hv hlen => by
  cases b with
  | nil => exact dval_none w v _ hv
  | cons c b =>
    have hlen2 : b.length ≤ 100000 := by simp only [List.length_cons] at hlen; omega
    by_cases h1 : c.toNat < 1 ∨ 7 < c.toNat
    · exact dval_kind w v _ c b (by omega) h1 hv
    by_cases h3 : c.toNat ≤ 3
    · exact dval_word w v _ c b (by omega) ⟨by omega, h3⟩ hv
    by_cases h4 : (c.toNat : Int) = 4
    · by_cases h8 : b.length < 8
      · exact dval_short w v _ c b (by omega) h4 h8 hv
      · exact dval_num w v _ c b (by omega) h4 (by omega) hlen2 hv
    by_cases h5 : (c.toNat : Int) = 5
    · exact dval_text w v _ c b (by omega) h5 hlen2 hv
    have e : ((lv + 1 : Nat) : Int) = (lv : Int) + 1 := by omega
    rw [e]
    by_cases h6 : (c.toNat : Int) = 6
    · exact dval_list 5 (.inl rfl) lv (by omega) w v c b (by omega) hv fun W z hz => darr_any lv (by omega) IH W z b hz hlen2
    · exact dval_list 6 (.inr rfl) lv (by omega) w v c b (by omega) hv fun W z hz => dobj_any lv (by omega) IH W z b hz hlen2

/-- The document's value, whatever the bytes are. -/
theorem dv_all : ∀ lv : Nat, lv ≤ 6 → DvAll lv
  | 0, _ => fun w v b hv _ => by
    cases b with
    | nil => exact dval_none w v _ hv
    | cons c b => exact dval_level w v c b hv
  | lv + 1, h => dv_step lv (by omega) (dv_all lv (by omega))
end Go.Proofs.YtcbfbmidekmboaaDoor

namespace Go.Proofs.YtcbfbmidekmboaaDoor
open Go.ChangeShapes Go.WideShapes Go.Deep Go.RowKit Go.Lib

/-- The answer's box. -/
structure ABox (w : World) (W : World) : Prop where
  h1 : W.heap[w.heap.size]? = some (.cells #[.int .i64 0, .int .i64 0, .string ⟨#[]⟩, .slice none 0 0, .slice none 0 0] 25 (0, 0))
  below : Below w.heap.size w W

theorem ABox.new (w : World) : ABox w (w.alloc (.cells #[.int .i64 0, .int .i64 0, .string ⟨#[]⟩, .slice none 0 0, .slice none 0 0] 25)) := ⟨heap_alloc_new w _, (Below.refl _ _).alloc (Nat.le_refl _) _⟩
theorem ABox.later {w W W' : World} (h : ABox w W) (hb : Below W.heap.size W W') : ABox w W' := ⟨box_later h.h1 hb, h.below.trans (hb.mono h.below.size)⟩
theorem ABox.fill {w W : World} (h : ABox w W) (v0 v1 v2 v3 v4 : Value) {W5 : World} (e : W5 = ((((W.setCell ⟨w.heap.size, 0, none⟩ v0).setCell ⟨w.heap.size, 1, none⟩ v1).setCell ⟨w.heap.size, 2, none⟩ v2).setCell ⟨w.heap.size, 3, none⟩ v3).setCell ⟨w.heap.size, 4, none⟩ v4) :
    W5.heap[w.heap.size]? = some (.cells #[v0, v1, v2, v3, v4] 25 (0, 0)) ∧ Kept w.heap.size W W5 ∧ Below w.heap.size w W5 := by
  subst e
  have hk := (Kept.refl w.heap.size W).five v0 v1 v2 v3 v4
  exact ⟨five_box h.h1 v0 v1 v2 v3 v4, hk, h.below.trans (hk.below (Nat.le_refl _) h.below.size)⟩

theorem dv_six : ∀ (w : World) (v : Value) (b : List UInt8), Sl w v b → b.length ≤ 100000 → Calls Tryd.prog 28 #[v, .int .i64 6] w (ValGave v b 6 w) := dv_all 6 (Nat.le_refl _)

/-- What Read answers where there is nothing. -/
def ReadNone (w : World) : Ending → World → Prop := fun e w' => e = .returned (.tuple #[(AV.num 0 0).val, .int .i64 0, .int .i64 11]) ∧ Below w.heap.size w w'

set_option maxHeartbeats 4000000 in
set_option maxRecDepth 100000 in
theorem dRead_any (w : World) (v0 : Value) (b : List UInt8) (hv : Sl w v0 b) (hlen : b.length ≤ 2000) :
    Calls Tryd.prog 15 #[v0] w (fun e w' => ((∀ (u : AV) (r : List UInt8), AV.formedJ u 6 = true → (∃ W, u.In W) → b ≠ AV.key u ++ r) ∧ ReadNone w e w') ∨
      ∃ (u : AV) (r : List UInt8), b = AV.key u ++ r ∧ AV.Made u ∧ AV.formedJ u 6 = true ∧ u.In w' ∧ e = .returned (.tuple #[u.val, .int .i64 ((AV.key u).length : Int), .int .i64 0]) ∧ Below w.heap.size w w') := by
  have HA := Lib.hid (ABox.new w)
  have VAL := Lib.hid (fun W (h : Below w.heap.size w W) => dv_six W v0 b (hv.below h) (by omega))
  have HV := Lib.hid hv
  have HLEN := Lib.hid hlen
  obtain ⟨na0, cap0, rfl, -, -, -⟩ := id hv
  have hb2 : (b.length : Int) ≤ 2000 := by omega
  clear hv hlen
  go_enter Tryd.func15, Tryd.ntmps15
  go_wp2_with fail
  generalize w.alloc (.cells #[.int .i64 0, .int .i64 0, .string ⟨#[]⟩, .slice none 0 0, .slice none 0 0] 25) = W0 at *
  refine (VAL.out _ HA.out.below).mono ?_
  rintro e w2 ⟨hb2, ⟨u, z, rfl, hno⟩ | ⟨u, r, z, rfl, hkey, hmade, hlies, htl⟩⟩
  · have NO : Hid (∀ (u : AV) (r : List UInt8), AV.formedJ u 6 = true → (∃ W, u.In W) → b ≠ AV.key u ++ r) := Lib.hid (fun t r hf ⟨W, hi⟩ => hno t r hf (AV.made_of t 6 W hf hi))
    obtain ⟨k', n', s', na', nc', ns', xa', xc', xs'⟩ := u
    have HA2 := Lib.hid ((HA.out.later hb2).later ((Below.refl _ w2).alloc (Nat.le_refl _) (.cells #[.int .i64 k', .int .i64 n', .string s', .slice na' ns'.length nc', .slice xa' xs'.length xc'] 25)))
    clear hno hb2
    simp only [AV.val, AV.row]
    go_upto_region 2 with fail
    generalize w2.alloc (.cells #[.int .i64 k', .int .i64 n', .string s', .slice na' ns'.length nc', .slice xa' xs'.length xc'] 25) = W3 at *
    obtain ⟨r0, r1, r2, r3, r4⟩ := box_cells HA2.out.h1
    obtain ⟨z0, z1, z2, z3, z4⟩ := fz5 HA2.out.h1
    go_wp2_with fail
    obtain ⟨x1, x2, x3⟩ := HA2.out.fill (.int .i64 0) (.int .i64 0) (.string ⟨#[]⟩) (.slice none 0 0) (.slice none 0 0) rfl
    obtain ⟨g0, g1, g2, g3, g4⟩ := box_cells x1
    exact bodyPost_ret (v := .tuple #[.agg #[.int .i64 0, .int .i64 0, .string ⟨#[]⟩, .slice none 0 0, .slice none 0 0], .int .i64 0, .int .i64 11]) (by simp [results, Tryd.results15, go_sem, g0, g1, g2, g3, g4]) rfl (.inl ⟨NO.out, rfl, x3⟩)
  · have hlz := htl w HV.out
    obtain ⟨nz, cz, rfl, -, -, -⟩ := hlz
    have hkl : b.length = (AV.key u).length + r.length := by rw [hkey, List.length_append]
    have hki : (b.length : Int) - (r.length : Int) = ((AV.key u).length : Int) := by omega
    have HKI := Lib.hid hki
    have HKEY := Lib.hid hkey
    have HMADE := Lib.hid hmade
    have HRL : Hid (r.length ≤ b.length) := Lib.hid (by omega)
    have hal := (Below.refl w2.heap.size w2).alloc (Nat.le_refl _) (.cells u.row.toArray 25)
    have hin3 := (hlies.later fun k _ hD => hal.block k hD)
    have HIN := Lib.hid hin3
    have FORM := Lib.hid (rFormed_any u _ hin3.here)
    have HBX := Lib.hid (heap_alloc_new w2 (.cells u.row.toArray 25))
    have HZ0 := Lib.hid HA.out.below.size
    have HA2 := Lib.hid ((HA.out.later hb2).later hal)
    have HSZ : Hid (W0.heap.size ≤ w2.heap.size ∧ w.heap.size < W0.heap.size) := Lib.hid ⟨hb2.size, (Array.getElem?_eq_some_iff.1 HA.out.h1).1⟩
    obtain ⟨F, hF⟩ : ∃ F, AV.formedJ u 6 = F := ⟨_, rfl⟩
    rw [hF] at FORM
    have HF := Lib.hid hF
    have NO : Hid (F = false → ∀ (t : AV) (r' : List UInt8), AV.formedJ t 6 = true → (∃ W, t.In W) → b ≠ AV.key t ++ r') := Lib.hid (fun h t r' hf ⟨W, hi⟩ e => by
      obtain ⟨h1, _⟩ := AV.key_once t u r' r (AV.made_of t 6 W hf hi) HMADE.out (e.symm.trans HKEY.out)
      have := AV.formed_alike t u 6 h1
      rw [hf, HF.out, h] at this
      cases this)
    obtain ⟨K, hK⟩ : ∃ K, (AV.key u).length = K := ⟨_, rfl⟩
    rw [hK] at hki
    have HKL := Lib.hid hK
    obtain ⟨k', n', s', na', nc', ns', xa', xc', xs'⟩ := u
    clear hkl hkey hmade hlies htl hb2 hal hin3 hF hK HKI
    simp only [AV.val, AV.row] at FORM HBX HIN HA2 ⊢
    go_upto_region 2 with fail
    generalize w2.alloc (.cells #[.int .i64 k', .int .i64 n', .string s', .slice na' ns'.length nc', .slice xa' xs'.length xc'] 25) = W3 at *
    obtain ⟨a0, a1, a2, a3, a4⟩ := box_cells HBX.out
    go_wp2_with fail
    refine (FORM.out).mono ?_
    rintro e w4 ⟨rfl, hb4⟩
    have HA4 := Lib.hid (HA2.out.later hb4)
    have HBX4 := Lib.hid (box_later HBX.out hb4)
    clear a0 a1 a2 a3 a4
    obtain ⟨a0, a1, a2, a3, a4⟩ := box_cells HBX4.out
    obtain ⟨r0, r1, r2, r3, r4⟩ := box_cells HA4.out.h1
    obtain ⟨z0, z1, z2, z3, z4⟩ := fz5 HA4.out.h1
    cases F
    · clear hb4
      go_wp2_with fail
      obtain ⟨x1, x2, x3⟩ := HA4.out.fill (.int .i64 0) (.int .i64 0) (.string ⟨#[]⟩) (.slice none 0 0) (.slice none 0 0) rfl
      obtain ⟨g0, g1, g2, g3, g4⟩ := box_cells x1
      exact bodyPost_ret (v := .tuple #[.agg #[.int .i64 0, .int .i64 0, .string ⟨#[]⟩, .slice none 0 0, .slice none 0 0], .int .i64 0, .int .i64 11]) (by simp [results, Tryd.results15, go_sem, g0, g1, g2, g3, g4]) rfl (.inl ⟨NO.out (by first | rfl | trivial), rfl, x3⟩)
    · have HB4 := Lib.hid hb4
      clear hb4
      have hr0 : (r.length : Int) ≤ (b.length : Int) := by have := HRL.out; omega
      go_wp2_with fail
      obtain ⟨x1, x2, x3⟩ := HA4.out.fill (.int .i64 k') (.int .i64 n') (.string s') (.slice na' ns'.length nc') (.slice xa' xs'.length xc') rfl
      obtain ⟨g0, g1, g2, g3, g4⟩ := box_cells x1
      refine bodyPost_ret (v := .tuple #[.agg #[.int .i64 k', .int .i64 n', .string s', .slice na' ns'.length nc', .slice xa' xs'.length xc'], .int .i64 (K : Int), .int .i64 0]) (by simp [results, Tryd.results15, go_sem, g0, g1, g2, g3, g4]) rfl (.inr ⟨AV.mk k' n' s' na' nc' ns' xa' xc' xs', r, HKEY.out, HMADE.out, HF.out, ?_, by rw [HKL.out]; rfl, x3⟩)
      have hs := HSZ.out
      exact (((HIN.out.later fun k _ hD => HB4.out.block k (by have := HBX.out; exact Nat.lt_trans hD (Array.getElem?_eq_some_iff.1 this).1)).later fun k hC hD => x2.block k (by have := HB4.out.size; have := (Array.getElem?_eq_some_iff.1 HBX.out).1; omega) (by omega)).here)
end Go.Proofs.YtcbfbmidekmboaaDoor

namespace Go.Proofs.YtcbfbmidekmboaaDoor
open Go.ChangeShapes Go.WideShapes Go.Deep Go.RowKit Go.Lib

theorem eqvAll_two : ∀ (ts us vs : List AV), (∀ t ∈ ts, ∀ u v : AV, AV.eqv t u = true → AV.eqv t v = true → AV.eqv u v = true) → ts.length = us.length → ts.length = vs.length → AV.eqvAll ts us = true → AV.eqvAll ts vs = true → AV.eqvAll us vs = true
  | [], [], [], _, _, _, _, _ => rfl
  | t :: ts, u :: us, v :: vs, ih, hu, hv, h, h' => by
    rw [AV.eqvAll, Bool.and_eq_true] at h h'
    rw [AV.eqvAll, Bool.and_eq_true]
    exact ⟨ih t (by simp) u v h.1 h'.1, eqvAll_two ts us vs (fun z hz => ih z (by simp [hz])) (by simpa using hu) (by simpa using hv) h.2 h'.2⟩

/-- Two that are alike to a third are alike. -/
theorem eqv_two : ∀ t u v : AV, AV.eqv t u = true → AV.eqv t v = true → AV.eqv u v = true := by
  intro t
  induction t using AV.ind with
  | h k n s na nc ns xa xc xs ih =>
    intro u v hu hv
    obtain ⟨k1, n1, s1, na1, nc1, ns1, xa1, xc1, xs1⟩ := u
    obtain ⟨k2, n2, s2, na2, nc2, ns2, xa2, xc2, xs2⟩ := v
    obtain ⟨rfl, rfl, rfl, rfl, hl1, hx1⟩ := AV.eqv_parts hu
    obtain ⟨rfl, rfl, rfl, rfl, hl2, hx2⟩ := AV.eqv_parts hv
    exact AV.eqv_mk (hl1.symm.trans hl2) (eqvAll_two xs xs1 xs2 ih hl1 hl2 hx1 hx2)

/-- What both readers answer: a value alike to this, how many bytes, which error. -/
def Got (T : AV) (n : Nat) (E : Int) (W : World) : Ending → World → Prop := fun e w' => ∃ u : AV, e = .returned (.tuple #[u.val, .int .i64 (n : Int), .int .i64 E]) ∧ AV.eqv T u = true ∧ u.In w' ∧ Below W.heap.size W w'

theorem zero_in (W : World) : (AV.num 0 0).In W := num_in W (by decide) (by decide)
theorem zero_eqv : AV.eqv (AV.num 0 0) (AV.num 0 0) = true := by simp [AV.num, AV.eqv, AV.eqvAll]

theorem reads_agree (w : World) (nb : Option Addr) (cb : Nat) (bs : List UInt8) (hs : Sl w (.slice nb bs.length cb) bs) (hlen : bs.length ≤ 2000) (hT : Tabs w) : ∃ (T : AV) (n : Nat) (E : Int), ∀ W, Below w.heap.size w W →
    Calls Tryd.prog 14 #[.slice nb bs.length cb] W (Got T n E W) ∧ Calls Tryd.prog 15 #[.slice nb bs.length cb] W (Got T n E W) := by
  by_cases hex : ∃ (t : AV) (r : List UInt8), AV.formedJ t 6 = true ∧ (∃ W, t.In W) ∧ bs = AV.key t ++ r
  · obtain ⟨t, r, hf, ⟨W0, hi⟩, hb⟩ := hex
    have hm := AV.made_of t 6 W0 hf hi
    refine ⟨t, (AV.key t).length, 0, fun W hW => ⟨?_, ?_⟩⟩
    · exact (Read_any W nb cb bs r t hb ((hs.below hW).bytes) (by omega) hf ⟨W0, hi⟩ (hT.later hW)).mono fun e w' h => h
    · refine (dRead_any W _ bs (hs.below hW) hlen).mono fun e w' h => ?_
      rcases h with ⟨hno, _⟩ | ⟨u, r', hk, hmu, _, hiu, he, hbe⟩
      · exact absurd hb (hno t r hf ⟨W0, hi⟩)
      · obtain ⟨h1, h2⟩ := AV.key_once t u r r' hm hmu (hb.symm.trans hk)
        have hl : (AV.key u).length = (AV.key t).length := by
          have h3 := congrArg List.length (hb.symm.trans hk)
          rw [List.length_append, List.length_append, h2] at h3
          omega
        exact ⟨u, by rw [he, hl], h1, hiu, hbe⟩
  · have hno : ∀ (u : AV) (r : List UInt8), AV.formedJ u 6 = true → (∃ W, u.In W) → bs ≠ AV.key u ++ r := fun u r h1 h2 h3 => hex ⟨u, r, h1, h2, h3⟩
    refine ⟨AV.num 0 0, 0, 11, fun W hW => ⟨?_, ?_⟩⟩
    · exact (Read_no W nb cb bs hno ((hs.below hW).bytes) (by omega) (hT.later hW)).mono fun e w' ⟨he, hb⟩ => ⟨AV.num 0 0, he, zero_eqv, zero_in _, hb⟩
    · refine (dRead_any W _ bs (hs.below hW) hlen).mono fun e w' h => ?_
      rcases h with ⟨_, he, hb⟩ | ⟨u, r', hk, _, hf, hiu, _, _⟩
      · exact ⟨AV.num 0 0, he, zero_eqv, zero_in _, hb⟩
      · exact absurd hk (hno u r' hf ⟨_, hiu⟩)

set_option maxHeartbeats 4000000 in
set_option maxRecDepth 100000 in
theorem lawkread_any (v0 : Value) (bs : List UInt8) (w : World) (hs : Sl w v0 bs) (hT : Tabs w) : Calls Tryd.prog 4 #[v0] w fun e w' => e = .returned (.bool true) ∧ Below w.heap.size w w' := by
  have AWAKE := Lib.hid (fun W (h : Below w.heap.size w W) => awake_any W (hT.later h))
  obtain ⟨nb, cb, rfl, -, -, -⟩ := id hs
  by_cases hlen : bs.length ≤ 2000
  · obtain ⟨T, n, E, hgot⟩ := reads_agree w nb cb bs hs hlen hT
    unfold Got at hgot
    have READ := Lib.hid (fun W h => (hgot W h).1)
    have RREAD := Lib.hid (fun W h => (hgot W h).2)
    have SAME := Lib.hid (fun (u v : AV) (W : World) (h1 : u.In W) (h2 : v.In W) (e1 : AV.eqv T u = true) (e2 : AV.eqv T v = true) => by
      have h := rsame_any u v W h1 h2
      rw [eqv_two T u v e1 e2] at h
      exact h)
    have h1' : (bs.length : Int) ≤ 2000 := by omega
    clear hgot hs hT hlen
    go_enter Tryd.func4, Tryd.ntmps4
    go_wp2_with fail
    refine (AWAKE.out _ (Below.refl _ _)).mono ?_
    rintro e w1 ⟨rfl, hb1⟩
    have HB1 := Lib.hid hb1
    clear hb1
    go_wp2_with fail
    refine (READ.out _ HB1.out).mono ?_
    rintro e w2 ⟨u, rfl, heu, hiu, hb2⟩
    have HB2 := Lib.hid (HB1.out.trans (hb2.mono HB1.out.size))
    have HEU := Lib.hid heu
    have hal := (Below.refl w2.heap.size w2).alloc (Nat.le_refl _) (.cells u.row.toArray 25)
    have HIU := Lib.hid (hiu.below hal (Nat.le_refl _))
    have HX := Lib.hid (heap_alloc_new w2 (.cells u.row.toArray 25))
    have HB3 := Lib.hid (HB2.out.trans (hal.mono HB2.out.size))
    obtain ⟨k, n1, s, na, nc, ns, xa, xc, xs⟩ := u
    clear heu hiu hb2 hal
    simp only [AV.val, AV.row] at HX HB3 HIU ⊢
    go_upto_region 4 with fail
    generalize w2.alloc (.cells #[.int .i64 k, .int .i64 n1, .string s, .slice na ns.length nc, .slice xa xs.length xc] 25) = W3 at *
    go_wp2_with fail
    refine (RREAD.out _ HB3.out).mono ?_
    rintro e w4 ⟨v, rfl, hev, hiv, hb4⟩
    have HB4 := Lib.hid (HB3.out.trans (hb4.mono HB3.out.size))
    have HEV := Lib.hid hev
    have hal := (Below.refl w4.heap.size w4).alloc (Nat.le_refl _) (.cells v.row.toArray 25)
    have HIV := Lib.hid (hiv.below hal (Nat.le_refl _))
    have HIU5 := Lib.hid (HIU.out.below (hb4.trans (hal.mono hb4.size)) (Nat.le_refl _))
    have HX5 := Lib.hid (box_later (box_later HX.out hb4) hal)
    have HY5 := Lib.hid (heap_alloc_new w4 (.cells v.row.toArray 25))
    have HB5 := Lib.hid (HB4.out.trans (hal.mono HB4.out.size))
    obtain ⟨k', n1', s', na', nc', ns', xa', xc', xs'⟩ := v
    clear hev hiv hb4 hal
    simp only [AV.val, AV.row] at HX5 HY5 HB5 HIV HIU5 SAME ⊢
    go_upto_region 5 with fail
    generalize w4.alloc (.cells #[.int .i64 k', .int .i64 n1', .string s', .slice na' ns'.length nc', .slice xa' xs'.length xc'] 25) = W5 at *
    have SM := Lib.hid (SAME.out _ _ W5 HIU5.out HIV.out HEU.out HEV.out)
    obtain ⟨a0, a1, a2, a3, a4⟩ := box_cells HX5.out
    obtain ⟨b0, b1, b2, b3, b4⟩ := box_cells HY5.out
    go_wp2_with fail
    refine (SM.out).mono ?_
    rintro e w6 ⟨rfl, hb6⟩
    have HB6 := Lib.hid (HB5.out.trans (hb6.mono HB5.out.size))
    clear hb6
    go_wp2_with fail
    go_ret
    exact ⟨rfl, HB6.out⟩
  · have h1' : (2000 : Int) < (bs.length : Int) := by omega
    clear hs hT hlen
    go_enter Tryd.func4, Tryd.ntmps4
    go_wp2_with fail
    refine (AWAKE.out _ (Below.refl _ _)).mono ?_
    rintro e w1 ⟨rfl, hb1⟩
    have HB1 := Lib.hid hb1
    clear hb1
    go_wp2_with fail
    refine (AWAKE.out _ HB1.out).mono ?_
    rintro e w2 ⟨rfl, hb2⟩
    have HB2 := Lib.hid (HB1.out.trans (hb2.mono HB1.out.size))
    clear hb2
    go_wp2_with fail
    go_ret
    exact ⟨rfl, HB2.out⟩
end Go.Proofs.YtcbfbmidekmboaaDoor
