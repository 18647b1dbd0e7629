/- A value read by the document: a number; no condition of ours. -/
/- A value read by the document: a text; no condition of ours. -/
/- The members of a list read by the document: what is asked, and what an append to them does; no condition of ours. -/
import Derived.Test.YtcbfbmidekmboaaDoorRfx
import Derived.Test.YtcbfbmidekmboaaDoorRgv
import Derived.Deep.RegionHeldLaw
import Derived.Deep.Cut
import Derived.Test.YtcbfbmidekmboaaDoorRgo
namespace Go.Proofs.YtcbfbmidekmboaaDoor
open Go.ChangeShapes Go.WideShapes Go.Deep Go.RowKit Go.Lib

/-- The call's two boxes: of the answer, of the value. -/
structure VBox (w : World) (cs cs' : Array Value) (W : World) : Prop where
  h1 : W.heap[w.heap.size]? = some (.cells cs 25 (0, 0))
  h2 : W.heap[w.heap.size + 1]? = some (.cells cs' 25 (0, 0))
  below : Below w.heap.size w W

namespace VBox
variable {w W W' : World} {cs cs' : Array Value}
theorem new (w : World) (cs cs' : Array Value) : VBox w cs cs' ((w.alloc (.cells cs 25)).alloc (.cells cs' 25)) := ⟨two_boxes w cs _, two_second w _ cs', two_below w _ _⟩
theorem later (h : VBox w cs cs' W) (hb : Below W.heap.size W W') : VBox w cs cs' W' := ⟨box_later h.h1 hb, box_later h.h2 hb, h.below.trans (hb.mono h.below.size)⟩
theorem drew (h : VBox w cs cs' W) : VBox w cs cs' W.drew := ⟨h.h1, h.h2, h.below.drew⟩
theorem lt (h : VBox w cs cs' W) : w.heap.size + 2 ≤ W.heap.size := by
  have := (Array.getElem?_eq_some_iff.1 h.h2).1
  omega
/-- The value's box turned, in one cell. -/
theorem field {a b c d e : Value} (h : VBox w cs #[a, b, c, d, e] W) (j : Nat) (v : Value) : VBox w cs (#[a, b, c, d, e].setIfInBounds j v) (W.setCell ⟨w.heap.size + 1, j, none⟩ v) := by
  refine ⟨?_, ?_, h.below.setCell (p := ⟨w.heap.size + 1, j, none⟩) (Nat.le_succ _) v⟩
  · rw [heap_setCell_other _ _ _ _ (by simp)]; exact h.h1
  · exact heap_setCell_same W (w.heap.size + 1) j _ 25 v h.h2
/-- The answer's box filled. -/
theorem fill {a b c d e : Value} (h : VBox w #[a, b, c, d, e] cs' W) (v0 v1 v2 v3 v4 : Value) : VBox w #[v0, v1, v2, v3, v4] cs' (((((W.setCell ⟨w.heap.size, 0, none⟩ v0).setCell ⟨w.heap.size, 1, none⟩ v1).setCell ⟨w.heap.size, 2, none⟩ v2).setCell ⟨w.heap.size, 3, none⟩ v3).setCell ⟨w.heap.size, 4, none⟩ v4) := by
  refine ⟨five_box h.h1 v0 v1 v2 v3 v4, ?_, ?_⟩
  · iterate 5 rw [heap_setCell_other _ _ _ _ (by simp)]
    exact h.h2
  · exact (((((h.below.setCell (p := ⟨w.heap.size, 0, none⟩) (Nat.le_refl _) v0).setCell (p := ⟨w.heap.size, 1, none⟩) (Nat.le_refl _) v1).setCell (p := ⟨w.heap.size, 2, none⟩) (Nat.le_refl _) v2).setCell (p := ⟨w.heap.size, 3, none⟩) (Nat.le_refl _) v3).setCell (p := ⟨w.heap.size, 4, none⟩) (Nat.le_refl _) v4)
theorem five {a b c d e : Value} (h : VBox w cs #[a, b, c, d, e] W) : W.cell? ⟨w.heap.size + 1, 0, none⟩ = some a ∧ W.cell? ⟨w.heap.size + 1, 1, none⟩ = some b ∧ W.cell? ⟨w.heap.size + 1, 2, none⟩ = some c ∧ W.cell? ⟨w.heap.size + 1, 3, none⟩ = some d ∧ W.cell? ⟨w.heap.size + 1, 4, none⟩ = some e := box_cells h.h2
theorem first {a b c d e : Value} (h : VBox w #[a, b, c, d, e] cs' W) : W.cell? ⟨w.heap.size, 0, none⟩ = some a ∧ W.cell? ⟨w.heap.size, 1, none⟩ = some b ∧ W.cell? ⟨w.heap.size, 2, none⟩ = some c ∧ W.cell? ⟨w.heap.size, 3, none⟩ = some d ∧ W.cell? ⟨w.heap.size, 4, none⟩ = some e := box_cells h.h1
end VBox

/-- A number's eight bytes ahead. -/
theorem num_key {c : UInt8} {b r : List UInt8} {m : Nat} (hc : (c.toNat : Int) = 4) (hm : m < 18446744073709551616) (h : b = bigL m ++ r) : c :: b = AV.key (AV.num 3 ((m : Int) - 9223372036854775808)) ++ r ∧ AV.Made (AV.num 3 ((m : Int) - 9223372036854775808)) := by
  refine ⟨?_, ?_⟩
  · rw [AV.num, AV.key, if_pos rfl, h]
    have e : ((3 : Int) + 1).toNat = c.toNat := by omega
    have e2 : ((m : Int) - 9223372036854775808 + 9223372036854775808).toNat = m := by omega
    rw [e, e2, UInt8.ofNat_toNat]
    rfl
  · rw [AV.num, AV.Made]
    exact ⟨by omega, by rw [if_pos rfl]; omega, .inr rfl, by rw [if_neg (by omega)], .inr (.inr rfl), by rw [AV.MadeAll]; trivial⟩

theorem num_lies {n : Int} (h : -9223372036854775808 ≤ n ∧ n < 9223372036854775808) (C D : Nat) (w : World) : (AV.num 3 n).Lies C D w := by
  have h1 : IntKind.i64.min = -9223372036854775808 := rfl
  have h2 : IntKind.i64.max = 9223372036854775807 := rfl
  refine plain_lies (by decide) ?_ (Nat.zero_le _)
  simp only [Lit.wf, Bool.and_eq_true, decide_eq_true_eq]
  omega

set_option maxHeartbeats 4000000 in
set_option maxRecDepth 100000 in
theorem dval_num (w : World) (v : Value) (lv : Nat) (c : UInt8) (b : List UInt8) (hlv : lv ≠ 0) (hk : (c.toNat : Int) = 4) (hb8 : 8 ≤ b.length) (hlen : b.length ≤ 100000) (hv : Sl w v (c :: b)) : Calls Tryd.prog 28 #[v, .int .i64 (lv : Int)] w (ValGave v (c :: b) lv w) := by
  have HV := Lib.hid (VBox.new w #[.int .i64 0, .int .i64 0, .string ⟨#[]⟩, .slice none 0 0, .slice none 0 0] #[.int .i64 3, .int .i64 0, .string ⟨#[]⟩, .slice none 0 0, .slice none 0 0])
  obtain ⟨q, o, cap, rfl, hc0, hcap1, hcap2, na1, hrun1, hs1⟩ := hv.next
  obtain ⟨q1, o1, cap1, hv1, hat, hcap3, hcap4, na8, hrun8, hs8⟩ := (hs1 w hv).skip 8 (by omega) (by omega) hb8
  simp only [Value.slice.injEq, true_and] at hv1
  obtain ⟨rfl, rfl⟩ := hv1
  have hrun8' : ∀ W, (Instr.slice 28 (.slice (some ⟨q1, o1, none⟩) b.length (cap - 1)) (some (.int .i64 8)) none none).run Tryd.prog W = .ok (.slice na8 (b.drop 8).length (cap - 1 - 8)) W := hrun8
  obtain ⟨L8, hL8⟩ : ∃ x, (b.drop 8).length = x := ⟨_, rfl⟩
  rw [hL8] at hrun8' hs8
  have HL8 := Lib.hid hL8
  clear hrun8 hL8
  obtain ⟨m, hm, hmb⟩ := big_of (b.take 8) (by rw [List.length_take]; omega)
  have hb : b = bigL m ++ b.drop 8 := by rw [← hmb, List.take_append_drop]
  obtain ⟨k1, k2⟩ := num_key (c := c) (b := b) hk hm hb
  have hcells : ∀ j, j < 8 → w.cell? ⟨q1, o1 + j, none⟩ = some (.int .u8 ((UInt8.ofNat (m / 256 ^ (7 - j))).toNat : Int)) := fun j hj => by
    rw [hat j (by omega)]
    have e : b[j]'(by omega) = UInt8.ofNat (m / 256 ^ (7 - j)) := by
      have h1 : b[j]? = some (UInt8.ofNat (m / 256 ^ (7 - j))) := by
        rw [hb, List.getElem?_append_left (by rw [bigL_length]; exact hj), List.getElem?_eq_getElem (by rw [bigL_length]; exact hj), bigL_get m j hj]
      rw [List.getElem?_eq_getElem (by omega)] at h1
      exact Option.some.inj h1
    rw [e]
  have HCELLS := Lib.hid hcells
  have HC0 := Lib.hid hc0
  have HS8 := Lib.hid (hs1.trans hs8)
  have HM := Lib.hid hm
  have HK1 := Lib.hid k1
  have HK2 := Lib.hid k2
  obtain ⟨n, hn⟩ : ∃ n : Int, (m : Int) - 9223372036854775808 = n := ⟨_, rfl⟩
  have HN := Lib.hid hn
  have hw1 : IntKind.u64.wrap ((m : Int) - 9223372036854775808) = ((m : Int) - 9223372036854775808) % 18446744073709551616 := rfl
  obtain ⟨U, hU⟩ : ∃ U, ((m : Int) - 9223372036854775808) % 18446744073709551616 = U := ⟨_, rfl⟩
  have HU : Hid (IntKind.u64.wrap ((m : Int) - 9223372036854775808) = U) := Lib.hid (hw1.trans hU)
  have HW : Hid (IntKind.i64.wrap U = n) := Lib.hid (by rw [IntKind.wrap_i64]; omega)
  have e1 : ((b.length : Int) + 1 == 0) = false := by rw [beq_eq_false_iff_ne]; omega
  have g1 : ((lv : Int) == 0) = false := by rw [beq_eq_false_iff_ne]; omega
  have h8 : ¬ (b.length : Int) < 8 := by omega
  rw [hk] at HC0
  clear hv hs1 hat hcells hc0 hs8 hm k1 k2 hn hw1 hU hmb hb hcap3 hcap4 hb8 hlv
  go_enter Tryd.func28, Tryd.ntmps28
  have hc1 : (w.alloc (.cells #[.int .i64 0, .int .i64 0, .string ⟨#[]⟩, .slice none 0 0, .slice none 0 0] 25)).cell? ⟨q, o, none⟩ = some (.int .u8 4) := cell_kept2 ((Below.refl _ _).alloc (Nat.le_refl _) _) HC0.out
  go_upto_region 4 with fail
  generalize (w.alloc (.cells #[.int .i64 0, .int .i64 0, .string ⟨#[]⟩, .slice none 0 0, .slice none 0 0] 25)).alloc (.cells #[.int .i64 3, .int .i64 0, .string ⟨#[]⟩, .slice none 0 0, .slice none 0 0] 25) = W1 at *
  clear hc1
  obtain ⟨a0, a1, a2, a3, a4⟩ := HV.out.five
  obtain ⟨f0, f1, f2, f3, f4⟩ := fz5 HV.out.h2
  go_wp2_with fail
  go_loopg [8, 9] 8 (fun g x i wr => wr = W1 ∧ ∃ j : Nat, j + g = 8 ∧ i = .int .i64 (j : Int) ∧ x = .int .u64 ((m / 256 ^ (8 - j) : Nat) : Int))
  case atStart => exact ⟨rfl, 0, by omega, rfl, by have := HM.out; rw [Nat.div_eq_of_lt (by simpa using this)]; rfl⟩
  case round =>
    obtain ⟨rfl, j, hj, rfl, rfl⟩ := hrel
    have HJ := Lib.hid hj
    clear hj
    by_cases h1 : j < 8
    · obtain ⟨y, hy⟩ : ∃ y, m / 256 ^ (8 - j) = y := ⟨_, rfl⟩
      obtain ⟨z, hz⟩ : ∃ z, m / 256 ^ (7 - j) = z := ⟨_, rfl⟩
      have hyz : y = z / 256 := by rw [← hy, ← hz, Nat.div_div_eq_div_mul, ← Nat.pow_succ]; congr 2; omega
      have hzm : z < 18446744073709551616 := by rw [← hz]; exact Nat.lt_of_le_of_lt (Nat.div_le_self _ _) HM.out
      have hnx : m / 256 ^ (8 - (j + 1)) = z := by rw [← hz]; congr 2; omega
      have hcj := cell_kept2 HV.out.below (HCELLS.out j h1)
      rw [hz, toNat_byte] at hcj
      rw [hy]
      have HYZ := Lib.hid hyz
      have HZM := Lib.hid hzm
      have HNX := Lib.hid hnx
      have hjl : (j : Int) < (b.length : Int) := by omega
      clear hy hz hyz hzm hnx
      go_wp2_with fail
      go_roundg (gk - 1)
      case measure => have := HJ.out; omega
      case rel =>
        refine ⟨rfl, j + 1, by have := HJ.out; omega, by go_num, ?_⟩
        rw [HNX.out]
        have hyz := HYZ.out
        have hzm := HZM.out
        congr 1
        show (((y : Int) * 256) % 18446744073709551616 + (z : Int) % 256) % 18446744073709551616 = _
        omega
    · obtain rfl : j = 8 := by have := HJ.out; omega
      have e : m / 256 ^ (8 - 8) = m := by simp
      rw [e]
      have hU := HU.out
      have hW := HW.out
      obtain HV2 := Lib.hid (HV.out.field 1 (.int .i64 n))
      clear e
      go_upto_region 15 with fail
      generalize wr.setCell ⟨w.heap.size + 1, 1, none⟩ (.int .i64 n) = W2 at *
      have HV3 := Lib.hid (HV2.out.fill (.int .i64 3) (.int .i64 n) (.string ⟨#[]⟩) (.slice none 0 0) (.slice none 0 0)).drew
      clear a0 a1 a2 a3 a4 f0 f1 f2 f3 f4 hrun1
      obtain ⟨p0, p1, p2, p3, p4⟩ := HV2.out.five
      obtain ⟨r0, r1, r2, r3, r4⟩ := HV2.out.first
      obtain ⟨z0, z1, z2, z3, z4⟩ := fz5 HV2.out.h1
      go_region_with (fail)
      all_goals
        go_wp2_with fail
        obtain ⟨g0, g1, g2, g3, g4⟩ := HV3.out.first
        refine bodyPost_ret (v := .tuple #[.agg #[.int .i64 3, .int .i64 n, .string ⟨#[]⟩, .slice none 0 0, .slice none 0 0], .slice na8 L8 (cap - 1 - 8), .bool true]) (by simp [results, Tryd.results28, go_sem, g0, g1, g2, g3, g4]) rfl ⟨HV3.out.below, .inr ⟨AV.num 3 n, b.drop 8, _, rfl, ?_, ?_, num_lies ?_ _ _ _, HS8.out⟩⟩
        · rw [← HN.out]; exact HK1.out
        · rw [← HN.out]; exact HK2.out
        · have := HN.out; have := HM.out; omega
end Go.Proofs.YtcbfbmidekmboaaDoor

namespace Go.Proofs.YtcbfbmidekmboaaDoor
open Go.ChangeShapes Go.WideShapes Go.Deep Go.RowKit Go.Lib

theorem textL_half (X : List UInt8) : X.length ≤ (textL X).length := by have := (textL_length X).1; omega

set_option maxHeartbeats 4000000 in
set_option maxRecDepth 100000 in
theorem dval_text (w : World) (v : Value) (lv : Nat) (c : UInt8) (b : List UInt8) (hlv : lv ≠ 0) (hk : (c.toNat : Int) = 5) (hlen : b.length ≤ 100000) (hv : Sl w v (c :: b)) : Calls Tryd.prog 28 #[v, .int .i64 (lv : Int)] w (ValGave v (c :: b) lv w) := by
  have HV := Lib.hid (VBox.new w #[.int .i64 0, .int .i64 0, .string ⟨#[]⟩, .slice none 0 0, .slice none 0 0] #[.int .i64 4, .int .i64 0, .string ⟨#[]⟩, .slice none 0 0, .slice none 0 0])
  obtain ⟨q, o, cap, rfl, hc0, hcap1, hcap2, na1, hrun1, hs1⟩ := hv.next
  have GET := Lib.hid (fun W (h : Below w.heap.size w W) => get_any W _ b ((hs1 w hv).below h) hlen)
  have HS1 := Lib.hid hs1
  have HC0 := Lib.hid hc0
  have e1 : ((b.length : Int) + 1 == 0) = false := by rw [beq_eq_false_iff_ne]; omega
  have g1 : ((lv : Int) == 0) = false := by rw [beq_eq_false_iff_ne]; omega
  have HK := Lib.hid hk
  rw [hk] at HC0
  clear hv hs1 hc0 hlv hk
  go_enter Tryd.func28, Tryd.ntmps28
  have hc1 : (w.alloc (.cells #[.int .i64 0, .int .i64 0, .string ⟨#[]⟩, .slice none 0 0, .slice none 0 0] 25)).cell? ⟨q, o, none⟩ = some (.int .u8 5) := cell_kept2 ((Below.refl _ _).alloc (Nat.le_refl _) _) HC0.out
  go_upto_region 4 with fail
  generalize (w.alloc (.cells #[.int .i64 0, .int .i64 0, .string ⟨#[]⟩, .slice none 0 0, .slice none 0 0] 25)).alloc (.cells #[.int .i64 4, .int .i64 0, .string ⟨#[]⟩, .slice none 0 0, .slice none 0 0] 25) = W1 at *
  clear hc1
  obtain ⟨a0, a1, a2, a3, a4⟩ := HV.out.five
  go_wp2_with fail
  refine (GET.out _ HV.out.below).mono ?_
  rintro e w2 ⟨hb2, ⟨rfl, hno⟩ | ⟨X, r, z, rfl, hX, hz⟩⟩
  · have HV2 := Lib.hid (HV.out.later hb2)
    have NO := Lib.hid (fun t r hf hm => text_key (b := b) (lv := lv) HK.out hno t r hf hm)
    clear a0 a1 a2 a3 a4 hb2 hno hrun1
    obtain ⟨a0, a1, a2, a3, a4⟩ := HV2.out.five
    obtain ⟨f0, f1, f2, f3, f4⟩ := fz5 HV2.out.h2
    have HV3 := Lib.hid (HV2.out.field 2 (.string ⟨#[]⟩))
    go_upto_region 19 with fail
    generalize w2.setCell ⟨w.heap.size + 1, 2, none⟩ (.string ⟨#[]⟩) = W3 at *
    clear a0 a1 a2 a3 a4 f0 f1 f2 f3 f4
    obtain ⟨p0, p1, p2, p3, p4⟩ := HV3.out.five
    obtain ⟨r0, r1, r2, r3, r4⟩ := HV3.out.first
    obtain ⟨z0, z1, z2, z3, z4⟩ := fz5 HV3.out.h1
    have HV4 := Lib.hid (HV3.out.fill (.int .i64 4) (.int .i64 0) (.string ⟨#[]⟩) (.slice none 0 0) (.slice none 0 0))
    go_wp2_with fail
    obtain ⟨g0, g1, g2, g3, g4⟩ := HV4.out.first
    refine bodyPost_ret (v := .tuple #[.agg #[.int .i64 4, .int .i64 0, .string ⟨#[]⟩, .slice none 0 0, .slice none 0 0], .slice none 0 0, .bool false]) (by simp [results, Tryd.results28, go_sem, g0, g1, g2, g3, g4]) rfl ⟨HV4.out.below, .inl ⟨AV.mk 4 0 ⟨#[]⟩ none 0 [] none 0 [], _, rfl, NO.out⟩⟩
  · have HV2 := Lib.hid (HV.out.later hb2)
    have HX := Lib.hid (text_head HK.out hX)
    have HZ := Lib.hid (HS1.out.trans hz)
    have HXL : Hid (X.length ≤ 100000) := Lib.hid (by have := congrArg List.length hX; rw [List.length_append] at this; have := textL_half X; omega)
    clear a0 a1 a2 a3 a4 hb2 hX hz hrun1
    obtain ⟨a0, a1, a2, a3, a4⟩ := HV2.out.five
    obtain ⟨f0, f1, f2, f3, f4⟩ := fz5 HV2.out.h2
    have HV3 := Lib.hid (HV2.out.field 2 (.string ⟨X.toArray⟩))
    go_upto_region 19 with fail
    generalize w2.setCell ⟨w.heap.size + 1, 2, none⟩ (.string ⟨X.toArray⟩) = W3 at *
    clear a0 a1 a2 a3 a4 f0 f1 f2 f3 f4
    obtain ⟨p0, p1, p2, p3, p4⟩ := HV3.out.five
    obtain ⟨r0, r1, r2, r3, r4⟩ := HV3.out.first
    obtain ⟨z0, z1, z2, z3, z4⟩ := fz5 HV3.out.h1
    have HV4 := Lib.hid (HV3.out.fill (.int .i64 4) (.int .i64 0) (.string ⟨X.toArray⟩) (.slice none 0 0) (.slice none 0 0))
    go_wp2_with fail
    obtain ⟨g0, g1, g2, g3, g4⟩ := HV4.out.first
    refine bodyPost_ret (v := .tuple #[.agg #[.int .i64 4, .int .i64 0, .string ⟨X.toArray⟩, .slice none 0 0, .slice none 0 0], z, .bool true]) (by simp [results, Tryd.results28, go_sem, g0, g1, g2, g3, g4]) rfl ⟨HV4.out.below, .inr ⟨AV.mk 4 0 ⟨X.toArray⟩ none 0 [] none 0 [], r, _, rfl, HX.out, text_made X, plain_lies (by decide) (by decide) ?_, HZ.out⟩⟩
    have := HXL.out
    show X.toArray.size ≤ maxLen
    simp [maxLen]
    omega

set_option maxHeartbeats 4000000 in
set_option maxRecDepth 100000 in
theorem dval_word (w : World) (v : Value) (lv : Nat) (c : UInt8) (b : List UInt8) (hlv : lv ≠ 0) (hk : 1 ≤ c.toNat ∧ c.toNat ≤ 3) (hv : Sl w v (c :: b)) : Calls Tryd.prog 28 #[v, .int .i64 (lv : Int)] w (ValGave v (c :: b) lv w) := by
  obtain ⟨k, hkk⟩ : ∃ k : Int, (c.toNat : Int) - 1 = k := ⟨_, rfl⟩
  have hk2 : 0 ≤ k ∧ k ≤ 2 := by omega
  have HV := Lib.hid (VBox.new w #[.int .i64 0, .int .i64 0, .string ⟨#[]⟩, .slice none 0 0, .slice none 0 0] #[.int .i64 k, .int .i64 0, .string ⟨#[]⟩, .slice none 0 0, .slice none 0 0])
  obtain ⟨q, o, cap, rfl, hc0, hcap1, hcap2, na1, hrun1, hs1⟩ := hv.next
  have HS1 := Lib.hid hs1
  have HC0 := Lib.hid hc0
  have HK2 := Lib.hid hk2
  have HKEY := Lib.hid (word_key (b := b) hk2 hkk)
  have e1 : ((b.length : Int) + 1 == 0) = false := by rw [beq_eq_false_iff_ne]; omega
  have g1 : ((lv : Int) == 0) = false := by rw [beq_eq_false_iff_ne]; omega
  have k3 : (k == 3) = false := by rw [beq_eq_false_iff_ne]; omega
  have k4 : (k == 4) = false := by rw [beq_eq_false_iff_ne]; omega
  have k5 : (k == 5) = false := by rw [beq_eq_false_iff_ne]; omega
  have k6 : (k == 6) = false := by rw [beq_eq_false_iff_ne]; omega
  have i1 : ¬ (c.toNat : Int) < 1 := by omega
  have i2 : ¬ (7 : Int) < (c.toNat : Int) := by omega
  clear hv hs1 hc0 hlv hk hk2
  go_enter Tryd.func28, Tryd.ntmps28
  have hc1 : (w.alloc (.cells #[.int .i64 0, .int .i64 0, .string ⟨#[]⟩, .slice none 0 0, .slice none 0 0] 25)).cell? ⟨q, o, none⟩ = some (.int .u8 (c.toNat : Int)) := cell_kept2 ((Below.refl _ _).alloc (Nat.le_refl _) _) HC0.out
  go_upto_region 4 with fail
  generalize (w.alloc (.cells #[.int .i64 0, .int .i64 0, .string ⟨#[]⟩, .slice none 0 0, .slice none 0 0] 25)).alloc (.cells #[.int .i64 k, .int .i64 0, .string ⟨#[]⟩, .slice none 0 0, .slice none 0 0] 25) = W1 at *
  clear hc1 hkk
  obtain ⟨p0, p1, p2, p3, p4⟩ := HV.out.five
  obtain ⟨r0, r1, r2, r3, r4⟩ := HV.out.first
  obtain ⟨z0, z1, z2, z3, z4⟩ := fz5 HV.out.h1
  have HV4 := Lib.hid (HV.out.fill (.int .i64 k) (.int .i64 0) (.string ⟨#[]⟩) (.slice none 0 0) (.slice none 0 0))
  go_wp2_with fail
  obtain ⟨g0, g1, g2, g3, g4⟩ := HV4.out.first
  exact bodyPost_ret (v := .tuple #[.agg #[.int .i64 k, .int .i64 0, .string ⟨#[]⟩, .slice none 0 0, .slice none 0 0], .slice na1 b.length (cap - 1), .bool true]) (by simp [results, Tryd.results28, go_sem, g0, g1, g2, g3, g4]) rfl ⟨HV4.out.below, .inr ⟨AV.num k 0, b, _, rfl, HKEY.out, word_made HK2.out, word_lies HK2.out _ _ _, HS1.out⟩⟩
end Go.Proofs.YtcbfbmidekmboaaDoor

namespace Go.Proofs.YtcbfbmidekmboaaDoor
open Go.ChangeShapes Go.WideShapes Go.Deep Go.RowKit Go.Lib

theorem wpList_dname {ops : Array Oper} {rest : List Oper} {o : Oper} {a : Act} {Q : Exit → Act → World → Prop} (hgd : o.guard = none) (s l : Operand)
    (ho : o.op = .call { callee := .builtin .append, args := #[s, l], argTypes := #[22, 22] }) {B n : Nat} {ma : Option Addr} {mc : Nat} {xs : List Value} {ya : Option Addr} {yc : Nat} {ys : List AV} {W : World} {q : Obj} (hm : W.ownsRow B 9 1 (.slice ma n mc) n xs) (h : Row B (.slice ma n mc) ya yc ys W) (hB : B ≤ W.heap.size)
    (hs : a.eval s = .slice ma n mc) (y : ByteArray) (hx : a.eval l = .slice (some ⟨W.heap.size + 1, 0, none⟩) 1 1) (h24 : n < 100)
    (K : ∀ ma' mc' W', W'.ownsRow B 9 1 (.slice ma' (n + 1) mc') (n + 1) (xs ++ [.string y]) → Row B (.slice ma' (n + 1) mc') ya yc ys W' → Below B W W' → (∀ k, k < (W.alloc q).heap.size → some k ≠ (Value.slice ma n mc).ownBlock → W'.heap[k]? = (W.alloc q).heap[k]?) →
      Next W (.slice ma n mc) (.slice ma' (n + 1) mc') → wpList Tryd.prog ops Q rest (a.put o.dst (.slice ma' (n + 1) mc')) W') : wpList Tryd.prog ops Q (o :: rest) a ((W.alloc q).alloc (.cells #[.string y] 9)) := by
  obtain ⟨i0, hi, hz0, hz1, hz2⟩ := info_parts infoStr
  have hb1 : Below W.heap.size W (W.alloc q) := (Below.refl _ _).alloc (Nat.le_refl _) _
  have hb2 : Below (W.alloc q).heap.size (W.alloc q) ((W.alloc q).alloc (.cells #[.string y] 9)) := (Below.refl _ _).alloc (Nat.le_refl _) _
  have hm2 := (hm.alloc q).alloc (.cells #[.string y] 9)
  have h2 := (h.alloc q).alloc (.cells #[.string y] 9)
  have hsz : W.heap.size ≤ ((W.alloc q).alloc (.cells #[.string y] 9)).heap.size := Nat.le_trans hb1.size hb2.size
  refine wpList_append_next _ hgd s l 22 ho B 9 i0 (.string ⟨#[]⟩) 1 16 Tryd.underlying22 hi hz0 hz1 hz2 rfl (by decide) (.slice ma n mc) n xs hs hm2 ⟨(W.alloc q).heap.size, 0, none⟩ 1 1 [.string y] (by rw [hx]; simp) (by simp) ?_ (by simp [Value.oneCell']) (by unfold maxLen; omega) (by omega) (Nat.le_trans hB hsz) ?_
  · intro j v hj
    rw [WideShapes.add_plain, Lib.cell_of_heap (heap_alloc_new (W.alloc q) _)]
    simpa using hj
  · intro v' W' hown hg hn
    obtain ⟨ma', mc', rfl⟩ : ∃ ma' mc', v' = .slice ma' (n + 1) mc' := by
      rcases hown.2 with ⟨_, h0⟩ | ⟨g, cap, cur, hv, _⟩
      · omega
      · exact ⟨_, _, hv⟩
    refine K ma' mc' W' hown (h2.other hg hn (rows_apart hm2 h2.own)) ((hb1.mono hB).trans ((hb2.mono (Nat.le_trans hB hb1.size)).trans ((Below.refl B _).grown hg (Nat.le_trans hB hsz) (fun k hk => (hm2.lt k hk).1)))) (fun k hk hne => (hg.block k (Nat.lt_of_lt_of_le hk hb2.size) hne).trans (hb2.block k hk)) ?_
    rcases hn with hn | hn
    · exact .inl hn
    · exact .inr fun g hg' => Nat.le_trans hsz (hn g hg')

theorem wpList_dval {ops : Array Oper} {rest : List Oper} {o : Oper} {a : Act} {Q : Exit → Act → World → Prop} (hgd : o.guard = none) (s l : Operand)
    (ho : o.op = .call { callee := .builtin .append, args := #[s, l], argTypes := #[23, 23] }) {B n : Nat} {zs : List Value} {u : Value} {ya : Option Addr} {yc : Nat} {ys : List AV} {W : World} (h : Row B u ya yc ys W) (hB : B ≤ W.heap.size) (hm : W.ownsRow B 9 1 u n zs) (hs : a.eval s = .slice ya ys.length yc)
    (x : AV) (cs : Array Value) (hx : a.eval l = .slice (some ⟨W.heap.size, 0, none⟩) 1 1) (hcs : cs.toList = x.row) {C D : Nat} (hl : x.Lies C D W) (hC : B ≤ C) (hD : D ≤ W.heap.size) (hf : Free C D (.slice ya ys.length yc)) (hu : Free C D u) (h24 : ys.length < 100)
    (K : ∀ ya' yc' W', Row B u ya' yc' (ys ++ [x]) W' → Below B W W' → W'.ownsRow B 9 1 u n zs → wpList Tryd.prog ops Q rest (a.put o.dst (.slice ya' (ys ++ [x]).length yc')) W') : wpList Tryd.prog ops Q (o :: rest) a (W.alloc (.cells cs 25)) := by
  obtain ⟨i0, hi, hz0, hz1, hz2⟩ := info_parts infoVal
  have hbA : Below W.heap.size W (W.alloc (.cells cs 25)) := (Below.refl _ _).alloc (Nat.le_refl _) _
  have h2 := h.alloc (.cells cs 25)
  have hm2 := hm.alloc (.cells cs 25)
  refine wpList_append_next _ hgd s l 23 ho B 25 i0 (.agg #[.int .i64 0, .int .i64 0, .string ⟨#[]⟩, .slice none 0 0, .slice none 0 0]) 5 80 Tryd.underlying23 hi hz0 hz1 hz2 rfl (by decide) (.slice ya ys.length yc) ys.length (rows ys) hs h2.own
    ⟨W.heap.size, 0, none⟩ 1 1 x.row hx (by rw [AV.row_length]) ?_ (row_cells1 x) (by unfold maxLen; omega) (by omega) (Nat.le_trans hB hbA.size) ?_
  · intro j v hj
    rw [WideShapes.add_plain, Lib.cell_of_heap (heap_alloc_new W _), ← Array.getElem?_toList, hcs]
    simpa using hj
  · intro v' W' hown hg hn
    obtain ⟨ya', yc', rfl, h3⟩ := h2.more hown hg hn (hl.later fun k hC' hD' => hbA.block k (by omega)) hC (Nat.le_trans hD hbA.size) hf hu
    exact K ya' yc' W' h3 ((hbA.mono hB).trans ((Below.refl B _).grown hg (Nat.le_trans hB hbA.size) (fun k hk => (h2.own.lt k hk).1))) (hm2.kept hg (rows_apart2 hm2 h2.own))

/-- What is read of a list so far is how every list of those bytes begins. -/
theorem keyAll_cut (o : Bool) : ∀ (ys xs : List AV) (ns ms : List ByteArray) (rest r : List UInt8), AV.MadeAll ys → AV.MadeAll xs → (if o then ns.length = ys.length else ns = []) → (if o then ms.length = xs.length else ms = []) →
    AV.keyAll o ns ys ++ rest = AV.keyAll o ms xs ++ ([0] ++ r) → ∃ ms' xs', rest = AV.keyAll o ms' xs' ++ ([0] ++ r) ∧ xs.length = ys.length + xs'.length ∧ (∀ x ∈ xs', x ∈ xs) ∧ AV.MadeAll xs' ∧ (if o then ms'.length = xs'.length else ms' = [])
  | [], xs, ns, ms, rest, r, _, hx, _, hm, h => ⟨ms, xs, by simpa [AV.keyAll] using h, by simp, fun _ h => h, hx, hm⟩
  | y :: ys, [], ns, ms, rest, r, hy, _, hn, _, h => by
    rw [AV.MadeAll] at hy
    obtain ⟨c, l, e, hc⟩ := hy.1.head
    rw [AV.keyAll, AV.keyAll, e] at h
    cases o
    · simp only [Bool.false_eq_true, if_false, List.nil_append, List.cons_append, List.cons.injEq] at h
      exact absurd h.1 hc
    · simp only [if_true, List.nil_append, List.cons_append, List.cons.injEq] at h
      exact absurd h.1 (by decide)
  | y :: ys, x :: xs, ns, ms, rest, r, hy, hx, hn, hm, h => by
    rw [AV.MadeAll] at hy hx
    rw [AV.keyAll, AV.keyAll] at h
    cases o
    · rw [if_neg (by decide)] at hn hm
      subst hn hm
      simp only [Bool.false_eq_true, if_false, List.nil_append, List.append_assoc] at h
      obtain ⟨_, h2⟩ := AV.key_once y x _ _ hy.1 hx.1 h
      obtain ⟨ms', xs', e1, e2, e3, e4, e5⟩ := keyAll_cut false ys xs [] [] rest r hy.2 hx.2 (by simp) (by simp) (by simpa using h2)
      exact ⟨ms', xs', e1, by simp only [List.length_cons]; omega, fun z hz => List.mem_cons_of_mem _ (e3 z hz), e4, e5⟩
    · rw [if_pos rfl] at hn hm
      match ns, ms, hn, hm, h with
      | a :: ns, b :: ms, hn, hm, h =>
        simp only [if_true, List.headD_cons, List.tail_cons, List.cons_append, List.append_assoc, List.cons.injEq, true_and] at h
        obtain ⟨_, h2⟩ := text_once h
        obtain ⟨_, h3⟩ := AV.key_once y x _ _ hy.1 hx.1 h2
        obtain ⟨ms', xs', e1, e2, e3, e4, e5⟩ := keyAll_cut true ys xs ns ms rest r hy.2 hx.2 (by rw [if_pos rfl]; simpa using hn) (by rw [if_pos rfl]; simpa using hm) (by simpa using h3)
        exact ⟨ms', xs', e1, by simp only [List.length_cons]; omega, fun z hz => List.mem_cons_of_mem _ (e3 z hz), e4, e5⟩

theorem allJ_mem {lv : Nat} : ∀ {xs : List AV}, (AV.allJ xs lv = true ↔ ∀ x ∈ xs, AV.formedJ x lv = true)
  | [] => by simp [AV.allJ]
  | x :: xs => by rw [AV.allJ, Bool.and_eq_true, allJ_mem (xs := xs)]; simp

theorem madeAll_snoc : ∀ {ys : List AV} {x : AV}, AV.MadeAll ys → AV.Made x → AV.MadeAll (ys ++ [x])
  | [], x, _, h => by rw [List.nil_append, AV.MadeAll, AV.MadeAll]; exact ⟨h, trivial⟩
  | y :: ys, x, h, hx => by rw [AV.MadeAll] at h; rw [List.cons_append, AV.MadeAll]; exact ⟨h.1, madeAll_snoc h.2 hx⟩

/-- A list of these bytes that may be. -/
structure AList (o : Bool) (lv : Nat) (b : List UInt8) (ns : List ByteArray) (xs : List AV) (r : List UInt8) : Prop where
  formed : AV.allJ xs lv = true
  made : AV.MadeAll xs
  names : if o then ns.length = xs.length else ns = []
  few : xs.length ≤ 24
  bytes : b = AV.keyAll o ns xs ++ ([0] ++ r)

/-- What is left to read, of every such list. -/
theorem AList.cut {o : Bool} {lv : Nat} {b rest r : List UInt8} {ns ms : List ByteArray} {xs ys : List AV} (h : AList o lv b ms xs r) (hy : AV.MadeAll ys) (hn : if o then ns.length = ys.length else ns = []) (hb : b = AV.keyAll o ns ys ++ rest) :
    ys.length ≤ 24 ∧ ∃ ms' xs', AList o lv rest ms' xs' r := by
  obtain ⟨ms', xs', e1, e2, e3, e4, e5⟩ := keyAll_cut o ys xs ns ms rest r hy h.made hn h.names (hb.symm.trans h.bytes)
  have := h.few
  exact ⟨by omega, ms', xs', allJ_mem.2 fun x hx => allJ_mem.1 h.formed x (e3 x hx), e4, e5, by omega, e1⟩

/-- Such a list is over, or its next value is there. -/
theorem AList.head {lv : Nat} {c : UInt8} {rest r : List UInt8} {ms : List ByteArray} {xs : List AV} (h : AList false lv (c :: rest) ms xs r) (hc : c ≠ 0) : ∃ x l, AV.formedJ x lv = true ∧ AV.Made x ∧ c :: rest = AV.key x ++ l := by
  have h2 := h.bytes
  have h3 := h.formed
  have h4 := h.made
  cases xs with
  | nil =>
    rw [AV.keyAll] at h2
    simp only [List.nil_append, List.cons_append, List.cons.injEq] at h2
    exact absurd h2.1 hc
  | cons x xs =>
    rw [AV.keyAll] at h2
    rw [AV.allJ, Bool.and_eq_true] at h3
    rw [AV.MadeAll] at h4
    simp only [Bool.false_eq_true, if_false, List.nil_append, List.append_assoc] at h2
    exact ⟨x, _, h3.1, h4.1, h2⟩

theorem AList.head2 {lv : Nat} {c : UInt8} {rest r : List UInt8} {ms : List ByteArray} {xs : List AV} (h : AList true lv (c :: rest) ms xs r) (hc : c ≠ 0) : c = 1 ∧ ∃ y x l, AV.formedJ x lv = true ∧ AV.Made x ∧ rest = textL y ++ (AV.key x ++ l) := by
  have h2 := h.bytes
  have h3 := h.formed
  have h4 := h.made
  cases xs with
  | nil =>
    rw [AV.keyAll] at h2
    simp only [List.nil_append, List.cons_append, List.cons.injEq] at h2
    exact absurd h2.1 hc
  | cons x xs =>
    rw [AV.keyAll] at h2
    rw [AV.allJ, Bool.and_eq_true] at h3
    rw [AV.MadeAll] at h4
    simp only [if_true, List.cons_append, List.append_assoc, List.cons.injEq] at h2
    exact ⟨h2.1, _, x, _, h3.1, h4.1, h2.2⟩

theorem AList.nil {o : Bool} {lv : Nat} {r : List UInt8} {ms : List ByteArray} {xs : List AV} (h : AList o lv [] ms xs r) : False := by
  have := congrArg List.length h.bytes
  simp at this

/-- What the document's value answers, at that level. -/
def DvAll (lv : Nat) : Prop := ∀ (w : World) (v : Value) (b : List UInt8), Sl w v b → b.length ≤ 100000 → Calls Tryd.prog 28 #[v, .int .i64 (lv : Int)] w (ValGave v b lv w)

/-- What the document's members answers. -/
def MemGave (v0 : Value) (k : Int) (b : List UInt8) (lv : Nat) (w : World) : Ending → World → Prop := fun e w' => Below w.heap.size w w' ∧
  ((∃ (u : AV) (z : Value), e = .returned (.tuple #[u.val, z, .bool false]) ∧ ∀ ns xs r, ¬ AList (decide (k = 6)) lv b ns xs r) ∨
  (∃ (ma : Option Addr) (mc : Nat) (ns : List ByteArray) (ya : Option Addr) (yc : Nat) (ys : List AV) (r : List UInt8) (z : Value), e = .returned (.tuple #[(AV.mk k 0 ⟨#[]⟩ ma mc ns ya yc ys).val, z, .bool true]) ∧ b = AV.keyAll (decide (k = 6)) ns ys ++ ([0] ++ r) ∧ AV.MadeAll ys ∧
    (if decide (k = 6) then ns.length = ys.length else ns = []) ∧ (AV.mk k 0 ⟨#[]⟩ ma mc ns ya yc ys).Lies w.heap.size w'.heap.size w' ∧ Tail v0 b z r))

/-- The call's two boxes, the names and the values read so far. -/
structure MBox (w : World) (k : Int) (ma : Option Addr) (mc : Nat) (ns : List ByteArray) (ya : Option Addr) (yc : Nat) (ys : List AV) (W : World) : Prop where
  h1 : W.heap[w.heap.size]? = some (.cells #[.int .i64 k, .int .i64 0, .string ⟨#[]⟩, .slice ma ns.length mc, .slice ya ys.length yc] 25 (0, 0))
  h2 : W.heap[w.heap.size + 1]? = some (.cells #[.int .i64 0, .int .i64 0, .string ⟨#[]⟩, .slice none 0 0, .slice none 0 0] 25 (0, 0))
  names : W.ownsRow (w.heap.size + 2) 9 1 (.slice ma ns.length mc) ns.length (ns.map Value.string)
  row : Row (w.heap.size + 2) (.slice ma ns.length mc) ya yc ys W
  below : Below w.heap.size w W

namespace MBox
variable {w W W' : World} {k : Int} {ma : Option Addr} {mc : Nat} {ns : List ByteArray} {ya : Option Addr} {yc : Nat} {ys : List AV}

theorem new (w : World) (k : Int) : MBox w k none 0 [] none 0 [] ((w.alloc (.cells #[.int .i64 k, .int .i64 0, .string ⟨#[]⟩, .slice none 0 0, .slice none 0 0] 25)).alloc (.cells #[.int .i64 0, .int .i64 0, .string ⟨#[]⟩, .slice none 0 0, .slice none 0 0] 25)) :=
  ⟨two_boxes w _ _, two_second w _ _, World.ownsRow_nil _ _ _ _, Row.nil _ _ _, two_below w _ _⟩
theorem lt (h : MBox w k ma mc ns ya yc ys W) : w.heap.size + 2 ≤ W.heap.size := by
  have := (Array.getElem?_eq_some_iff.1 h.h2).1
  omega
theorem later (h : MBox w k ma mc ns ya yc ys W) (hb : Below W.heap.size W W') : MBox w k ma mc ns ya yc ys W' :=
  ⟨box_later h.h1 hb, box_later h.h2 hb, row_step h.names (Kept.of (p := w.heap.size) hb) (by omega), h.row.step (Kept.of (p := w.heap.size) hb) (by omega), h.below.trans (hb.mono h.below.size)⟩
theorem five (h : MBox w k ma mc ns ya yc ys W) : W.cell? ⟨w.heap.size, 0, none⟩ = some (.int .i64 k) ∧ W.cell? ⟨w.heap.size, 1, none⟩ = some (.int .i64 0) ∧ W.cell? ⟨w.heap.size, 2, none⟩ = some (.string ⟨#[]⟩) ∧ W.cell? ⟨w.heap.size, 3, none⟩ = some (.slice ma ns.length mc) ∧ W.cell? ⟨w.heap.size, 4, none⟩ = some (.slice ya ys.length yc) := box_cells h.h1
theorem second (h : MBox w k ma mc ns ya yc ys W) : W.cell? ⟨w.heap.size + 1, 0, none⟩ = some (.int .i64 0) ∧ W.cell? ⟨w.heap.size + 1, 1, none⟩ = some (.int .i64 0) ∧ W.cell? ⟨w.heap.size + 1, 2, none⟩ = some (.string ⟨#[]⟩) ∧ W.cell? ⟨w.heap.size + 1, 3, none⟩ = some (.slice none 0 0) ∧ W.cell? ⟨w.heap.size + 1, 4, none⟩ = some (.slice none 0 0) := box_cells h.h2
/-- The answer's box filled: what is there then. -/
theorem fill (h : MBox w k ma mc ns ya yc ys W) (v0 v1 v2 v3 v4 : Value) {W5 : World} (e : W5 = ((((W.setCell ⟨w.heap.size + 1, 0, none⟩ v0).setCell ⟨w.heap.size + 1, 1, none⟩ v1).setCell ⟨w.heap.size + 1, 2, none⟩ v2).setCell ⟨w.heap.size + 1, 3, none⟩ v3).setCell ⟨w.heap.size + 1, 4, none⟩ v4) :
    W5.heap[w.heap.size + 1]? = some (.cells #[v0, v1, v2, v3, v4] 25 (0, 0)) ∧ Below w.heap.size w W5 ∧ W5.ownsRow (w.heap.size + 2) 9 1 (.slice ma ns.length mc) ns.length (ns.map Value.string) ∧ Row (w.heap.size + 2) (.slice ma ns.length mc) ya yc ys W5 ∧ W5.heap.size = W.heap.size := by
  subst e
  have hk := (Kept.refl (w.heap.size + 1) W).five v0 v1 v2 v3 v4
  refine ⟨five_box h.h2 v0 v1 v2 v3 v4, h.below.trans (hk.below (Nat.le_succ _) h.below.size), row_step h.names hk (by omega), h.row.step hk (by omega), by simp [World.setCell]⟩
end MBox
end Go.Proofs.YtcbfbmidekmboaaDoor
