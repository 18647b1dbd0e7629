/- Numbers and texts compared, by the library and by the document: what the calls answer; no condition but that a text's length fits a machine's. -/
/- Texts compared, by the document: what the call answers; no condition but that a text's length fits a machine's. -/
/- Two rows of bytes held against each other by the document: what the calls answer; under Go's own limit of length. -/
import Derived.Test.YtcbfbmidekmboaaDoorLex
import Derived.Test.YtcbfbmidekmboaaDoorText
import Derived.Deep.QuietTactic
import Derived.BigQuiet
import Derived.Test.YtcbfbmidekmboaaDoorHelps
import Derived.Test.YtcbfbmidekmboaaDoorRtext
namespace Go.Proofs.YtcbfbmidekmboaaDoor
open Go.ChangeShapes Go.WideShapes Go.Deep Go.RowKit Go.Lib

theorem nan_int (x : Int) (w : World) : Calls Tryd.prog 60 #[.int .i64 x] w fun e w' => e = .returned (.bool false) ∧ w' = w := by
  go_enter Tryd.func60, Tryd.ntmps60
  go_wp2
  go_ret
  exact ⟨rfl, rfl⟩

theorem nan_int64 (x : Int) (w : World) : Calls Tryd.prog 61 #[.int .i64 x] w fun e w' => e = .returned (.bool false) ∧ w' = w := by
  go_enter Tryd.func61, Tryd.ntmps61
  go_wp2
  go_ret
  exact ⟨rfl, rfl⟩

theorem cmp_int (x y : Int) (w : World) : Calls Tryd.prog 48 #[.int .i64 x, .int .i64 y] w fun e w' => e = .returned (.int .i64 (compareInt x y)) ∧ w' = w := by
  by_cases h1 : x < y
  · have e1 : compareInt x y = -1 := by unfold compareInt; rw [if_pos h1]
    rw [e1]
    clear e1
    go_enter Tryd.func48, Tryd.ntmps48
    go_wp2_with (go_at_call 60; refine (nan_int _ _).mono ?_; rintro e w' ⟨rfl, rfl⟩)
    go_ret
    exact ⟨rfl, rfl⟩
  · by_cases h2 : x > y
    · have e1 : compareInt x y = 1 := by unfold compareInt; rw [if_neg h1, if_pos h2]
      rw [e1]
      clear e1
      go_enter Tryd.func48, Tryd.ntmps48
      go_wp2_with (go_at_call 60; refine (nan_int _ _).mono ?_; rintro e w' ⟨rfl, rfl⟩)
      go_ret
      exact ⟨rfl, rfl⟩
    · have e1 : compareInt x y = 0 := by unfold compareInt; rw [if_neg h1, if_neg h2]
      rw [e1]
      clear e1
      go_enter Tryd.func48, Tryd.ntmps48
      go_wp2_with (go_at_call 60; refine (nan_int _ _).mono ?_; rintro e w' ⟨rfl, rfl⟩)
      go_ret
      exact ⟨rfl, rfl⟩

theorem cmp_int64 (x y : Int) (w : World) : Calls Tryd.prog 49 #[.int .i64 x, .int .i64 y] w fun e w' => e = .returned (.int .i64 (compareInt x y)) ∧ w' = w := by
  by_cases h1 : x < y
  · have e1 : compareInt x y = -1 := by unfold compareInt; rw [if_pos h1]
    rw [e1]
    clear e1
    go_enter Tryd.func49, Tryd.ntmps49
    go_wp2_with (go_at_call 61; refine (nan_int64 _ _).mono ?_; rintro e w' ⟨rfl, rfl⟩)
    go_ret
    exact ⟨rfl, rfl⟩
  · by_cases h2 : x > y
    · have e1 : compareInt x y = 1 := by unfold compareInt; rw [if_neg h1, if_pos h2]
      rw [e1]
      clear e1
      go_enter Tryd.func49, Tryd.ntmps49
      go_wp2_with (go_at_call 61; refine (nan_int64 _ _).mono ?_; rintro e w' ⟨rfl, rfl⟩)
      go_ret
      exact ⟨rfl, rfl⟩
    · have e1 : compareInt x y = 0 := by unfold compareInt; rw [if_neg h1, if_neg h2]
      rw [e1]
      clear e1
      go_enter Tryd.func49, Tryd.ntmps49
      go_wp2_with (go_at_call 61; refine (nan_int64 _ _).mono ?_; rintro e w' ⟨rfl, rfl⟩)
      go_ret
      exact ⟨rfl, rfl⟩

end Go.Proofs.YtcbfbmidekmboaaDoor

namespace Go.Proofs.YtcbfbmidekmboaaDoor
open Go.ChangeShapes Go.WideShapes Go.Deep Go.RowKit Go.Lib

theorem ret_i64 {a b : Int} (h : a = b) : Ending.returned (.int .i64 a) = .returned (.int .i64 b) := by rw [h]

theorem cmpB_drop {a b : List UInt8} {j : Nat} (h : j < a.length) (h' : j < b.length) : compareBytes (a.drop j) (b.drop j) = if a[j].toNat < b[j].toNat then -1 else if b[j].toNat < a[j].toNat then 1 else compareBytes (a.drop (j + 1)) (b.drop (j + 1)) := by
  rw [List.drop_eq_getElem_cons h, List.drop_eq_getElem_cons h', compareBytes]
  simp only [UInt8.lt_iff_toNat_lt]

theorem cmpB_end {a b : List UInt8} {j : Nat} (hj : j ≤ a.length) (hj' : j ≤ b.length) (h : j = a.length ∨ j = b.length) : compareBytes (a.drop j) (b.drop j) = compareInt a.length b.length := by
  rcases h with h | h
  · rw [List.drop_eq_nil_of_le (by omega)]
    by_cases h' : j = b.length
    · rw [List.drop_eq_nil_of_le (by omega), show a.length = b.length by omega]
      simp [compareBytes, compareInt]
    · obtain ⟨c, l, e⟩ : ∃ c l, b.drop j = c :: l := ⟨_, _, List.drop_eq_getElem_cons (by omega)⟩
      rw [e]
      unfold compareInt
      rw [if_pos (by omega)]
      rfl
  · rw [show b.drop j = [] from List.drop_eq_nil_of_le (by omega)]
    by_cases h' : j = a.length
    · rw [List.drop_eq_nil_of_le (by omega), show a.length = b.length by omega]
      simp [compareBytes, compareInt]
    · obtain ⟨c, l, e⟩ : ∃ c l, a.drop j = c :: l := ⟨_, _, List.drop_eq_getElem_cons (by omega)⟩
      rw [e]
      unfold compareInt
      rw [if_neg (by omega), if_pos (by omega)]
      rfl

end Go.Proofs.YtcbfbmidekmboaaDoor

namespace Go.Proofs.YtcbfbmidekmboaaDoor
open Go.ChangeShapes Go.WideShapes Go.Deep Go.RowKit Go.Lib

theorem cmpB_self (l : List UInt8) : compareBytes l l = 0 := cmpB_zero.2 rfl

theorem take_next {a b : List UInt8} {j : Nat} (ha : j < a.length) (hb : j < b.length) (h : a.take j = b.take j) (he : a[j] = b[j]) : a.take (j + 1) = b.take (j + 1) := by
  rw [List.take_succ_eq_append_getElem ha, List.take_succ_eq_append_getElem hb, h, he]

set_option maxHeartbeats 4000000 in
set_option maxRecDepth 100000 in
theorem sameB_any (na nb : Option Addr) (ca cb : Nat) (a b : List UInt8) (w : World) (ha : BytesIn w na a) (hb : BytesIn w nb b) (hla : a.length ≤ 9223372036854775807) (_hlb : b.length ≤ 9223372036854775807) :
    Calls Tryd.prog 13 #[.slice na a.length ca, .slice nb b.length cb] w fun e w' => e = .returned (.bool (decide (a = b))) ∧ Below w.heap.size w w' := by
  by_cases hl : b.length = a.length
  rotate_left
  · rw [decide_eq_false (fun e => hl (by rw [e]))]
    have e1 : ((a.length : Int) == (b.length : Int)) = false := by rw [beq_eq_false_iff_ne]; omega
    have e2 : ((a.length : Int) != (b.length : Int)) = true := by simp; omega
    clear hl ha hb
    go_enter Tryd.func13, Tryd.ntmps13
    go_wp2_with fail
    go_ret
    exact ⟨rfl, Below.refl _ _⟩
  rw [hl]
  have HL := Lib.hid hl
  have HA := Lib.hid ha
  have HBB := Lib.hid hb
  clear hl ha hb
  go_enter Tryd.func13, Tryd.ntmps13
  go_wp2_with fail
  go_loopg [5] a.length (fun g i wr => ∃ j : Nat, j + g = a.length ∧ i = .int .i64 (j : Int) ∧ a.take j = b.take j ∧ Below w.heap.size w wr)
  case atStart => exact ⟨0, by omega, rfl, rfl, Below.refl _ _⟩
  case round =>
    obtain ⟨j, hj, rfl, htake, hb⟩ := hrel
    have HJ := Lib.hid hj
    have HTAKE := Lib.hid htake
    clear hj htake
    by_cases hlt : j < a.length
    · have hltb : j < b.length := by have := HL.out; omega
      obtain ⟨ba, oa, rfl, ha⟩ := (HA.out).resolve_left (by intro e; rw [e] at hlt; simp at hlt)
      obtain ⟨bb, ob, rfl, hbb⟩ := (HBB.out).resolve_left (by intro e; rw [e] at hltb; simp at hltb)
      have c1 := cell_kept2 hb (ha j hlt)
      have c2 := cell_kept2 hb (hbb j hltb)
      have d1 := fun d os => cell_regrown c1 d os
      have d2 := fun d os => cell_regrown c2 d os
      obtain ⟨x, hx⟩ : ∃ x, a[j] = x := ⟨_, rfl⟩
      obtain ⟨y, hy⟩ : ∃ y, b[j] = y := ⟨_, rfl⟩
      rw [hx] at c1 d1
      rw [hy] at c2 d2
      have HX := Lib.hid hx
      have HY := Lib.hid hy
      clear hx hy ha hbb
      by_cases hxy : x = y
      · subst hxy
        have HN := Lib.hid (take_next hlt hltb HTAKE.out (HX.out.trans HY.out.symm))
        go_wp2_with fail
        go_quiet (fail)
        go_wp2_with fail
        go_roundg (gk - 1)
        case measure => have := HJ.out; omega
        case rel => exact ⟨j + 1, by have := HJ.out; omega, by go_num, HN.out, hb.trans ⟨rfl, rfl, rfl, Nat.le_refl _, fun _ _ => rfl⟩⟩
      · have e0 : x.toNat ≠ y.toNat := fun e => hxy (UInt8.toNat_inj.1 e)
        have e1 : ((x.toNat : Int) == (y.toNat : Int)) = false := by rw [beq_eq_false_iff_ne]; omega
        have e2 : ((x.toNat : Int) != (y.toNat : Int)) = true := by simp; omega
        have HD : Hid (decide (a = b) = false) := Lib.hid (decide_eq_false fun e => hxy (by rw [← HX.out, ← HY.out]; simp only [e]))
        clear hxy
        go_wp2_with fail
        go_quiet (fail)
        go_wp2_with fail
        go_ret
        exact ⟨ret_bool HD.out.symm, hb.trans ⟨rfl, rfl, rfl, Nat.le_refl _, fun _ _ => rfl⟩⟩
    · have HD : Hid (decide (a = b) = true) := Lib.hid (decide_eq_true (by
        have h := HTAKE.out
        rw [List.take_of_length_le (by omega), List.take_of_length_le (by have := HL.out; omega)] at h
        exact h))
      go_wp2_with fail
      go_ret
      exact ⟨ret_bool HD.out.symm, hb⟩

set_option maxHeartbeats 4000000 in
set_option maxRecDepth 100000 in
theorem lessB_any (na nb : Option Addr) (ca cb : Nat) (a b : List UInt8) (w : World) (ha : BytesIn w na a) (hb : BytesIn w nb b) (hla : a.length ≤ 9223372036854775807) (hlb : b.length ≤ 9223372036854775807) :
    Calls Tryd.prog 19 #[.slice na a.length ca, .slice nb b.length cb] w fun e w' => e = .returned (.bool (decide (compareBytes a b < 0))) ∧ Below w.heap.size w w' := by
  obtain ⟨C, hC⟩ : ∃ C, compareBytes a b = C := ⟨_, rfl⟩
  rw [hC]
  have HC := Lib.hid hC
  have HA := Lib.hid ha
  have HBB := Lib.hid hb
  clear hC ha hb
  go_enter Tryd.func19, Tryd.ntmps19
  go_wp2_with fail
  go_loopg [5] a.length (fun g i wr => ∃ j : Nat, j + g = a.length ∧ j ≤ b.length ∧ i = .int .i64 (j : Int) ∧ compareBytes (a.drop j) (b.drop j) = C ∧ Below w.heap.size w wr)
  case atStart => exact ⟨0, by omega, by omega, rfl, HC.out, Below.refl _ _⟩
  case round =>
    obtain ⟨j, hj, hjb, rfl, hrest, hb⟩ := hrel
    have HJ := Lib.hid hj
    have HREST := Lib.hid hrest
    clear hj hrest
    by_cases hlt : j < a.length
    · by_cases hltb : j < b.length
      · have hd := cmpB_drop (a := a) (b := b) (j := j) hlt hltb
        rw [HREST.out] at hd
        obtain ⟨ba, oa, rfl, ha⟩ := (HA.out).resolve_left (by intro e; rw [e] at hlt; simp at hlt)
        obtain ⟨bb, ob, rfl, hbb⟩ := (HBB.out).resolve_left (by intro e; rw [e] at hltb; simp at hltb)
        have c1 := cell_kept2 hb (ha j hlt)
        have c2 := cell_kept2 hb (hbb j hltb)
        have d1 := fun d os => cell_regrown c1 d os
        have d2 := fun d os => cell_regrown c2 d os
        obtain ⟨x, hx⟩ : ∃ x, a[j] = x := ⟨_, rfl⟩
        obtain ⟨y, hy⟩ : ∃ y, b[j] = y := ⟨_, rfl⟩
        rw [hx] at c1 d1 hd
        rw [hy] at c2 d2 hd
        have HD := Lib.hid hd
        clear hx hy ha hbb hd
        by_cases h3 : x.toNat < y.toNat
        · have hCC : decide (C < 0) = true := by rw [HD.out, if_pos h3]; rfl
          have e1 : ((x.toNat : Int) == (y.toNat : Int)) = false := by rw [beq_eq_false_iff_ne]; omega
          have e2 : ((x.toNat : Int) != (y.toNat : Int)) = true := by simp; omega
          have HCC := Lib.hid hCC
          clear hCC
          go_wp2_with fail
          go_quiet (fail)
          go_wp2_with fail
          go_quiet (fail)
          go_wp2_with fail
          go_ret
          exact ⟨ret_bool (by rw [HCC.out]), hb.trans ⟨rfl, rfl, rfl, Nat.le_refl _, fun _ _ => rfl⟩⟩
        · by_cases h4 : y.toNat < x.toNat
          · have hCC : decide (C < 0) = false := by rw [HD.out, if_neg h3, if_pos h4]; rfl
            have e1 : ((x.toNat : Int) == (y.toNat : Int)) = false := by rw [beq_eq_false_iff_ne]; omega
            have e2 : ((x.toNat : Int) != (y.toNat : Int)) = true := by simp; omega
            have HCC := Lib.hid hCC
            clear hCC
            go_wp2_with fail
            go_quiet (fail)
            go_wp2_with fail
            go_quiet (fail)
            go_wp2_with fail
            go_ret
            exact ⟨ret_bool (by rw [HCC.out]), hb.trans ⟨rfl, rfl, rfl, Nat.le_refl _, fun _ _ => rfl⟩⟩
          · obtain rfl : x = y := UInt8.toNat_inj.1 (by omega)
            have hCC : compareBytes (a.drop (j + 1)) (b.drop (j + 1)) = C := by rw [HD.out, if_neg h3, if_neg h4]
            have HCC := Lib.hid hCC
            clear hCC h3 h4
            go_wp2_with fail
            go_quiet (fail)
            go_wp2_with fail
            go_roundg (gk - 1)
            case measure => have := HJ.out; omega
            case rel => exact ⟨j + 1, by have := HJ.out; omega, by omega, by go_num, HCC.out, hb.trans ⟨rfl, rfl, rfl, Nat.le_refl _, fun _ _ => rfl⟩⟩
      · have hE := cmpB_end (a := a) (b := b) (j := j) (by omega) hjb (.inr (by omega))
        rw [HREST.out] at hE
        have HE : Hid (decide (C < 0) = decide (a.length < b.length)) := Lib.hid (by
          rw [hE]
          refine decide_eq_decide.2 ?_
          unfold compareInt
          split
          · exact ⟨fun _ => by omega, fun _ => by omega⟩
          · split <;> exact ⟨fun _ => by omega, fun _ => by omega⟩)
        clear hE
        go_wp2_with fail
        go_ret
        exact ⟨ret_bool (by rw [HE.out]), hb⟩
    · have hE := cmpB_end (a := a) (b := b) (j := j) (by have := HJ.out; omega) hjb (.inl (by have := HJ.out; omega))
      rw [HREST.out] at hE
      have HE : Hid (decide (C < 0) = decide (a.length < b.length)) := Lib.hid (by
        rw [hE]
        refine decide_eq_decide.2 ?_
        unfold compareInt
        split
        · exact ⟨fun _ => by omega, fun _ => by omega⟩
        · split <;> exact ⟨fun _ => by omega, fun _ => by omega⟩)
      clear hE
      go_wp2_with fail
      go_ret
      exact ⟨ret_bool (by rw [HE.out]), hb⟩
end Go.Proofs.YtcbfbmidekmboaaDoor
