/- Numbers and texts compared, by the library and by the document: what the calls answer; no condition but that a text's length fits a machine's. -/
/- Texts compared, by the document: what the call answers; no condition but that a text's length fits a machine's. -/
import Derived.Test.YtcbfbmidekmboaaDoorLex
import Derived.Test.YtcbfbmidekmboaaDoorText
import Derived.Deep.QuietTactic
import Derived.BigQuiet
namespace Go.Proofs.YtcbfbmidekmboaaDoor
open Go.ChangeShapes Go.WideShapes Go.Deep Go.RowKit Go.Lib

theorem nan_int (x : Int) (w : World) : Calls Tryd.prog 60 #[.int .i64 x] w fun e w' => e = .returned (.bool false) ∧ w' = w := by
  go_enter Tryd.func60, Tryd.ntmps60
  go_wp2
  go_ret
  exact ⟨rfl, rfl⟩

theorem nan_int64 (x : Int) (w : World) : Calls Tryd.prog 61 #[.int .i64 x] w fun e w' => e = .returned (.bool false) ∧ w' = w := by
  go_enter Tryd.func61, Tryd.ntmps61
  go_wp2
  go_ret
  exact ⟨rfl, rfl⟩

theorem cmp_int (x y : Int) (w : World) : Calls Tryd.prog 48 #[.int .i64 x, .int .i64 y] w fun e w' => e = .returned (.int .i64 (compareInt x y)) ∧ w' = w := by
  by_cases h1 : x < y
  · have e1 : compareInt x y = -1 := by unfold compareInt; rw [if_pos h1]
    rw [e1]
    clear e1
    go_enter Tryd.func48, Tryd.ntmps48
    go_wp2_with (go_at_call 60; refine (nan_int _ _).mono ?_; rintro e w' ⟨rfl, rfl⟩)
    go_ret
    exact ⟨rfl, rfl⟩
  · by_cases h2 : x > y
    · have e1 : compareInt x y = 1 := by unfold compareInt; rw [if_neg h1, if_pos h2]
      rw [e1]
      clear e1
      go_enter Tryd.func48, Tryd.ntmps48
      go_wp2_with (go_at_call 60; refine (nan_int _ _).mono ?_; rintro e w' ⟨rfl, rfl⟩)
      go_ret
      exact ⟨rfl, rfl⟩
    · have e1 : compareInt x y = 0 := by unfold compareInt; rw [if_neg h1, if_neg h2]
      rw [e1]
      clear e1
      go_enter Tryd.func48, Tryd.ntmps48
      go_wp2_with (go_at_call 60; refine (nan_int _ _).mono ?_; rintro e w' ⟨rfl, rfl⟩)
      go_ret
      exact ⟨rfl, rfl⟩

theorem cmp_int64 (x y : Int) (w : World) : Calls Tryd.prog 49 #[.int .i64 x, .int .i64 y] w fun e w' => e = .returned (.int .i64 (compareInt x y)) ∧ w' = w := by
  by_cases h1 : x < y
  · have e1 : compareInt x y = -1 := by unfold compareInt; rw [if_pos h1]
    rw [e1]
    clear e1
    go_enter Tryd.func49, Tryd.ntmps49
    go_wp2_with (go_at_call 61; refine (nan_int64 _ _).mono ?_; rintro e w' ⟨rfl, rfl⟩)
    go_ret
    exact ⟨rfl, rfl⟩
  · by_cases h2 : x > y
    · have e1 : compareInt x y = 1 := by unfold compareInt; rw [if_neg h1, if_pos h2]
      rw [e1]
      clear e1
      go_enter Tryd.func49, Tryd.ntmps49
      go_wp2_with (go_at_call 61; refine (nan_int64 _ _).mono ?_; rintro e w' ⟨rfl, rfl⟩)
      go_ret
      exact ⟨rfl, rfl⟩
    · have e1 : compareInt x y = 0 := by unfold compareInt; rw [if_neg h1, if_neg h2]
      rw [e1]
      clear e1
      go_enter Tryd.func49, Tryd.ntmps49
      go_wp2_with (go_at_call 61; refine (nan_int64 _ _).mono ?_; rintro e w' ⟨rfl, rfl⟩)
      go_ret
      exact ⟨rfl, rfl⟩

end Go.Proofs.YtcbfbmidekmboaaDoor

namespace Go.Proofs.YtcbfbmidekmboaaDoor
open Go.ChangeShapes Go.WideShapes Go.Deep Go.RowKit Go.Lib

theorem ret_i64 {a b : Int} (h : a = b) : Ending.returned (.int .i64 a) = .returned (.int .i64 b) := by rw [h]

theorem cmpB_drop {a b : List UInt8} {j : Nat} (h : j < a.length) (h' : j < b.length) : compareBytes (a.drop j) (b.drop j) = if a[j].toNat < b[j].toNat then -1 else if b[j].toNat < a[j].toNat then 1 else compareBytes (a.drop (j + 1)) (b.drop (j + 1)) := by
  rw [List.drop_eq_getElem_cons h, List.drop_eq_getElem_cons h', compareBytes]
  simp only [UInt8.lt_iff_toNat_lt]

theorem cmpB_end {a b : List UInt8} {j : Nat} (hj : j ≤ a.length) (hj' : j ≤ b.length) (h : j = a.length ∨ j = b.length) : compareBytes (a.drop j) (b.drop j) = compareInt a.length b.length := by
  rcases h with h | h
  · rw [List.drop_eq_nil_of_le (by omega)]
    by_cases h' : j = b.length
    · rw [List.drop_eq_nil_of_le (by omega), show a.length = b.length by omega]
      simp [compareBytes, compareInt]
    · obtain ⟨c, l, e⟩ : ∃ c l, b.drop j = c :: l := ⟨_, _, List.drop_eq_getElem_cons (by omega)⟩
      rw [e]
      unfold compareInt
      rw [if_pos (by omega)]
      rfl
  · rw [show b.drop j = [] from List.drop_eq_nil_of_le (by omega)]
    by_cases h' : j = a.length
    · rw [List.drop_eq_nil_of_le (by omega), show a.length = b.length by omega]
      simp [compareBytes, compareInt]
    · obtain ⟨c, l, e⟩ : ∃ c l, a.drop j = c :: l := ⟨_, _, List.drop_eq_getElem_cons (by omega)⟩
      rw [e]
      unfold compareInt
      rw [if_neg (by omega), if_pos (by omega)]
      rfl

end Go.Proofs.YtcbfbmidekmboaaDoor
