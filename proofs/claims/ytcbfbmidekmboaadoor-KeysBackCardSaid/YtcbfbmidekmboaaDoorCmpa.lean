/- Numbers and texts compared, by the library and by the document: what the calls answer; no condition but that a text's length fits a machine's. -/
import Derived.Test.YtcbfbmidekmboaaDoorLex
import Derived.Test.YtcbfbmidekmboaaDoorText
import Derived.Deep.QuietTactic
import Derived.BigQuiet
namespace Go.Proofs.YtcbfbmidekmboaaDoor
open Go.ChangeShapes Go.WideShapes Go.Deep Go.RowKit Go.Lib

theorem nan_int (x : Int) (w : World) : Calls Tryd.prog 60 #[.int .i64 x] w fun e w' => e = .returned (.bool false) ∧ w' = w := by
  go_enter Tryd.func60, Tryd.ntmps60
  go_wp2
  go_ret
  exact ⟨rfl, rfl⟩

theorem nan_int64 (x : Int) (w : World) : Calls Tryd.prog 61 #[.int .i64 x] w fun e w' => e = .returned (.bool false) ∧ w' = w := by
  go_enter Tryd.func61, Tryd.ntmps61
  go_wp2
  go_ret
  exact ⟨rfl, rfl⟩

theorem cmp_int (x y : Int) (w : World) : Calls Tryd.prog 48 #[.int .i64 x, .int .i64 y] w fun e w' => e = .returned (.int .i64 (compareInt x y)) ∧ w' = w := by
  by_cases h1 : x < y
  · have e1 : compareInt x y = -1 := by unfold compareInt; rw [if_pos h1]
    rw [e1]
    clear e1
    go_enter Tryd.func48, Tryd.ntmps48
    go_wp2_with (go_at_call 60; refine (nan_int _ _).mono ?_; rintro e w' ⟨rfl, rfl⟩)
    go_ret
    exact ⟨rfl, rfl⟩
  · by_cases h2 : x > y
    · have e1 : compareInt x y = 1 := by unfold compareInt; rw [if_neg h1, if_pos h2]
      rw [e1]
      clear e1
      go_enter Tryd.func48, Tryd.ntmps48
      go_wp2_with (go_at_call 60; refine (nan_int _ _).mono ?_; rintro e w' ⟨rfl, rfl⟩)
      go_ret
      exact ⟨rfl, rfl⟩
    · have e1 : compareInt x y = 0 := by unfold compareInt; rw [if_neg h1, if_neg h2]
      rw [e1]
      clear e1
      go_enter Tryd.func48, Tryd.ntmps48
      go_wp2_with (go_at_call 60; refine (nan_int _ _).mono ?_; rintro e w' ⟨rfl, rfl⟩)
      go_ret
      exact ⟨rfl, rfl⟩

theorem cmp_int64 (x y : Int) (w : World) : Calls Tryd.prog 49 #[.int .i64 x, .int .i64 y] w fun e w' => e = .returned (.int .i64 (compareInt x y)) ∧ w' = w := by
  by_cases h1 : x < y
  · have e1 : compareInt x y = -1 := by unfold compareInt; rw [if_pos h1]
    rw [e1]
    clear e1
    go_enter Tryd.func49, Tryd.ntmps49
    go_wp2_with (go_at_call 61; refine (nan_int64 _ _).mono ?_; rintro e w' ⟨rfl, rfl⟩)
    go_ret
    exact ⟨rfl, rfl⟩
  · by_cases h2 : x > y
    · have e1 : compareInt x y = 1 := by unfold compareInt; rw [if_neg h1, if_pos h2]
      rw [e1]
      clear e1
      go_enter Tryd.func49, Tryd.ntmps49
      go_wp2_with (go_at_call 61; refine (nan_int64 _ _).mono ?_; rintro e w' ⟨rfl, rfl⟩)
      go_ret
      exact ⟨rfl, rfl⟩
    · have e1 : compareInt x y = 0 := by unfold compareInt; rw [if_neg h1, if_neg h2]
      rw [e1]
      clear e1
      go_enter Tryd.func49, Tryd.ntmps49
      go_wp2_with (go_at_call 61; refine (nan_int64 _ _).mono ?_; rintro e w' ⟨rfl, rfl⟩)
      go_ret
      exact ⟨rfl, rfl⟩

end Go.Proofs.YtcbfbmidekmboaaDoor
