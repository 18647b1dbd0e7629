/- The program is awake: what the statements' own call answers; no condition of ours. -/
import Derived.Test.YtcbfbmidekmboaaDoorKeyp
namespace Go.Proofs.YtcbfbmidekmboaaDoor
open Go.ChangeShapes Go.WideShapes Go.Deep Go.RowKit Go.Lib

/-- The text of one letter. -/
def AV.letA : AV := .mk 4 0 ⟨#[97]⟩ none 0 [] none 0 []

theorem letA_in (w : World) : AV.letA.In w := by
  rw [AV.letA, AV.In]
  exact ⟨by decide, by decide, by unfold maxLen; decide, by simp, by simp [maxLen], by simp, by simp [maxLen], by simp, .inl rfl, (fun b o e => by cases e), .inl rfl⟩

theorem letA_formed : AV.formedJ AV.letA 6 = true := by
  have h : textOk ⟨#[97]⟩ = true := by unfold textOk; decide
  simp [AV.letA, AV.formedJ, h]

theorem letA_key : AV.key AV.letA = [5, 97, 0, 0] := by
  simp [AV.letA, AV.key, textL, escL]

set_option maxHeartbeats 2000000 in
set_option maxRecDepth 100000 in
theorem awake_any (w : World) (hT : Tabs w) : Calls Tryd.prog 9 #[] w fun e w' => e = .returned (.bool true) ∧ Below w.heap.size w w' := by
  have CALL := Key_any AV.letA w (letA_in w) hT
  unfold KeyGave keyR keyE at CALL
  rw [if_pos letA_formed, if_pos letA_formed, letA_key] at CALL
  simp only [AV.letA, AV.val, AV.row] at CALL
  have CALL2 := Lib.hid CALL
  clear CALL hT
  go_enter Tryd.func9, Tryd.ntmps9
  go_wp2_with fail
  refine (CALL2.out).mono ?_
  rintro e w1 ⟨na, cap, rfl, hin, hb⟩
  obtain ⟨b, o, rfl, h⟩ := hin.resolve_left (by simp)
  have c0 : w1.cell? ⟨b, o, none⟩ = some (.int .u8 5) := h 0 (by simp)
  clear hin h
  go_wp2_with fail
  go_ret
  exact ⟨rfl, hb⟩
end Go.Proofs.YtcbfbmidekmboaaDoor
