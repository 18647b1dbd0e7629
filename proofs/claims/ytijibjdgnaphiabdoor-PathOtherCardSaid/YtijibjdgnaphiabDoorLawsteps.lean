/- PathSteps: the program and the document tell every text's steps alike (2000 bytes): the walk of the statement. -/
import Derived.Test.YtijibjdgnaphiabDoorRsteps
import Derived.Deep.QuietTactic
import Derived.BigQuiet
namespace Go.Proofs.YtijibjdgnaphiabDoor
open Go.ChangeShapes Go.WideShapes Go.Deep Go.RowKit Go.Lib

def ofList (l : List UInt8) : ByteArray := ⟨l.toArray⟩

theorem ofList_data (b : ByteArray) : ofList b.data.toList = b := by
  unfold ofList
  apply ByteArray.ext
  simp

/-- The steps that are answered, and the error. -/
def stepNames (l : List UInt8) : List ByteArray := match stepsOf l with
  | some ps => ps.map ofList
  | none => []
def stepErr (l : List UInt8) : Int := match stepsOf l with
  | some _ => 0
  | none => 2

theorem StepsEnd.told {s : ByteArray} {w : World} {e : Ending} {w' : World} (h : StepsEnd s w e w') :
    ∃ na c, e = .returned (.tuple #[.slice na (stepNames s.data.toList).length c, .int .i64 (stepErr s.data.toList)]) ∧ AV.NamesIn w' na (stepNames s.data.toList) ∧ Below w.heap.size w w' ∧ ∀ a, na = some a → w.heap.size ≤ a.block := by
  obtain ⟨hb, ⟨h1, rfl⟩ | ⟨na, c, ns, h1, rfl, hin, hfr⟩⟩ := h
  · refine ⟨none, 0, ?_, ?_, hb, by simp⟩
    · simp [stepNames, stepErr, h1]
    · simp [stepNames, h1, AV.NamesIn]
  · have e : stepNames s.data.toList = ns := by
      simp only [stepNames, h1, List.map_map]
      conv => rhs; rw [← List.map_id ns]
      exact List.map_congr_left fun b _ => ofList_data b
    refine ⟨na, c, ?_, ?_, hb, hfr⟩
    · rw [e]; simp [stepErr, h1]
    · rw [e]; exact hin

theorem names_ab : stepNames [97, 46, 98] = [⟨#[97]⟩, ⟨#[98]⟩] ∧ stepErr [97, 46, 98] = 0 := by decide +kernel

theorem steps_len (l : List UInt8) : (stepNames l).length ≤ 4 := by
  unfold stepNames stepsOf
  split
  · rename_i ps h
    split at h
    · rename_i h1
      rw [← Option.some.inj h]
      simpa using h1.1
    · cases h
  · simp

set_option maxRecDepth 100000 in
theorem awakep_any (w : World) (hT : Tabs w) (hM : MaxL w) : Calls Tryd.prog 4 #[] w fun e w' => e = .returned (.bool true) ∧ Below w.heap.size w w' := by
  have CALL := Lib.hid ((Steps_any ⟨#[97, 46, 98]⟩ w (by decide) hT hM).mono fun _ _ h => StepsEnd.told h)
  rw [show (⟨#[97, 46, 98]⟩ : ByteArray).data.toList = [97, 46, 98] from rfl, names_ab.1, names_ab.2] at CALL
  go_enter Tryd.func4, Tryd.ntmps4
  go_wp2_with fail
  refine CALL.out.mono ?_
  rintro e w1 ⟨na, c, rfl, hin, hb, _⟩
  obtain ⟨b, o, rfl, hit⟩ := hin.resolve_left (by simp)
  have h1 : w1.cell? ⟨b, o + 1, none⟩ = some (.string ⟨#[98]⟩) := hit 1 (by decide)
  clear hit hin
  go_wp2_with fail
  go_ret
  exact ⟨rfl, hb⟩

end Go.Proofs.YtijibjdgnaphiabDoor
