/- A step's place in a value, by the document's answer. -/
import Derived.Test.YtijibjdgnaphiabDoorPfindv
import Derived.Test.YtijibjdgnaphiabDoorRsteps
namespace Go.Proofs.YtijibjdgnaphiabDoor
open Go.ChangeShapes Go.WideShapes Go.Deep Go.RowKit Go.Lib

/-- What the document's calls tell: -1, where there is none. -/
def numI : Option Nat → Int
  | some u => u
  | none => -1

theorem num_plain {l : List UInt8} (h0 : l ≠ []) (h4 : l.length ≤ 4) (hz : l.length = 1 ∨ l.head? ≠ some 48) : numL l = match Lib.parseUintM 4294967295 0 l with | .ok u => some u | _ => none := by
  unfold numL Lib.parseUintB
  rw [if_neg h0, show (2 ^ 32 - 1 : Nat) = 4294967295 from rfl]
  have hc : l.length ≤ 4 ∧ (l = [48] ∨ l.head? ≠ some 48) := by
    refine ⟨h4, ?_⟩
    rcases hz with h1 | h1
    · match l, h1 with
      | [c], _ =>
        by_cases hc : c = 48
        · exact .inl (by rw [hc])
        · exact .inr (by simpa using hc)
    · exact .inr h1
  cases Lib.parseUintM 4294967295 0 l <;> simp [hc]

theorem num_long {l : List UInt8} (h : ¬ l.length ≤ 4) : numL l = none := by
  unfold numL
  cases Lib.parseUintB 32 l <;> simp [h]

theorem num_lead {l : List UInt8} (h1 : 1 < l.length) (h2 : l.head? = some 48) : numL l = none := by
  unfold numL
  have : ¬ (l = [48] ∨ l.head? ≠ some 48) := by
    rintro (h | h)
    · rw [h] at h1; simp at h1
    · exact h h2
  cases Lib.parseUintB 32 l <;> simp [this]

theorem str_eq_true {x y : ByteArray} (h : x = y) : (x.toList == y.toList) = true := by rw [h]; simp
theorem str_eq_no {x y : ByteArray} (h : x ≠ y) : (x.toList == y.toList) = false := by
  rw [beq_eq_false_iff_ne]
  intro e
  rw [ByteArray.toList_eq, ByteArray.toList_eq] at e
  exact h (ByteArray.ext (Array.ext' e))

end Go.Proofs.YtijibjdgnaphiabDoor
