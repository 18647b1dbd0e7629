/- Whether a value is formed: what the document's answer is. -/
import Derived.Test.YtijibjdgnaphiabDoorForms
import Derived.Deep.DeepCutAuto
namespace Go.Proofs.YtijibjdgnaphiabDoor
open Go.ChangeShapes Go.WideShapes Go.Deep Go.RowKit Go.Lib

namespace AV
mutual
def formedR : AV → Bool
  | mk k n s _ _ ns _ _ xs =>
    if 0 ≤ k ∧ k ≤ 6 ∧ (k = 3 ∨ n = 0) ∧ (k = 4 ∨ s.toList = []) ∧ (k = 6 ∨ ns.length ≤ 0) ∧ (5 ≤ k ∨ xs.length ≤ 0) ∧ xs.length ≤ 24 ∧ (k = 6 → ns.length = xs.length) then textOk s && (namesOk none ns && allR xs) else false
def allR : List AV → Bool
  | [] => true
  | t :: ts => formedR t && allR ts
end
theorem allR_drop {xs : List AV} {j : Nat} {x : AV} (hlt : j < xs.length) (hx : xs[j] = x) : allR (xs.drop j) = (formedR x && allR (xs.drop (j + 1))) := by
  rw [List.drop_eq_getElem_cons hlt, allR, hx]
end AV

theorem empty_false {s : ByteArray} (h : s.toList ≠ []) : s.toList.isEmpty = false := by
  cases hl : s.toList with
  | nil => exact absurd hl h
  | cons a t => rfl

end Go.Proofs.YtijibjdgnaphiabDoor
