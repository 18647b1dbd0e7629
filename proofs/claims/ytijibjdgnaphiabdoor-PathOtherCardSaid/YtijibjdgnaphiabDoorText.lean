/- Whether a text is valid, by the document's answer: just where the model's decoder finds no fault in it. -/
import Derived.Test.YtijibjdgnaphiabDoorAwake
import Derived.Test.YtijibjdgnaphiabDoorUtf
import Derived.Laws.RangeAny
namespace Go.Proofs.YtijibjdgnaphiabDoor
open Go.ChangeShapes Go.WideShapes Go.Deep Go.RowKit Go.Lib

theorem below_iter {B : Nat} {a w : World} (h : Below B a w) (hB : B ≤ w.heap.size) (s : ByteArray) (p : Nat) : Below B a (w.iter s p) := h.alloc hB _

theorem drop_ne (s : ByteArray) {i : Nat} (h : i < s.size) : s.data.toList.drop i ≠ [] := by
  intro e
  have := congrArg List.length e
  simp at this
  have : s.data.size = s.size := rfl
  omega

theorem drop_nil (s : ByteArray) {i : Nat} (h : ¬ i < s.size) : s.data.toList.drop i = [] := by
  apply List.drop_eq_nil_of_le
  have : s.data.size = s.size := rfl
  simp
  omega

theorem extract3 (s : ByteArray) (i : Nat) : (s.extract i (i + 3)).toList = (s.data.toList.drop i).take 3 := by
  rw [ByteArray.toList_eq, extract_data]
  congr 1
  omega

theorem valid_other {l : List UInt8} (hne : l ≠ []) (h : (decodeL l).1 ≠ 65533) : validD (l.drop (decodeL l).2) = validD l := by
  rw [validD_step l hne, if_neg (fun e => h e.1)]
theorem valid_same {l : List UInt8} (hne : l ≠ []) (h : (decodeL l).1 = 65533) (h3 : l.take 3 = [239, 191, 189]) : validD (l.drop (decodeL l).2) = validD l := by
  rw [validD_step l hne, if_neg ((fffd l hne h).2 h3)]
theorem valid_not {l : List UInt8} (hne : l ≠ []) (h : (decodeL l).1 = 65533) (h3 : l.take 3 ≠ [239, 191, 189]) : validD l = false := by
  rw [validD_step l hne, if_pos]
  exact Classical.not_not.1 fun hp => h3 ((fffd l hne h).1 hp)

theorem codes_length : ∀ (n : Nat) (l : List UInt8), (codes n l).length ≤ n
  | 0, _ => by simp [codes]
  | n + 1, l => by
    unfold codes
    split
    · simp
    · have := codes_length n (l.drop (decodeL l).2)
      simp
      omega

/-- A text that may be a string or a name. -/
def textOk (s : ByteArray) : Bool := decide (s.size ≤ 60) && validD s.data.toList

end Go.Proofs.YtijibjdgnaphiabDoor
