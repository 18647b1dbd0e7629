/- Whether two values are alike: what the program answers, as far as the levels go; no condition of ours. -/
import Derived.Test.YtijibjdgnaphiabDoorFormed
namespace Go.Proofs.YtijibjdgnaphiabDoor
open Go.ChangeShapes Go.WideShapes Go.Deep Go.RowKit Go.Lib

namespace AV
mutual
/-- Are two values alike, so many levels down? -/
def sameJ : AV → AV → Nat → Bool
  | mk k n s _ _ ns _ _ xs, mk k' n' s' _ _ ns' _ _ xs', lv => decide (lv ≠ 0 ∧ k = k' ∧ n = n' ∧ s = s' ∧ xs.length = xs'.length ∧ ns = ns') && sameAll xs xs' (lv - 1)
def sameAll : List AV → List AV → Nat → Bool
  | [], _, _ => true
  | _ :: _, [], _ => true
  | x :: xs, y :: ys, lv => sameJ x y lv && sameAll xs ys lv
end

theorem sameAll_drop {xs ys : List AV} {j lv : Nat} {x y : AV} (hlt : j < xs.length) (hx : xs[j] = x) (hlt' : j < ys.length) (hy : ys[j] = y) : sameAll (xs.drop j) (ys.drop j) lv = (sameJ x y lv && sameAll (xs.drop (j + 1)) (ys.drop (j + 1)) lv) := by
  rw [List.drop_eq_getElem_cons hlt, List.drop_eq_getElem_cons hlt', sameAll, hx, hy]
end AV

theorem toList_inj {s t : ByteArray} (h : s.toList = t.toList) : s = t := by
  rw [ByteArray.toList_eq, ByteArray.toList_eq] at h
  exact ByteArray.ext (Array.ext' h)
theorem str_ne {s t : ByteArray} (h : s ≠ t) : (s.toList != t.toList) = true := by
  rw [bne_iff_ne]; exact fun e => h (toList_inj e)
theorem str_eq_false {s t : ByteArray} (h : s ≠ t) : (s.toList == t.toList) = false := by
  rw [beq_eq_false_iff_ne]; exact fun e => h (toList_inj e)

theorem two_below (w : World) (o o' : Obj) : Below w.heap.size w ((w.alloc o).alloc o') := ((Below.refl _ _).alloc (Nat.le_refl _) _).alloc (by simp) _

end Go.Proofs.YtijibjdgnaphiabDoor
