/- How deep a value is, by the program: what the document's answer is. -/
import Derived.Test.YtijibjdgnaphiabDoorDepth
namespace Go.Proofs.YtijibjdgnaphiabDoor
open Go.ChangeShapes Go.WideShapes Go.Deep Go.RowKit

/-- An element written out. -/
theorem wpList_item_out {ops : Array Oper} {rest : List Oper} {a : Act} {w : World} {Q : Exit → Act → World → Prop} {dst : Option Tmp} {ty : TypeId} {ps : String} {af : Array Edge} {x : Operand} {b o : Nat}
    {k n : Int} {s : ByteArray} {na : Option Addr} {nc : Nat} {ns : List ByteArray} {xa : Option Addr} {xc : Nat} {xs : List AV}
    (hr : w.rangeAt b o (AV.mk k n s na nc ns xa xc xs).row) (hx : a.eval x = .pointer (some ⟨b, o, none⟩)) (h : wpList Tryd.prog ops Q rest (a.put dst (.agg #[.int .i64 k, .int .i64 n, .string s, .slice na ns.length nc, .slice xa xs.length xc])) w) :
    wpList Tryd.prog ops Q (⟨dst, .load 25 x, ty, ps, af, none⟩ :: rest) a w := wpList_item hr hx h

theorem depAll_append (m : Nat) (l r : List AV) : AV.depAll (l ++ r) m = max (AV.depAll l m) (AV.depAll r m) := by
  induction l with
  | nil => simp [AV.depAll]
  | cons t ts ih => simp [AV.depAll, ih, Nat.max_assoc]

theorem depAll_take_le (xs : List AV) (j m : Nat) : AV.depAll (xs.take j) m ≤ AV.depAll xs m := by
  have h := depAll_append m (xs.take j) (xs.drop j)
  rw [List.take_append_drop] at h
  rw [h]
  exact Nat.le_max_left _ _

/-- Where the greatest depth that may be is found, it is the depth. -/
theorem dep_done {xs : List AV} {j m A D : Nat} {x : AV} (hlt : j < xs.length) (hx : xs[j] = x) (hm : 2 ≤ m) (hA : AV.depAll (xs.take j) (m - 1) = A) (hD : AV.dep x (m - 1) = D) (h : max A D + 1 = m) : AV.depAll xs (m - 1) + 1 = m := by
  have h1 := depAll_take_le xs (j + 1) (m - 1)
  rw [dep_step hlt hx, hA, hD] at h1
  have h2 := dep_take_le xs xs.length (m - 1) (by omega)
  rw [List.take_length] at h2
  omega

end Go.Proofs.YtijibjdgnaphiabDoor
