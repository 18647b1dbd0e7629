/- How deep a value is, by the program and by the document's answer: both come to one number. -/
import Derived.Test.YtijibjdgnaphiabDoorProg
import Derived.Test.YtijibjdgnaphiabDoorTree
import Derived.WalkLawsBesides
import Derived.WalkSpells
import Derived.LoopTactic
import Derived.Deep.LoopGhost
import Derived.Deep.RegionHeld3
import Derived.Outline
import Derived.Lib.Hide
namespace Go.Proofs.YtijibjdgnaphiabDoor
open Go.ChangeShapes Go.WideShapes Go.Deep Go.RowKit

namespace AV
mutual
def dep : AV → Nat → Nat
  | mk k _ _ _ _ _ _ _ xs, m => if (k ≠ 5 ∧ k ≠ 6) ∨ m = 1 then 1 else depAll xs (m - 1) + 1
def depAll : List AV → Nat → Nat
  | [], _ => 0
  | t :: ts, m => max (dep t m) (depAll ts m)
end

theorem depAll_snoc (m : Nat) (x : AV) : ∀ l : List AV, depAll (l ++ [x]) m = max (depAll l m) (dep x m)
  | [] => by simp [depAll]
  | t :: ts => by simp [depAll, depAll_snoc m x ts, Nat.max_assoc]

theorem depAll_le {m : Nat} {l : List AV} (h : ∀ x ∈ l, dep x m ≤ m) : depAll l m ≤ m := by
  induction l with
  | nil => simp [depAll]
  | cons t ts ih => simp only [depAll]; exact Nat.max_le.2 ⟨h t (by simp), ih fun x hx => h x (by simp [hx])⟩

theorem dep_le : ∀ (t : AV) (m : Nat), 1 ≤ m → dep t m ≤ m := by
  intro t
  induction t using AV.ind with
  | h k n s na nc ns xa xc xs ih =>
    intro m hm
    simp only [dep]
    split
    · exact hm
    · rename_i h
      have h1 : m ≠ 1 := fun e => h (.inr e)
      have := depAll_le (m := m - 1) (l := xs) (fun x hx => ih x hx (m - 1) (by omega))
      omega
end AV



theorem cells25 : Tryd.prog.cellsOf 25 = 5 := by kernel_rfl
theorem size25 : (Tryd.prog.info? 25).map (·.size) = some 5 := by kernel_rfl

/-- The load of an element. -/
theorem load_item {w : World} {b o : Nat} {t : AV} (h : w.rangeAt b o t.row) : (Instr.loadAt 25 (.pointer (some ⟨b, o, none⟩))).run Tryd.prog w = .ok t.val w :=
  run_loadAt_mid w b o 25 t.row _ h Tryd.underlying25 rfl (by rw [t.row_length]; exact size25)

/-- .. as the walk meets it. -/
theorem wpList_item {ops : Array Oper} {rest : List Oper} {a : Act} {w : World} {Q : Exit → Act → World → Prop} {dst : Option Tmp} {ty : TypeId} {ps : String} {af : Array Edge} {x : Operand} {b o : Nat} {t : AV}
    (hr : w.rangeAt b o t.row) (hx : a.eval x = .pointer (some ⟨b, o, none⟩)) (h : wpList Tryd.prog ops Q rest (a.put dst t.val) w) :
    wpList Tryd.prog ops Q (⟨dst, .load 25 x, ty, ps, af, none⟩ :: rest) a w :=
  wpList_load_mid rfl 25 x rfl b o hx t.row _ hr Tryd.underlying25 rfl (by rw [t.row_length]; exact size25) h

theorem dep_step {xs : List AV} {j p : Nat} {x : AV} (hlt : j < xs.length) (hx : xs[j] = x) : AV.depAll (xs.take (j + 1)) p = max (AV.depAll (xs.take j) p) (AV.dep x p) := by
  rw [List.take_succ_eq_append_getElem hlt, AV.depAll_snoc, hx]

theorem dep_take_le (xs : List AV) (j p : Nat) (hp : 1 ≤ p) : AV.depAll (xs.take j) p ≤ p := AV.depAll_le fun x _ => AV.dep_le x p hp

theorem cell_later {w w' : World} {p : Addr} {v : Value} (h : w.cell? p = some v) (hb : Below w.heap.size w w') : w'.cell? p = some v := by
  rw [hb.cell (World.block_lt_of_cell? w _ h)]; exact h

theorem int_eq {a b : Int} (h : a = b) : Value.int .i64 a = Value.int .i64 b := by rw [h]
theorem ret_int {a b : Int} (h : a = b) : Ending.returned (.int .i64 a) = .returned (.int .i64 b) := by rw [h]

end Go.Proofs.YtijibjdgnaphiabDoor
