/- How deep a value is, by the program and by the document's answer: both come to one number. -/
/- An element of a row written out, as the walk loads it; no condition. -/
import Derived.Test.YtcbfbmidekmboaaDoorProg
import Derived.Test.YtcbfbmidekmboaaDoorTree
import Derived.WalkLawsBesides
import Derived.WalkSpells
import Derived.LoopTactic
import Derived.Deep.LoopGhost
import Derived.Deep.RegionHeld3
import Derived.Outline
import Derived.Lib.Hide
namespace Go.Proofs.YtcbfbmidekmboaaDoor
open Go.ChangeShapes Go.WideShapes Go.Deep Go.RowKit

namespace AV
mutual
def dep : AV → Nat → Nat
  | mk k _ _ _ _ _ _ _ xs, m => if (k ≠ 5 ∧ k ≠ 6) ∨ m = 1 then 1 else depAll xs (m - 1) + 1
def depAll : List AV → Nat → Nat
  | [], _ => 0
  | t :: ts, m => max (dep t m) (depAll ts m)
end

theorem depAll_snoc (m : Nat) (x : AV) : ∀ l : List AV, depAll (l ++ [x]) m = max (depAll l m) (dep x m)
  | [] => by simp [depAll]
  | t :: ts => by simp [depAll, depAll_snoc m x ts, Nat.max_assoc]

theorem depAll_le {m : Nat} {l : List AV} (h : ∀ x ∈ l, dep x m ≤ m) : depAll l m ≤ m := by
  induction l with
  | nil => simp [depAll]
  | cons t ts ih => simp only [depAll]; exact Nat.max_le.2 ⟨h t (by simp), ih fun x hx => h x (by simp [hx])⟩

theorem dep_le : ∀ (t : AV) (m : Nat), 1 ≤ m → dep t m ≤ m := by
  intro t
  induction t using AV.ind with
  | h k n s na nc ns xa xc xs ih =>
    intro m hm
    simp only [dep]
    split
    · exact hm
    · rename_i h
      have h1 : m ≠ 1 := fun e => h (.inr e)
      have := depAll_le (m := m - 1) (l := xs) (fun x hx => ih x hx (m - 1) (by omega))
      omega
end AV



theorem cells25 : Tryd.prog.cellsOf 25 = 5 := by kernel_rfl
theorem size25 : (Tryd.prog.info? 25).map (·.size) = some 5 := by kernel_rfl

/-- The load of an element. -/
theorem load_item {w : World} {b o : Nat} {t : AV} (h : w.rangeAt b o t.row) : (Instr.loadAt 25 (.pointer (some ⟨b, o, none⟩))).run Tryd.prog w = .ok t.val w :=
  run_loadAt_mid w b o 25 t.row _ h Tryd.underlying25 rfl (by rw [t.row_length]; exact size25)

/-- .. as the walk meets it. -/
theorem wpList_item {ops : Array Oper} {rest : List Oper} {a : Act} {w : World} {Q : Exit → Act → World → Prop} {dst : Option Tmp} {ty : TypeId} {ps : String} {af : Array Edge} {x : Operand} {b o : Nat} {t : AV}
    (hr : w.rangeAt b o t.row) (hx : a.eval x = .pointer (some ⟨b, o, none⟩)) (h : wpList Tryd.prog ops Q rest (a.put dst t.val) w) :
    wpList Tryd.prog ops Q (⟨dst, .load 25 x, ty, ps, af, none⟩ :: rest) a w :=
  wpList_load_mid rfl 25 x rfl b o hx t.row _ hr Tryd.underlying25 rfl (by rw [t.row_length]; exact size25) h

theorem rdepth_leaf (k n m : Int) (s : ByteArray) (na : Option Addr) (nc : Nat) (ns : List ByteArray) (xa : Option Addr) (xc : Nat) (xs : List AV) (w : World) (hk5 : k ≠ 5) (hk6 : k ≠ 6) :
    Calls Tryd.prog 52 #[(AV.mk k n s na nc ns xa xc xs).val, .int .i64 m] w fun e w' => e = .returned (.int .i64 (1 : Nat)) ∧ Below w.heap.size w w' := by
  simp only [AV.val, AV.row]
  go_enter Tryd.func52, Tryd.ntmps52
  go_wp2_with fail
  go_ret
  exact ⟨rfl, (Below.refl _ _).alloc (Nat.le_refl _) _⟩

theorem rdepth_one (k n : Int) (s : ByteArray) (na : Option Addr) (nc : Nat) (ns : List ByteArray) (xa : Option Addr) (xc : Nat) (xs : List AV) (w : World) (hk : k = 5 ∨ k = 6) :
    Calls Tryd.prog 52 #[(AV.mk k n s na nc ns xa xc xs).val, .int .i64 1] w fun e w' => e = .returned (.int .i64 (1 : Nat)) ∧ Below w.heap.size w w' := by
  simp only [AV.val, AV.row]
  rcases hk with rfl | rfl
  all_goals
    go_enter Tryd.func52, Tryd.ntmps52
    go_wp2_with fail
    go_ret
    exact ⟨rfl, (Below.refl _ _).alloc (Nat.le_refl _) _⟩

theorem dep_step {xs : List AV} {j p : Nat} {x : AV} (hlt : j < xs.length) (hx : xs[j] = x) : AV.depAll (xs.take (j + 1)) p = max (AV.depAll (xs.take j) p) (AV.dep x p) := by
  rw [List.take_succ_eq_append_getElem hlt, AV.depAll_snoc, hx]

theorem dep_take_le (xs : List AV) (j p : Nat) (hp : 1 ≤ p) : AV.depAll (xs.take j) p ≤ p := AV.depAll_le fun x _ => AV.dep_le x p hp

theorem cell_later {w w' : World} {p : Addr} {v : Value} (h : w.cell? p = some v) (hb : Below w.heap.size w w') : w'.cell? p = some v := by
  rw [hb.cell (World.block_lt_of_cell? w _ h)]; exact h

theorem int_eq {a b : Int} (h : a = b) : Value.int .i64 a = Value.int .i64 b := by rw [h]
theorem ret_int {a b : Int} (h : a = b) : Ending.returned (.int .i64 a) = .returned (.int .i64 b) := by rw [h]

set_option maxHeartbeats 400000 in
set_option maxRecDepth 100000 in
theorem rdepth_many (k n m : Int) (s : ByteArray) (na : Option Addr) (nc : Nat) (ns : List ByteArray) (xa : Option Addr) (xc : Nat) (xs : List AV) (w : World) (hin : (AV.mk k n s na nc ns xa xc xs).In w) (hk : k = 5 ∨ k = 6)
    (h1 : 2 ≤ m) (h2 : m ≤ 1000)
    (IH : Hid (∀ x ∈ xs, ∀ (m : Int) (w : World), x.In w → 1 ≤ m → m ≤ 1000 → Calls Tryd.prog 52 #[x.val, .int .i64 m] w fun e w' => e = .returned (.int .i64 (AV.dep x m.toNat : Nat)) ∧ Below w.heap.size w w')) :
    Calls Tryd.prog 52 #[(AV.mk k n s na nc ns xa xc xs).val, .int .i64 m] w fun e w' => e = .returned (.int .i64 ((AV.depAll xs (m.toNat - 1) + 1 : Nat) : Int)) ∧ Below w.heap.size w w' := by
  have hm1 : (m == 1) = false := by simp; omega
  have hlen : xs.length ≤ 9223372036854775807 := by
    rw [AV.In] at hin
    have h6 := hin.2.2.2.2.2.1
    have h7 := hin.2.2.2.2.2.2.1
    unfold maxLen at h7
    omega
  have HIN := Lib.hid hin
  clear hin
  simp only [AV.val, AV.row]
  rcases hk with rfl | rfl
  all_goals
    go_enter Tryd.func52, Tryd.ntmps52
    go_wp2_with fail
    go_loopg [5, 6] xs.length (fun g v i wr => ∃ j : Nat, j + g = xs.length ∧ i = .int .i64 (j : Int) ∧ v = .int .i64 ((AV.depAll (xs.take j) (m.toNat - 1) : Nat) : Int) ∧ Below w.heap.size w wr ∧ w.heap.size < wr.heap.size ∧ wr.cell? ⟨w.heap.size, 4, none⟩ = some (.slice xa xs.length xc))
    case atStart => exact ⟨0, by omega, rfl, by simp [AV.depAll], (Below.refl _ _).alloc (Nat.le_refl _) _, by simp, by simp⟩
    case round =>
      obtain ⟨j, hj, rfl, rfl, hb, hz, hc⟩ := hrel
      have HJ := Lib.hid hj
      clear hj
      by_cases hlt : j < xs.length
      · obtain ⟨b, o, rfl, hit⟩ := HIN.out.item (by intro e; rw [e] at hlt; simp at hlt)
        have hxin : AV.In wr xs[j] := (hit j hlt).2.below hb (Nat.le_refl _)
        have hr : wr.rangeAt b (o + j * 5) xs[j].row := AV.rangeAt_old (fun a ha => hb.cell ha) (hit j hlt).1
        have hmem : xs[j] ∈ xs := List.getElem_mem hlt
        obtain ⟨x, hx⟩ : ∃ x, xs[j] = x := ⟨_, rfl⟩
        rw [hx] at hxin hr hmem
        have HX := Lib.hid hx
        have CALL := Lib.hid (IH.out x hmem (m - 1) wr hxin (by omega) (by omega))
        have HR := Lib.hid hr
        clear hx hit hr
        go_wp2_with (first | ((with_reducible refine wpList_item HR.out ?_ ?_); rfl) | (go_at_call 52; refine CALL.out.mono ?_; rintro e w1 ⟨rfl, hb1⟩))
        all_goals
          go_roundg (gk - 1)
          case measure => have := HJ.out; omega
          case rel =>
            have hx := HX.out
            have hj := HJ.out
            refine ⟨j + 1, by omega, by go_num, int_eq ?_, hb.trans (hb1.mono (by omega)), by have := hb1.size; omega, cell_later hc hb1⟩
            rw [dep_step hlt hx]
            omega
      · have hd := dep_take_le xs j (m.toNat - 1) (by omega)
        have hj : j = xs.length := by have := HJ.out; omega
        have HJJ := Lib.hid hj
        clear hj
        go_wp2_with fail
        go_ret
        refine ⟨ret_int ?_, hb⟩
        have hj := HJJ.out
        rw [hj, List.take_length]
        omega

theorem rdepth_any : ∀ (t : AV) (m : Int) (w : World), t.In w → 1 ≤ m → m ≤ 1000 →
    Calls Tryd.prog 52 #[t.val, .int .i64 m] w fun e w' => e = .returned (.int .i64 (AV.dep t m.toNat : Nat)) ∧ Below w.heap.size w w' := by
  intro t
  induction t using AV.ind with
  | h k n s na nc ns xa xc xs ih =>
    intro m w hin h1 h2
    by_cases hk : k = 5 ∨ k = 6
    · by_cases hm : m = 1
      · subst hm
        have e : AV.dep (.mk k n s na nc ns xa xc xs) (1 : Int).toNat = 1 := by simp [AV.dep]
        rw [e]
        exact rdepth_one k n s na nc ns xa xc xs w hk
      · have e : AV.dep (.mk k n s na nc ns xa xc xs) m.toNat = AV.depAll xs (m.toNat - 1) + 1 := by
          rw [AV.dep, if_neg]
          rintro (⟨a, b⟩ | c)
          · rcases hk with hk | hk
            · exact a hk
            · exact b hk
          · omega
        rw [e]
        exact rdepth_many k n m s na nc ns xa xc xs w hin hk (by omega) h2 ih
    · have e : AV.dep (.mk k n s na nc ns xa xc xs) m.toNat = 1 := by
        rw [AV.dep, if_pos]
        exact .inl ⟨fun a => hk (.inl a), fun a => hk (.inr a)⟩
      rw [e]
      exact rdepth_leaf k n m s na nc ns xa xc xs w (fun a => hk (.inl a)) (fun a => hk (.inr a))
end Go.Proofs.YtcbfbmidekmboaaDoor

namespace Go.Proofs.YtcbfbmidekmboaaDoor
open Go.ChangeShapes Go.WideShapes Go.Deep Go.RowKit

/-- An element written out. -/
theorem wpList_item_out {ops : Array Oper} {rest : List Oper} {a : Act} {w : World} {Q : Exit → Act → World → Prop} {dst : Option Tmp} {ty : TypeId} {ps : String} {af : Array Edge} {x : Operand} {b o : Nat}
    {k n : Int} {s : ByteArray} {na : Option Addr} {nc : Nat} {ns : List ByteArray} {xa : Option Addr} {xc : Nat} {xs : List AV}
    (hr : w.rangeAt b o (AV.mk k n s na nc ns xa xc xs).row) (hx : a.eval x = .pointer (some ⟨b, o, none⟩)) (h : wpList Tryd.prog ops Q rest (a.put dst (.agg #[.int .i64 k, .int .i64 n, .string s, .slice na ns.length nc, .slice xa xs.length xc])) w) :
    wpList Tryd.prog ops Q (⟨dst, .load 25 x, ty, ps, af, none⟩ :: rest) a w := wpList_item hr hx h

end Go.Proofs.YtcbfbmidekmboaaDoor
