/- Whether a value is formed: what the document's answer is. -/
import Derived.Test.YtcbfbmidekmboaaDoorForms
import Derived.Deep.DeepCutAuto
namespace Go.Proofs.YtcbfbmidekmboaaDoor
open Go.ChangeShapes Go.WideShapes Go.Deep Go.RowKit Go.Lib

namespace AV
mutual
def formedR : AV → Bool
  | mk k n s _ _ ns _ _ xs =>
    if 0 ≤ k ∧ k ≤ 6 ∧ (k = 3 ∨ n = 0) ∧ (k = 4 ∨ s.toList = []) ∧ (k = 6 ∨ ns.length ≤ 0) ∧ (5 ≤ k ∨ xs.length ≤ 0) ∧ xs.length ≤ 24 ∧ (k = 6 → ns.length = xs.length) then textOk s && (namesOk none ns && allR xs) else false
def allR : List AV → Bool
  | [] => true
  | t :: ts => formedR t && allR ts
end
theorem allR_drop {xs : List AV} {j : Nat} {x : AV} (hlt : j < xs.length) (hx : xs[j] = x) : allR (xs.drop j) = (formedR x && allR (xs.drop (j + 1))) := by
  rw [List.drop_eq_getElem_cons hlt, allR, hx]
end AV

def RFormedAt (x : AV) : Prop := ∀ (w : World), x.In w → Calls Tryd.prog 39 #[x.val] w fun e w' => e = .returned (.bool (AV.formedR x)) ∧ Below w.heap.size w w'

theorem empty_false {s : ByteArray} (h : s.toList ≠ []) : s.toList.isEmpty = false := by
  cases hl : s.toList with
  | nil => exact absurd hl h
  | cons a t => rfl

set_option maxHeartbeats 1600000 in
set_option maxRecDepth 100000 in
theorem rbad1 (k n : Int) (s : ByteArray) (na : Option Addr) (nc : Nat) (ns : List ByteArray) (xa : Option Addr) (xc : Nat) (xs : List AV) (w : World) (h : k < 0) :
    Calls Tryd.prog 39 #[(AV.mk k n s na nc ns xa xc xs).val] w fun e w' => e = .returned (.bool false) ∧ Below w.heap.size w w' := by
  simp only [AV.val, AV.row]
  go_enter Tryd.func39, Tryd.ntmps39
  go_wp2_with fail
  go_ret
  exact ⟨rfl, (Below.refl _ _).alloc (Nat.le_refl _) _⟩

set_option maxHeartbeats 1600000 in
set_option maxRecDepth 100000 in
theorem rbad2 (k n : Int) (s : ByteArray) (na : Option Addr) (nc : Nat) (ns : List ByteArray) (xa : Option Addr) (xc : Nat) (xs : List AV) (w : World) (h0 : 0 ≤ k) (h : 6 < k) :
    Calls Tryd.prog 39 #[(AV.mk k n s na nc ns xa xc xs).val] w fun e w' => e = .returned (.bool false) ∧ Below w.heap.size w w' := by
  simp only [AV.val, AV.row]
  go_enter Tryd.func39, Tryd.ntmps39
  go_wp2_with fail
  go_ret
  exact ⟨rfl, (Below.refl _ _).alloc (Nat.le_refl _) _⟩

set_option maxHeartbeats 1600000 in
set_option maxRecDepth 100000 in
theorem rbad3 (k n : Int) (s : ByteArray) (na : Option Addr) (nc : Nat) (ns : List ByteArray) (xa : Option Addr) (xc : Nat) (xs : List AV) (w : World) (h0 : 0 ≤ k) (h6 : k ≤ 6) (h3 : k ≠ 3) (hn : n ≠ 0) :
    Calls Tryd.prog 39 #[(AV.mk k n s na nc ns xa xc xs).val] w fun e w' => e = .returned (.bool false) ∧ Below w.heap.size w w' := by
  simp only [AV.val, AV.row]
  go_enter Tryd.func39, Tryd.ntmps39
  go_wp2_with fail
  go_ret
  exact ⟨rfl, (Below.refl _ _).alloc (Nat.le_refl _) _⟩

set_option maxHeartbeats 1600000 in
set_option maxRecDepth 100000 in
theorem rbad4 (k n : Int) (s : ByteArray) (na : Option Addr) (nc : Nat) (ns : List ByteArray) (xa : Option Addr) (xc : Nat) (xs : List AV) (w : World) (h0 : 0 ≤ k) (h6 : k ≤ 6) (h4 : k ≠ 4) (hn : k = 3 ∨ n = 0) (hs : s.toList ≠ []) :
    Calls Tryd.prog 39 #[(AV.mk k n s na nc ns xa xc xs).val] w fun e w' => e = .returned (.bool false) ∧ Below w.heap.size w w' := by
  have hse := empty_false hs
  have hq : (!s.toList.isEmpty) = true := by rw [hse]; rfl
  have hb4 : (k != 4) = true := by simpa using h4
  clear hse
  simp only [AV.val, AV.row]
  rcases hn with rfl | rfl
  all_goals
    go_enter Tryd.func39, Tryd.ntmps39
    go_wp2_with fail
    all_goals
      go_ret
      exact ⟨rfl, (Below.refl _ _).alloc (Nat.le_refl _) _⟩

set_option maxHeartbeats 1600000 in
set_option maxRecDepth 100000 in
theorem rbad_leaf0 (k n : Int) (s : ByteArray) (na : Option Addr) (nc : Nat) (ns : List ByteArray) (xa : Option Addr) (xc : Nat) (xs : List AV) (w : World) (hk : k = 0 ∨ k = 1 ∨ k = 2 ∨ k = 3 ∨ k = 4) (hn : k = 3 ∨ n = 0) (hs : k = 4 ∨ s.toList = []) (hns : 0 < ns.length) :
    Calls Tryd.prog 39 #[(AV.mk k n s na nc ns xa xc xs).val] w fun e w' => e = .returned (.bool false) ∧ Below w.heap.size w w' := by
  simp only [AV.val, AV.row]
  rcases hk with rfl | rfl | rfl | rfl | rfl
  all_goals
    simp only [Int.reduceEq, false_or, true_or] at hn hs
    try subst hn
    have hne : ns ≠ [] := (fun e => by rw [e] at hns; simp at hns)
    go_enter Tryd.func39, Tryd.ntmps39
    go_wp2_with fail
    all_goals
      go_ret
      exact ⟨rfl, (Below.refl _ _).alloc (Nat.le_refl _) _⟩

set_option maxHeartbeats 1600000 in
set_option maxRecDepth 100000 in
theorem rbad_leaf1 (k n : Int) (s : ByteArray) (na : Option Addr) (nc : Nat) (ns : List ByteArray) (xa : Option Addr) (xc : Nat) (xs : List AV) (w : World) (hk : k = 0 ∨ k = 1 ∨ k = 2 ∨ k = 3 ∨ k = 4) (hn : k = 3 ∨ n = 0) (hs : k = 4 ∨ s.toList = []) (hns : ns.length ≤ 0) (hxs : 0 < xs.length) :
    Calls Tryd.prog 39 #[(AV.mk k n s na nc ns xa xc xs).val] w fun e w' => e = .returned (.bool false) ∧ Below w.heap.size w w' := by
  simp only [AV.val, AV.row]
  rcases hk with rfl | rfl | rfl | rfl | rfl
  all_goals
    simp only [Int.reduceEq, false_or, true_or] at hn hs
    try subst hn
    go_enter Tryd.func39, Tryd.ntmps39
    go_wp2_with fail
    all_goals
      go_ret
      exact ⟨rfl, (Below.refl _ _).alloc (Nat.le_refl _) _⟩

set_option maxHeartbeats 1600000 in
set_option maxRecDepth 100000 in
theorem rbad_arr0 (s : ByteArray) (na : Option Addr) (nc : Nat) (ns : List ByteArray) (xa : Option Addr) (xc : Nat) (xs : List AV) (w : World) (hs : s.toList = []) (hns : 0 < ns.length) :
    Calls Tryd.prog 39 #[(AV.mk 5 0 s na nc ns xa xc xs).val] w fun e w' => e = .returned (.bool false) ∧ Below w.heap.size w w' := by
  simp only [AV.val, AV.row]
  go_enter Tryd.func39, Tryd.ntmps39
  go_wp2_with fail
  go_ret
  exact ⟨rfl, (Below.refl _ _).alloc (Nat.le_refl _) _⟩

set_option maxHeartbeats 1600000 in
set_option maxRecDepth 100000 in
theorem rbad_arr1 (s : ByteArray) (na : Option Addr) (nc : Nat) (ns : List ByteArray) (xa : Option Addr) (xc : Nat) (xs : List AV) (w : World) (hs : s.toList = []) (hns : ns.length ≤ 0) (hxs : 24 < xs.length) :
    Calls Tryd.prog 39 #[(AV.mk 5 0 s na nc ns xa xc xs).val] w fun e w' => e = .returned (.bool false) ∧ Below w.heap.size w w' := by
  simp only [AV.val, AV.row]
  go_enter Tryd.func39, Tryd.ntmps39
  go_wp2_with fail
  go_ret
  exact ⟨rfl, (Below.refl _ _).alloc (Nat.le_refl _) _⟩

set_option maxHeartbeats 1600000 in
set_option maxRecDepth 100000 in
theorem rbad_obj1 (s : ByteArray) (na : Option Addr) (nc : Nat) (ns : List ByteArray) (xa : Option Addr) (xc : Nat) (xs : List AV) (w : World) (hs : s.toList = []) (hxs : 24 < xs.length) :
    Calls Tryd.prog 39 #[(AV.mk 6 0 s na nc ns xa xc xs).val] w fun e w' => e = .returned (.bool false) ∧ Below w.heap.size w w' := by
  simp only [AV.val, AV.row]
  go_enter Tryd.func39, Tryd.ntmps39
  go_wp2_with fail
  go_ret
  exact ⟨rfl, (Below.refl _ _).alloc (Nat.le_refl _) _⟩
end Go.Proofs.YtcbfbmidekmboaaDoor
