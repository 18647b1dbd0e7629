/- Whether two values are alike: what the program answers, as far as the levels go; no condition of ours. -/
import Derived.Test.YtijibjdgnaphiaaDoorShelfe
import Derived.Test.YtijibjdgnaphiaaDoorFormed
namespace Go.Proofs.YtijibjdgnaphiaaDoor
open Go.ChangeShapes Go.WideShapes Go.Deep Go.RowKit Go.Lib

namespace AV
mutual
/-- Are two values alike, so many levels down? -/
def sameJ : AV → AV → Nat → Bool
  | mk k n s _ _ ns _ _ xs, mk k' n' s' _ _ ns' _ _ xs', lv => decide (lv ≠ 0 ∧ k = k' ∧ n = n' ∧ s = s' ∧ xs.length = xs'.length ∧ ns = ns') && sameAll xs xs' (lv - 1)
def sameAll : List AV → List AV → Nat → Bool
  | [], _, _ => true
  | _ :: _, [], _ => true
  | x :: xs, y :: ys, lv => sameJ x y lv && sameAll xs ys lv
end

theorem sameAll_drop {xs ys : List AV} {j lv : Nat} {x y : AV} (hlt : j < xs.length) (hx : xs[j] = x) (hlt' : j < ys.length) (hy : ys[j] = y) : sameAll (xs.drop j) (ys.drop j) lv = (sameJ x y lv && sameAll (xs.drop (j + 1)) (ys.drop (j + 1)) lv) := by
  rw [List.drop_eq_getElem_cons hlt, List.drop_eq_getElem_cons hlt', sameAll, hx, hy]
end AV

theorem toList_inj {s t : ByteArray} (h : s.toList = t.toList) : s = t := by
  rw [ByteArray.toList_eq, ByteArray.toList_eq] at h
  exact ByteArray.ext (Array.ext' h)
theorem str_ne {s t : ByteArray} (h : s ≠ t) : (s.toList != t.toList) = true := by
  rw [bne_iff_ne]; exact fun e => h (toList_inj e)
theorem str_eq_false {s t : ByteArray} (h : s ≠ t) : (s.toList == t.toList) = false := by
  rw [beq_eq_false_iff_ne]; exact fun e => h (toList_inj e)

/-- slices.Equal on the names of two values. -/
theorem equal_names (na na' : Option Addr) (nc nc' : Nat) (ns ns' : List ByteArray) (w : World) (h : AV.NamesIn w na ns) (h' : AV.NamesIn w na' ns') (hl : ns.length ≤ 9223372036854775807) (hl' : ns'.length ≤ 9223372036854775807) :
    Calls Tryd.prog 63 #[.slice na ns.length nc, .slice na' ns'.length nc'] w fun e w' => e = .returned (.bool (decide (ns = ns'))) ∧ Below w.heap.size w w' := by
  have below_drewN : ∀ q, Below w.heap.size w (w.drewN q) := fun q => (Below.refl w.heap.size w).trans ⟨rfl, rfl, rfl, Nat.le_refl _, fun _ _ => rfl⟩
  by_cases hlen : ns.length = ns'.length
  · by_cases h0 : ns = []
    · subst h0
      have h0' : ns' = [] := List.length_eq_zero_iff.1 hlen.symm
      subst h0'
      refine (Tryd.slices_Equal_string_empty na na' nc 0 nc' w (by omega)).mono ?_
      rintro e w' ⟨rfl, rfl⟩
      exact ⟨by simp, Below.refl _ _⟩
    · have h0' : ns' ≠ [] := fun e => h0 (List.length_eq_zero_iff.1 (by rw [hlen, e]; rfl))
      obtain ⟨b, o, rfl, hc⟩ := h.resolve_left h0
      obtain ⟨b', o', rfl, hc'⟩ := h'.resolve_left h0'
      refine (Tryd.slices_Equal_string b o ns.length nc b' o' ns'.length nc' ns ns' w (Nat.le_refl _) (Nat.le_refl _) hl hl' (fun j hj => ?_) (fun j hj => ?_)).mono ?_
      · rw [hc j hj]; simp [List.getD, hj]
      · rw [hc' j hj]; simp [List.getD, hj]
      · rintro e w' ⟨rfl, q, rfl⟩
        exact ⟨by simp, below_drewN q⟩
  · refine (Tryd.slices_Equal_string_lens na na' ns.length nc ns'.length nc' w hlen).mono ?_
    rintro e w' ⟨rfl, rfl⟩
    refine ⟨?_, Below.refl _ _⟩
    rw [decide_eq_false (fun e => hlen (by rw [e]))]

/-- What is asked of the call for each item. -/
def SameAt (x : AV) : Prop := ∀ (y : AV) (lv : Nat) (w : World), lv ≤ 10000 → x.In w → y.In w → Calls Tryd.prog 41 #[x.val, y.val, .int .i64 (lv : Int)] w fun e w' => e = .returned (.bool (AV.sameJ x y lv)) ∧ Below w.heap.size w w'

theorem two_below (w : World) (o o' : Obj) : Below w.heap.size w ((w.alloc o).alloc o') := ((Below.refl _ _).alloc (Nat.le_refl _) _).alloc (by simp) _

set_option maxHeartbeats 1600000 in
set_option maxRecDepth 100000 in
theorem same_bad0 (k n k' n' : Int) (s s' : ByteArray) (na na' : Option Addr) (nc nc' : Nat) (ns ns' : List ByteArray) (xa xa' : Option Addr) (xc xc' : Nat) (xs xs' : List AV) (w : World) :
    Calls Tryd.prog 41 #[(AV.mk k n s na nc ns xa xc xs).val, (AV.mk k' n' s' na' nc' ns' xa' xc' xs').val, .int .i64 0] w fun e w' => e = .returned (.bool false) ∧ Below w.heap.size w w' := by
  simp only [AV.val, AV.row]
  go_enter Tryd.func41, Tryd.ntmps41
  go_wp2_with fail
  go_ret
  exact ⟨rfl, two_below w _ _⟩

set_option maxHeartbeats 1600000 in
set_option maxRecDepth 100000 in
theorem same_bad1 (k n k' n' lv : Int) (s s' : ByteArray) (na na' : Option Addr) (nc nc' : Nat) (ns ns' : List ByteArray) (xa xa' : Option Addr) (xc xc' : Nat) (xs xs' : List AV) (w : World) (h0 : (lv == 0) = false) (hk : (k != k') = true) :
    Calls Tryd.prog 41 #[(AV.mk k n s na nc ns xa xc xs).val, (AV.mk k' n' s' na' nc' ns' xa' xc' xs').val, .int .i64 lv] w fun e w' => e = .returned (.bool false) ∧ Below w.heap.size w w' := by
  simp only [AV.val, AV.row]
  go_enter Tryd.func41, Tryd.ntmps41
  go_wp2_with fail
  go_ret
  exact ⟨rfl, two_below w _ _⟩

set_option maxHeartbeats 1600000 in
set_option maxRecDepth 100000 in
theorem same_bad2 (k n n' lv : Int) (s s' : ByteArray) (na na' : Option Addr) (nc nc' : Nat) (ns ns' : List ByteArray) (xa xa' : Option Addr) (xc xc' : Nat) (xs xs' : List AV) (w : World) (h0 : (lv == 0) = false) (hn : (n != n') = true) :
    Calls Tryd.prog 41 #[(AV.mk k n s na nc ns xa xc xs).val, (AV.mk k n' s' na' nc' ns' xa' xc' xs').val, .int .i64 lv] w fun e w' => e = .returned (.bool false) ∧ Below w.heap.size w w' := by
  simp only [AV.val, AV.row]
  go_enter Tryd.func41, Tryd.ntmps41
  go_wp2_with fail
  go_ret
  exact ⟨rfl, two_below w _ _⟩

set_option maxHeartbeats 1600000 in
set_option maxRecDepth 100000 in
theorem same_bad3 (k n lv : Int) (s s' : ByteArray) (na na' : Option Addr) (nc nc' : Nat) (ns ns' : List ByteArray) (xa xa' : Option Addr) (xc xc' : Nat) (xs xs' : List AV) (w : World) (h0 : (lv == 0) = false) (hs : (s.toList != s'.toList) = true) :
    Calls Tryd.prog 41 #[(AV.mk k n s na nc ns xa xc xs).val, (AV.mk k n s' na' nc' ns' xa' xc' xs').val, .int .i64 lv] w fun e w' => e = .returned (.bool false) ∧ Below w.heap.size w w' := by
  simp only [AV.val, AV.row]
  have hs2 : (s.toList == s'.toList) = false := by simpa using hs
  go_enter Tryd.func41, Tryd.ntmps41
  go_wp2_with fail
  go_ret
  exact ⟨rfl, two_below w _ _⟩

set_option maxHeartbeats 1600000 in
set_option maxRecDepth 100000 in
theorem same_bad4 (k n lv : Int) (s : ByteArray) (na na' : Option Addr) (nc nc' : Nat) (ns ns' : List ByteArray) (xa xa' : Option Addr) (xc xc' : Nat) (xs xs' : List AV) (w : World) (h0 : (lv == 0) = false) (hl : ((xs.length : Int) != (xs'.length : Int)) = true) :
    Calls Tryd.prog 41 #[(AV.mk k n s na nc ns xa xc xs).val, (AV.mk k n s na' nc' ns' xa' xc' xs').val, .int .i64 lv] w fun e w' => e = .returned (.bool false) ∧ Below w.heap.size w w' := by
  simp only [AV.val, AV.row]
  go_enter Tryd.func41, Tryd.ntmps41
  go_wp2_with fail
  go_ret
  exact ⟨rfl, two_below w _ _⟩

set_option maxHeartbeats 1600000 in
set_option maxRecDepth 100000 in
theorem same_bad5 (k n lv : Int) (s : ByteArray) (na na' : Option Addr) (nc nc' : Nat) (ns ns' : List ByteArray) (xa xa' : Option Addr) (xc xc' : Nat) (xs xs' : List AV) (w : World) (h0 : (lv == 0) = false) (hl : ((xs.length : Int) != (xs'.length : Int)) = false)
    (CALL : Hid (∀ W, Below w.heap.size w W → Calls Tryd.prog 63 #[.slice na ns.length nc, .slice na' ns'.length nc'] W fun e w' => e = .returned (.bool false) ∧ Below W.heap.size W w')) :
    Calls Tryd.prog 41 #[(AV.mk k n s na nc ns xa xc xs).val, (AV.mk k n s na' nc' ns' xa' xc' xs').val, .int .i64 lv] w fun e w' => e = .returned (.bool false) ∧ Below w.heap.size w w' := by
  simp only [AV.val, AV.row]
  go_enter Tryd.func41, Tryd.ntmps41
  go_wp2_with fail
  refine (CALL.out _ (two_below w _ _)).mono ?_
  rintro e w1 ⟨rfl, hb1⟩
  have hb2 := (two_below w (.cells #[.int .i64 k, .int .i64 n, .string s, .slice na ns.length nc, .slice xa xs.length xc] 25) (.cells #[.int .i64 k, .int .i64 n, .string s, .slice na' ns'.length nc', .slice xa' xs'.length xc'] 25)).trans (hb1.mono (by simp; omega))
  go_wp2_with fail
  go_ret
  exact ⟨rfl, hb2⟩
end Go.Proofs.YtijibjdgnaphiaaDoor
