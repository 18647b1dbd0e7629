/- Whether a value is formed: what the program answers. -/
import Derived.Test.YtcbfbmidekmboaaDoorNames
namespace Go.Proofs.YtcbfbmidekmboaaDoor
open Go.ChangeShapes Go.WideShapes Go.Deep Go.RowKit Go.Lib

namespace AV
mutual
def formedJ : AV → Nat → Bool
  | mk k n s _ _ ns _ _ xs, lv =>
    if lv = 0 then false
    else if k = 0 ∨ k = 1 ∨ k = 2 then decide (n = 0) && (decide (s.toList = []) && (decide (ns = []) && decide (xs = [])))
    else if k = 3 then decide (s.toList = []) && (decide (ns = []) && decide (xs = []))
    else if k = 4 then decide (n = 0) && (textOk s && (decide (ns = []) && decide (xs = [])))
    else if k = 5 then decide (n = 0) && (decide (s.toList = []) && (decide (ns = []) && (decide (xs.length ≤ 24) && allJ xs (lv - 1))))
    else if k = 6 then decide (n = 0) && (decide (s.toList = []) && (decide (ns.length = xs.length) && ((decide (xs.length ≤ 24) && allJ xs (lv - 1)) && namesOk none ns)))
    else false
def allJ : List AV → Nat → Bool
  | [], _ => true
  | t :: ts, lv => formedJ t lv && allJ ts lv
end

theorem allJ_drop {xs : List AV} {j lv : Nat} {x : AV} (hlt : j < xs.length) (hx : xs[j] = x) : allJ (xs.drop j) lv = (formedJ x lv && allJ (xs.drop (j + 1)) lv) := by
  rw [List.drop_eq_getElem_cons hlt, allJ, hx]
end AV

theorem len_zero {α : Type} (l : List α) : ((l.length : Int) == 0) = decide (l = []) := by
  cases l with
  | nil => rfl
  | cons a t => simp; omega

set_option maxHeartbeats 400000 in
set_option maxRecDepth 100000 in
theorem formed_zero (t : AV) (w : World) : Calls Tryd.prog 29 #[t.val, .int .i64 0] w fun e w' => e = .returned (.bool false) ∧ Below w.heap.size w w' := by
  obtain ⟨k, n, s, na, nc, ns, xa, xc, xs⟩ := t
  simp only [AV.val, AV.row]
  go_enter Tryd.func29, Tryd.ntmps29
  go_wp2_with fail
  go_ret
  exact ⟨rfl, (Below.refl _ _).alloc (Nat.le_refl _) _⟩

set_option maxHeartbeats 800000 in
set_option maxRecDepth 100000 in
theorem formed_plain (k n m : Int) (s : ByteArray) (na : Option Addr) (nc : Nat) (ns : List ByteArray) (xa : Option Addr) (xc : Nat) (xs : List AV) (w : World) (h1 : 1 ≤ m) (h2 : m ≤ 1000) (hk : k = 0 ∨ k = 1 ∨ k = 2) :
    Calls Tryd.prog 29 #[(AV.mk k n s na nc ns xa xc xs).val, .int .i64 m] w fun e w' => e = .returned (.bool (decide (n = 0) && (decide (s.toList = []) && (decide (ns = []) && decide (xs = []))))) ∧ Below w.heap.size w w' := by
  have hm1 : (m == 0) = false := by simp; omega
  simp only [AV.val, AV.row]
  rcases hk with rfl | rfl | rfl
  all_goals
    go_enter Tryd.func29, Tryd.ntmps29
    go_wp2_with fail
    all_goals
      go_ret
      refine ⟨ret_bool ?_, (Below.refl _ _).alloc (Nat.le_refl _) _⟩
      first | (simp [*]; done) | (simp [*, len_zero]; done)

set_option maxHeartbeats 800000 in
set_option maxRecDepth 100000 in
theorem formed_num (n m : Int) (s : ByteArray) (na : Option Addr) (nc : Nat) (ns : List ByteArray) (xa : Option Addr) (xc : Nat) (xs : List AV) (w : World) (h1 : 1 ≤ m) (h2 : m ≤ 1000) :
    Calls Tryd.prog 29 #[(AV.mk 3 n s na nc ns xa xc xs).val, .int .i64 m] w fun e w' => e = .returned (.bool (decide (s.toList = []) && (decide (ns = []) && decide (xs = [])))) ∧ Below w.heap.size w w' := by
  have hm1 : (m == 0) = false := by simp; omega
  simp only [AV.val, AV.row]
  go_enter Tryd.func29, Tryd.ntmps29
  go_wp2_with fail
  all_goals
    go_ret
    refine ⟨ret_bool ?_, (Below.refl _ _).alloc (Nat.le_refl _) _⟩
    first | (simp [*]; done) | (simp [*, len_zero]; done)

set_option maxHeartbeats 800000 in
set_option maxRecDepth 100000 in
theorem formed_none (k n m : Int) (s : ByteArray) (na : Option Addr) (nc : Nat) (ns : List ByteArray) (xa : Option Addr) (xc : Nat) (xs : List AV) (w : World) (h1 : 1 ≤ m) (h2 : m ≤ 1000)
    (k0 : k ≠ 0) (k1 : k ≠ 1) (k2 : k ≠ 2) (k3 : k ≠ 3) (k4 : k ≠ 4) (k5 : k ≠ 5) (k6 : k ≠ 6) :
    Calls Tryd.prog 29 #[(AV.mk k n s na nc ns xa xc xs).val, .int .i64 m] w fun e w' => e = .returned (.bool false) ∧ Below w.heap.size w w' := by
  have hm1 : (m == 0) = false := by simp; omega
  simp only [AV.val, AV.row]
  go_enter Tryd.func29, Tryd.ntmps29
  go_wp2_with fail
  all_goals
    go_ret
    exact ⟨rfl, (Below.refl _ _).alloc (Nat.le_refl _) _⟩

set_option maxHeartbeats 800000 in
set_option maxRecDepth 100000 in
theorem formed_str (n m : Int) (s : ByteArray) (na : Option Addr) (nc : Nat) (ns : List ByteArray) (xa : Option Addr) (xc : Nat) (xs : List AV) (w : World) (h1 : 1 ≤ m) (h2 : m ≤ 1000) (hs : s.size ≤ maxLen) (hT : Tabs w) :
    Calls Tryd.prog 29 #[(AV.mk 4 n s na nc ns xa xc xs).val, .int .i64 m] w fun e w' => e = .returned (.bool (decide (n = 0) && (textOk s && (decide (ns = []) && decide (xs = []))))) ∧ Below w.heap.size w w' := by
  have hm1 : (m == 0) = false := by simp; omega
  have CALL := Lib.hid (fun W (hb : Below w.heap.size w W) => formedText_any s W hs (hT.later hb))
  obtain ⟨V, hV⟩ : ∃ V, textOk s = V := ⟨_, rfl⟩
  rw [hV] at CALL ⊢
  clear hV hs hT
  simp only [AV.val, AV.row]
  by_cases hn : n = 0
  · subst hn
    go_enter Tryd.func29, Tryd.ntmps29
    go_wp2_with fail
    refine (CALL.out _ ((Below.refl _ _).alloc (Nat.le_refl _) _)).mono ?_
    rintro e w1 ⟨rfl, hb1⟩
    have hb2 : Below w.heap.size w w1 := ((Below.refl w.heap.size w).alloc (Nat.le_refl _) _).trans (hb1.mono (by simp))
    have hc3 : w1.cell? ⟨w.heap.size, 3, none⟩ = some (.slice na ns.length nc) := cell_later (by simp) hb1
    have hc4 : w1.cell? ⟨w.heap.size, 4, none⟩ = some (.slice xa xs.length xc) := cell_later (by simp) hb1
    cases V
    all_goals
      go_wp2_with fail
      all_goals
        go_ret
        refine ⟨ret_bool ?_, hb2⟩
        first | (simp [*]; done) | (simp [*, len_zero]; done)
  · go_enter Tryd.func29, Tryd.ntmps29
    go_wp2_with fail
    all_goals
      go_ret
      refine ⟨ret_bool ?_, (Below.refl _ _).alloc (Nat.le_refl _) _⟩
      first | (simp [*]; done) | (simp [*, len_zero]; done)
end Go.Proofs.YtcbfbmidekmboaaDoor
