/- Whether two values are alike: what the program answers, as far as the levels go; no condition of ours. -/
/- Whether two values are alike: what the program answers; no condition of ours. -/
import Derived.Test.YtijibjdgnaphiaaDoorShelfe
import Derived.Test.YtijibjdgnaphiaaDoorFormed
import Derived.Lib.QuietBelow
import Derived.BigQuiet
namespace Go.Proofs.YtijibjdgnaphiaaDoor
open Go.ChangeShapes Go.WideShapes Go.Deep Go.RowKit Go.Lib

namespace AV
mutual
/-- Are two values alike, so many levels down? -/
def sameJ : AV → AV → Nat → Bool
  | mk k n s _ _ ns _ _ xs, mk k' n' s' _ _ ns' _ _ xs', lv => decide (lv ≠ 0 ∧ k = k' ∧ n = n' ∧ s = s' ∧ xs.length = xs'.length ∧ ns = ns') && sameAll xs xs' (lv - 1)
def sameAll : List AV → List AV → Nat → Bool
  | [], _, _ => true
  | _ :: _, [], _ => true
  | x :: xs, y :: ys, lv => sameJ x y lv && sameAll xs ys lv
end

theorem sameAll_drop {xs ys : List AV} {j lv : Nat} {x y : AV} (hlt : j < xs.length) (hx : xs[j] = x) (hlt' : j < ys.length) (hy : ys[j] = y) : sameAll (xs.drop j) (ys.drop j) lv = (sameJ x y lv && sameAll (xs.drop (j + 1)) (ys.drop (j + 1)) lv) := by
  rw [List.drop_eq_getElem_cons hlt, List.drop_eq_getElem_cons hlt', sameAll, hx, hy]
end AV

theorem toList_inj {s t : ByteArray} (h : s.toList = t.toList) : s = t := by
  rw [ByteArray.toList_eq, ByteArray.toList_eq] at h
  exact ByteArray.ext (Array.ext' h)
theorem str_ne {s t : ByteArray} (h : s ≠ t) : (s.toList != t.toList) = true := by
  rw [bne_iff_ne]; exact fun e => h (toList_inj e)
theorem str_eq_false {s t : ByteArray} (h : s ≠ t) : (s.toList == t.toList) = false := by
  rw [beq_eq_false_iff_ne]; exact fun e => h (toList_inj e)

/-- slices.Equal on the names of two values. -/
theorem equal_names (na na' : Option Addr) (nc nc' : Nat) (ns ns' : List ByteArray) (w : World) (h : AV.NamesIn w na ns) (h' : AV.NamesIn w na' ns') (hl : ns.length ≤ 9223372036854775807) (hl' : ns'.length ≤ 9223372036854775807) :
    Calls Tryd.prog 63 #[.slice na ns.length nc, .slice na' ns'.length nc'] w fun e w' => e = .returned (.bool (decide (ns = ns'))) ∧ Below w.heap.size w w' := by
  have below_drewN : ∀ q, Below w.heap.size w (w.drewN q) := fun q => (Below.refl w.heap.size w).trans ⟨rfl, rfl, rfl, Nat.le_refl _, fun _ _ => rfl⟩
  by_cases hlen : ns.length = ns'.length
  · by_cases h0 : ns = []
    · subst h0
      have h0' : ns' = [] := List.length_eq_zero_iff.1 hlen.symm
      subst h0'
      refine (Tryd.slices_Equal_string_empty na na' nc 0 nc' w (by omega)).mono ?_
      rintro e w' ⟨rfl, rfl⟩
      exact ⟨by simp, Below.refl _ _⟩
    · have h0' : ns' ≠ [] := fun e => h0 (List.length_eq_zero_iff.1 (by rw [hlen, e]; rfl))
      obtain ⟨b, o, rfl, hc⟩ := h.resolve_left h0
      obtain ⟨b', o', rfl, hc'⟩ := h'.resolve_left h0'
      refine (Tryd.slices_Equal_string b o ns.length nc b' o' ns'.length nc' ns ns' w (Nat.le_refl _) (Nat.le_refl _) hl hl' (fun j hj => ?_) (fun j hj => ?_)).mono ?_
      · rw [hc j hj]; simp [List.getD, hj]
      · rw [hc' j hj]; simp [List.getD, hj]
      · rintro e w' ⟨rfl, q, rfl⟩
        exact ⟨by simp, below_drewN q⟩
  · refine (Tryd.slices_Equal_string_lens na na' ns.length nc ns'.length nc' w hlen).mono ?_
    rintro e w' ⟨rfl, rfl⟩
    refine ⟨?_, Below.refl _ _⟩
    rw [decide_eq_false (fun e => hlen (by rw [e]))]

/-- What is asked of the call for each item. -/
def SameAt (x : AV) : Prop := ∀ (y : AV) (lv : Nat) (w : World), lv ≤ 10000 → x.In w → y.In w → Calls Tryd.prog 41 #[x.val, y.val, .int .i64 (lv : Int)] w fun e w' => e = .returned (.bool (AV.sameJ x y lv)) ∧ Below w.heap.size w w'

theorem two_below (w : World) (o o' : Obj) : Below w.heap.size w ((w.alloc o).alloc o') := ((Below.refl _ _).alloc (Nat.le_refl _) _).alloc (by simp) _

set_option maxHeartbeats 1600000 in
set_option maxRecDepth 100000 in
theorem same_bad0 (k n k' n' : Int) (s s' : ByteArray) (na na' : Option Addr) (nc nc' : Nat) (ns ns' : List ByteArray) (xa xa' : Option Addr) (xc xc' : Nat) (xs xs' : List AV) (w : World) :
    Calls Tryd.prog 41 #[(AV.mk k n s na nc ns xa xc xs).val, (AV.mk k' n' s' na' nc' ns' xa' xc' xs').val, .int .i64 0] w fun e w' => e = .returned (.bool false) ∧ Below w.heap.size w w' := by
  simp only [AV.val, AV.row]
  go_enter Tryd.func41, Tryd.ntmps41
  go_wp2_with fail
  go_ret
  exact ⟨rfl, two_below w _ _⟩

set_option maxHeartbeats 1600000 in
set_option maxRecDepth 100000 in
theorem same_bad1 (k n k' n' lv : Int) (s s' : ByteArray) (na na' : Option Addr) (nc nc' : Nat) (ns ns' : List ByteArray) (xa xa' : Option Addr) (xc xc' : Nat) (xs xs' : List AV) (w : World) (h0 : (lv == 0) = false) (hk : (k != k') = true) :
    Calls Tryd.prog 41 #[(AV.mk k n s na nc ns xa xc xs).val, (AV.mk k' n' s' na' nc' ns' xa' xc' xs').val, .int .i64 lv] w fun e w' => e = .returned (.bool false) ∧ Below w.heap.size w w' := by
  simp only [AV.val, AV.row]
  go_enter Tryd.func41, Tryd.ntmps41
  go_wp2_with fail
  go_ret
  exact ⟨rfl, two_below w _ _⟩

set_option maxHeartbeats 1600000 in
set_option maxRecDepth 100000 in
theorem same_bad2 (k n n' lv : Int) (s s' : ByteArray) (na na' : Option Addr) (nc nc' : Nat) (ns ns' : List ByteArray) (xa xa' : Option Addr) (xc xc' : Nat) (xs xs' : List AV) (w : World) (h0 : (lv == 0) = false) (hn : (n != n') = true) :
    Calls Tryd.prog 41 #[(AV.mk k n s na nc ns xa xc xs).val, (AV.mk k n' s' na' nc' ns' xa' xc' xs').val, .int .i64 lv] w fun e w' => e = .returned (.bool false) ∧ Below w.heap.size w w' := by
  simp only [AV.val, AV.row]
  go_enter Tryd.func41, Tryd.ntmps41
  go_wp2_with fail
  go_ret
  exact ⟨rfl, two_below w _ _⟩

set_option maxHeartbeats 1600000 in
set_option maxRecDepth 100000 in
theorem same_bad3 (k n lv : Int) (s s' : ByteArray) (na na' : Option Addr) (nc nc' : Nat) (ns ns' : List ByteArray) (xa xa' : Option Addr) (xc xc' : Nat) (xs xs' : List AV) (w : World) (h0 : (lv == 0) = false) (hs : (s.toList != s'.toList) = true) :
    Calls Tryd.prog 41 #[(AV.mk k n s na nc ns xa xc xs).val, (AV.mk k n s' na' nc' ns' xa' xc' xs').val, .int .i64 lv] w fun e w' => e = .returned (.bool false) ∧ Below w.heap.size w w' := by
  simp only [AV.val, AV.row]
  have hs2 : (s.toList == s'.toList) = false := by simpa using hs
  go_enter Tryd.func41, Tryd.ntmps41
  go_wp2_with fail
  go_ret
  exact ⟨rfl, two_below w _ _⟩

set_option maxHeartbeats 1600000 in
set_option maxRecDepth 100000 in
theorem same_bad4 (k n lv : Int) (s : ByteArray) (na na' : Option Addr) (nc nc' : Nat) (ns ns' : List ByteArray) (xa xa' : Option Addr) (xc xc' : Nat) (xs xs' : List AV) (w : World) (h0 : (lv == 0) = false) (hl : ((xs.length : Int) != (xs'.length : Int)) = true) :
    Calls Tryd.prog 41 #[(AV.mk k n s na nc ns xa xc xs).val, (AV.mk k n s na' nc' ns' xa' xc' xs').val, .int .i64 lv] w fun e w' => e = .returned (.bool false) ∧ Below w.heap.size w w' := by
  simp only [AV.val, AV.row]
  go_enter Tryd.func41, Tryd.ntmps41
  go_wp2_with fail
  go_ret
  exact ⟨rfl, two_below w _ _⟩

set_option maxHeartbeats 1600000 in
set_option maxRecDepth 100000 in
theorem same_bad5 (k n lv : Int) (s : ByteArray) (na na' : Option Addr) (nc nc' : Nat) (ns ns' : List ByteArray) (xa xa' : Option Addr) (xc xc' : Nat) (xs xs' : List AV) (w : World) (h0 : (lv == 0) = false) (hl : ((xs.length : Int) != (xs'.length : Int)) = false)
    (CALL : Hid (∀ W, Below w.heap.size w W → Calls Tryd.prog 63 #[.slice na ns.length nc, .slice na' ns'.length nc'] W fun e w' => e = .returned (.bool false) ∧ Below W.heap.size W w')) :
    Calls Tryd.prog 41 #[(AV.mk k n s na nc ns xa xc xs).val, (AV.mk k n s na' nc' ns' xa' xc' xs').val, .int .i64 lv] w fun e w' => e = .returned (.bool false) ∧ Below w.heap.size w w' := by
  simp only [AV.val, AV.row]
  go_enter Tryd.func41, Tryd.ntmps41
  go_wp2_with fail
  refine (CALL.out _ (two_below w _ _)).mono ?_
  rintro e w1 ⟨rfl, hb1⟩
  have hb2 := (two_below w (.cells #[.int .i64 k, .int .i64 n, .string s, .slice na ns.length nc, .slice xa xs.length xc] 25) (.cells #[.int .i64 k, .int .i64 n, .string s, .slice na' ns'.length nc', .slice xa' xs'.length xc'] 25)).trans (hb1.mono (by simp; omega))
  go_wp2_with fail
  go_ret
  exact ⟨rfl, hb2⟩
end Go.Proofs.YtijibjdgnaphiaaDoor

namespace Go.Proofs.YtijibjdgnaphiaaDoor
open Go.ChangeShapes Go.WideShapes Go.Deep Go.RowKit Go.Lib

set_option maxHeartbeats 4000000 in
set_option maxRecDepth 100000 in
theorem same_good (k n : Int) (lv : Nat) (s : ByteArray) (na na' : Option Addr) (nc nc' : Nat) (ns ns' : List ByteArray) (xa xa' : Option Addr) (xc xc' : Nat) (xs xs' : List AV) (w : World) (h0 : lv ≠ 0) (hlv : lv ≤ 10000) (hl : xs.length = xs'.length) (hlx : xs.length ≤ 9223372036854775807)
    (hits : AV.Its w xa xs) (hits' : AV.Its w xa' xs')
    (CALL : Hid (∀ W, Below w.heap.size w W → Calls Tryd.prog 63 #[.slice na ns.length nc, .slice na' ns'.length nc'] W fun e w' => e = .returned (.bool true) ∧ Below W.heap.size W w')) (IH : Hid (∀ x ∈ xs, SameAt x)) :
    Calls Tryd.prog 41 #[(AV.mk k n s na nc ns xa xc xs).val, (AV.mk k n s na' nc' ns' xa' xc' xs').val, .int .i64 (lv : Int)] w fun e w' => e = .returned (.bool (AV.sameAll xs xs' (lv - 1))) ∧ Below w.heap.size w w' := by
  have HITS := Lib.hid hits
  have HITS' := Lib.hid hits'
  have HL := Lib.hid hl
  have q0 : ((lv : Int) == 0) = false := by rw [beq_eq_false_iff_ne]; omega
  have q1 : ((xs.length : Int) != (xs'.length : Int)) = false := by rw [hl]; simp
  obtain ⟨B, hB⟩ : ∃ B, AV.sameAll xs xs' (lv - 1) = B := ⟨_, rfl⟩
  rw [hB]
  have HB := Lib.hid hB
  clear hits hits' hl hB
  simp only [AV.val, AV.row]
  go_enter Tryd.func41, Tryd.ntmps41
  go_wp2_with fail
  refine (CALL.out _ (two_below w _ _)).mono ?_
  rintro e w1 ⟨rfl, hb1⟩
  have hb2 := (two_below w (.cells #[.int .i64 k, .int .i64 n, .string s, .slice na ns.length nc, .slice xa xs.length xc] 25) (.cells #[.int .i64 k, .int .i64 n, .string s, .slice na' ns'.length nc', .slice xa' xs'.length xc'] 25)).trans (hb1.mono (by simp; omega))
  have hc3 : w1.cell? ⟨w.heap.size, 4, none⟩ = some (.slice xa xs.length xc) := cell_later (by simp) hb1
  have hc4 : w1.cell? ⟨w.heap.size + 1, 4, none⟩ = some (.slice xa' xs'.length xc') := cell_later (by simp) hb1
  have hz : w.heap.size + 1 < w1.heap.size := by have := hb1.size; simp at this; omega
  clear hb1
  go_wp2_with fail
  go_loopg [51] xs.length (fun g i wr => ∃ j : Nat, j + g = xs.length ∧ i = .int .i64 (j : Int) ∧ AV.sameAll (xs.drop j) (xs'.drop j) (lv - 1) = B ∧ Below w.heap.size w wr ∧ w.heap.size + 1 < wr.heap.size ∧
    wr.cell? ⟨w.heap.size, 4, none⟩ = some (.slice xa xs.length xc) ∧ wr.cell? ⟨w.heap.size + 1, 4, none⟩ = some (.slice xa' xs'.length xc'))
  case atStart => exact ⟨0, by omega, rfl, HB.out, hb2, hz, hc3, hc4⟩
  case round =>
    obtain ⟨j, hj, rfl, hrest, hb, hzr, hd3, hd4⟩ := hrel
    have HJ := Lib.hid hj
    have HREST := Lib.hid hrest
    clear hj hrest
    by_cases hlt : j < xs.length
    · have hlt' : j < xs'.length := by have := HL.out; omega
      obtain ⟨bx, ox, rfl, hit⟩ := (HITS.out).resolve_left (by intro e; rw [e] at hlt; simp at hlt)
      obtain ⟨by', oy, rfl, hit'⟩ := (HITS'.out).resolve_left (by intro e; rw [e] at hlt'; simp at hlt')
      have hr : wr.rangeAt bx (ox + j * 5) xs[j].row := AV.rangeAt_old (fun a ha => hb.cell ha) (hit j hlt).1
      have hr' : wr.rangeAt by' (oy + j * 5) xs'[j].row := AV.rangeAt_old (fun a ha => hb.cell ha) (hit' j hlt').1
      have hxin : AV.In wr xs[j] := (hit j hlt).2.below hb (Nat.le_refl _)
      have hyin : AV.In wr xs'[j] := (hit' j hlt').2.below hb (Nat.le_refl _)
      have hmem : xs[j] ∈ xs := List.getElem_mem hlt
      obtain ⟨x, hx⟩ : ∃ x, xs[j] = x := ⟨_, rfl⟩
      obtain ⟨y, hy⟩ : ∃ y, xs'[j] = y := ⟨_, rfl⟩
      have hd := AV.sameAll_drop (lv := lv - 1) hlt hx hlt' hy
      rw [HREST.out] at hd
      rw [hx] at hxin hr hmem
      rw [hy] at hyin hr'
      have e1 : ((lv - 1 : Nat) : Int) = (lv : Int) - 1 := by omega
      have CALL2 := Lib.hid (fun (W : World) (hW : Below wr.heap.size wr W) => IH.out _ hmem y (lv - 1) W (by omega) (hxin.below hW (Nat.le_refl _)) (hyin.below hW (Nat.le_refl _)))
      rw [e1] at CALL2
      obtain ⟨V, hV⟩ : ∃ V, AV.sameJ x y (lv - 1) = V := ⟨_, rfl⟩
      rw [hV] at CALL2 hd
      obtain ⟨k1, n1, s1, na1, nc1, ns1, xa1, xc1, xs1⟩ := x
      obtain ⟨k2, n2, s2, na2, nc2, ns2, xa2, xc2, xs2⟩ := y
      have a0 := fun d os => cell_regrown (hr 0 _ rfl) d os
      have a1 := fun d os => cell_regrown (hr 1 _ rfl) d os
      have a2 := fun d os => cell_regrown (hr 2 _ rfl) d os
      have a3 := fun d os => cell_regrown (hr 3 _ rfl) d os
      have a4 := fun d os => cell_regrown (hr 4 _ rfl) d os
      have b0 := fun d os => cell_regrown (hr' 0 _ rfl) d os
      have b1 := fun d os => cell_regrown (hr' 1 _ rfl) d os
      have b2 := fun d os => cell_regrown (hr' 2 _ rfl) d os
      have b3 := fun d os => cell_regrown (hr' 3 _ rfl) d os
      have b4 := fun d os => cell_regrown (hr' 4 _ rfl) d os
      have c3 := fun d os => cell_regrown hd3 d os
      have c4 := fun d os => cell_regrown hd4 d os
      simp only [Nat.add_zero] at a0 b0
      have q2 : IntKind.i64.wrap ((lv : Int) - 1) = (lv : Int) - 1 := by rw [IntKind.wrap_i64]; omega
      have HD := Lib.hid hd
      clear hx hy hit hit' hr hr' hd hmem hxin hyin hV e1
      go_wp2_with fail
      refine wp_region_quiet_below (by kernel_rfl) (by kernel_rfl) ?_
      repeat (go_big_quiet_step (exact Calls.regrown_of (CALL2.out _ (below_regrown _ _ _))))
      refine wpQuiet_nil ?_
      intro _ hw'
      obtain ⟨⟨dq, osq⟩, hw''⟩ := hw'
      subst hw''
      have hbq := below_regrown wr dq osq
      have hqc3 := c3 dq osq
      have hqc4 := c4 dq osq
      clear a0 a1 a2 a3 a4 b0 b1 b2 b3 b4 c3 c4
      generalize Go.Sort.grow (redrawn wr dq) osq = wq at *
      cases V
      · go_wp2_with fail
        go_ret
        have : B = false := by rw [HD.out]; rfl
        exact ⟨ret_bool (by rw [this]), hb.trans (hbq.mono hb.size)⟩
      · go_wp2_with fail
        go_roundg (gk - 1)
        case measure => have := HJ.out; omega
        case rel => exact ⟨j + 1, by have := HJ.out; omega, by go_num, by rw [HD.out]; simp, hb.trans (hbq.mono hb.size), by have := hbq.size; omega, hqc3, hqc4⟩
    · have hB : B = true := by rw [← HREST.out, show xs.drop j = [] from List.drop_eq_nil_of_le (by omega)]; simp [AV.sameAll]
      go_wp2_with fail
      go_ret
      exact ⟨ret_bool (by rw [hB]), hb⟩

theorem AV.In.lenN {w : World} {k n : Int} {s : ByteArray} {na : Option Addr} {nc : Nat} {ns : List ByteArray} {xa : Option Addr} {xc : Nat} {xs : List AV} (h : In w (mk k n s na nc ns xa xc xs)) : ns.length ≤ 9223372036854775807 := h.lens.2.1

theorem same_any : ∀ t : AV, SameAt t := by
  intro t
  induction t using AV.ind with
  | h k n s na nc ns xa xc xs ih =>
    intro y lv w hlv hin hiny
    obtain ⟨k', n', s', na', nc', ns', xa', xc', xs'⟩ := y
    have CALL := fun (V : Bool) (hV : decide (ns = ns') = V) => Lib.hid (fun W (hb : Below w.heap.size w W) => show Calls Tryd.prog 63 #[.slice na ns.length nc, .slice na' ns'.length nc'] W fun e w' => e = .returned (.bool V) ∧ Below W.heap.size W w' by
      rw [← hV]; exact equal_names na na' nc nc' ns ns' W (hin.names.1.below hb) (hiny.names.1.below hb) hin.lenN hiny.lenN)
    rw [AV.sameJ]
    by_cases h0 : lv = 0
    · subst h0
      rw [decide_eq_false (fun h => h.1 rfl), Bool.false_and]
      exact same_bad0 k n k' n' s s' na na' nc nc' ns ns' xa xa' xc xc' xs xs' w
    have q0 : ((lv : Int) == 0) = false := by rw [beq_eq_false_iff_ne]; omega
    by_cases hk : k = k'
    rotate_left
    · rw [decide_eq_false (fun h => hk h.2.1), Bool.false_and]
      exact same_bad1 k n k' n' lv s s' na na' nc nc' ns ns' xa xa' xc xc' xs xs' w q0 (by simpa using hk)
    subst hk
    by_cases hn : n = n'
    rotate_left
    · rw [decide_eq_false (fun h => hn h.2.2.1), Bool.false_and]
      exact same_bad2 k n n' lv s s' na na' nc nc' ns ns' xa xa' xc xc' xs xs' w q0 (by simpa using hn)
    subst hn
    by_cases hs : s = s'
    rotate_left
    · rw [decide_eq_false (fun h => hs h.2.2.2.1), Bool.false_and]
      exact same_bad3 k n lv s s' na na' nc nc' ns ns' xa xa' xc xc' xs xs' w q0 (str_ne hs)
    subst hs
    by_cases hl : xs.length = xs'.length
    rotate_left
    · rw [decide_eq_false (fun h => hl h.2.2.2.2.1), Bool.false_and]
      exact same_bad4 k n lv s na na' nc nc' ns ns' xa xa' xc xc' xs xs' w q0 (by simp; omega)
    by_cases hns : ns = ns'
    · rw [decide_eq_true ⟨h0, rfl, rfl, rfl, hl, hns⟩, Bool.true_and]
      exact same_good k n lv s na na' nc nc' ns ns' xa xa' xc xc' xs xs' w h0 hlv hl hin.lens.2.2 hin.its hiny.its (CALL true (decide_eq_true hns)) ih
    · rw [decide_eq_false (fun h => hns h.2.2.2.2.2), Bool.false_and]
      exact same_bad5 k n lv s na na' nc nc' ns ns' xa xa' xc xc' xs xs' w q0 (by rw [hl]; simp) (CALL false (decide_eq_false hns))

theorem two_box (w : World) (cs cs' : Array Value) : ((w.alloc (.cells cs 25)).alloc (.cells cs' 25)).heap[w.heap.size]? = some (.cells cs 25 (0, 0)) ∧ ((w.alloc (.cells cs 25)).alloc (.cells cs' 25)).heap[w.heap.size + 1]? = some (.cells cs' 25 (0, 0)) := by
  refine ⟨?_, ?_⟩
  · rw [Lib.alloc_old _ _ _ (by simp)]; exact heap_alloc_new w _
  · have := heap_alloc_new (w.alloc (.cells cs 25)) (.cells cs' 25)
    rw [show (w.alloc (.cells cs 25)).heap.size = w.heap.size + 1 by simp] at this
    exact this

set_option maxHeartbeats 1000000 in
set_option maxRecDepth 100000 in
/-- Same. -/
theorem Same_any (a b : AV) (w : World) (ha : a.In w) (hb : b.In w) : Calls Tryd.prog 23 #[a.val, b.val] w fun e w' => e = .returned (.bool (AV.sameJ a b 10000)) ∧ Below w.heap.size w w' := by
  have CALL := Lib.hid (fun W (hW : Below w.heap.size w W) => same_any a b 10000 W (Nat.le_refl _) (ha.below hW (Nat.le_refl _)) (hb.below hW (Nat.le_refl _)))
  obtain ⟨V, hV⟩ : ∃ V, AV.sameJ a b 10000 = V := ⟨_, rfl⟩
  rw [hV] at CALL ⊢
  clear hV ha hb
  obtain ⟨k, n, s, na, nc, ns, xa, xc, xs⟩ := a
  obtain ⟨k', n', s', na', nc', ns', xa', xc', xs'⟩ := b
  simp only [AV.val, AV.row] at CALL ⊢
  go_enter Tryd.func23, Tryd.ntmps23
  go_wp2_with fail
  refine (CALL.out _ (two_below w _ _)).mono ?_
  rintro e w1 ⟨rfl, hb1⟩
  have hb2 := (two_below w (.cells #[.int .i64 k, .int .i64 n, .string s, .slice na ns.length nc, .slice xa xs.length xc] 25) (.cells #[.int .i64 k', .int .i64 n', .string s', .slice na' ns'.length nc', .slice xa' xs'.length xc'] 25)).trans (hb1.mono (by simp; omega))
  go_wp2_with fail
  go_ret
  exact ⟨rfl, hb2⟩
end Go.Proofs.YtijibjdgnaphiaaDoor
