/- Whether two values are alike: what the document's answer is; no condition of ours. -/
import Derived.Test.YtcbfbmidekmboaaDoorHelps
namespace Go.Proofs.YtcbfbmidekmboaaDoor
open Go.ChangeShapes Go.WideShapes Go.Deep Go.RowKit Go.Lib

namespace AV
mutual
/-- Are two values alike? -/
def eqv : AV → AV → Bool
  | mk k n s _ _ ns _ _ xs, mk k' n' s' _ _ ns' _ _ xs' => decide (k = k' ∧ n = n' ∧ s = s' ∧ ns.length = ns'.length ∧ xs.length = xs'.length) && (decide (ns = ns') && eqvAll xs xs')
def eqvAll : List AV → List AV → Bool
  | [], _ => true
  | _ :: _, [] => true
  | x :: xs, y :: ys => eqv x y && eqvAll xs ys
end

theorem eqvAll_drop {xs ys : List AV} {j : Nat} {x y : AV} (hlt : j < xs.length) (hx : xs[j] = x) (hlt' : j < ys.length) (hy : ys[j] = y) : eqvAll (xs.drop j) (ys.drop j) = (eqv x y && eqvAll (xs.drop (j + 1)) (ys.drop (j + 1))) := by
  rw [List.drop_eq_getElem_cons hlt, List.drop_eq_getElem_cons hlt', eqvAll, hx, hy]
end AV

theorem names_drop {ns ns' : List ByteArray} {j : Nat} {x y : ByteArray} (hlt : j < ns.length) (hx : ns[j] = x) (hlt' : j < ns'.length) (hy : ns'[j] = y) : decide (ns.drop j = ns'.drop j) = (decide (x = y) && decide (ns.drop (j + 1) = ns'.drop (j + 1))) := by
  rw [List.drop_eq_getElem_cons hlt, List.drop_eq_getElem_cons hlt', hx, hy, ← Bool.decide_and, decide_eq_decide]
  simp

/-- What is asked of the call for each item. -/
def RSameAt (x : AV) : Prop := ∀ (y : AV) (w : World), x.In w → y.In w → Calls Tryd.prog 16 #[x.val, y.val] w fun e w' => e = .returned (.bool (AV.eqv x y)) ∧ Below w.heap.size w w'

set_option maxHeartbeats 1600000 in
set_option maxRecDepth 100000 in
theorem rsame_bad1 (k n k' n' : Int) (s s' : ByteArray) (na na' : Option Addr) (nc nc' : Nat) (ns ns' : List ByteArray) (xa xa' : Option Addr) (xc xc' : Nat) (xs xs' : List AV) (w : World) (hk : (k != k') = true) :
    Calls Tryd.prog 16 #[(AV.mk k n s na nc ns xa xc xs).val, (AV.mk k' n' s' na' nc' ns' xa' xc' xs').val] w fun e w' => e = .returned (.bool false) ∧ Below w.heap.size w w' := by
  simp only [AV.val, AV.row]
  go_enter Tryd.func16, Tryd.ntmps16
  go_wp2_with fail
  go_ret
  exact ⟨rfl, two_below w _ _⟩

set_option maxHeartbeats 1600000 in
set_option maxRecDepth 100000 in
theorem rsame_bad2 (k n n' : Int) (s s' : ByteArray) (na na' : Option Addr) (nc nc' : Nat) (ns ns' : List ByteArray) (xa xa' : Option Addr) (xc xc' : Nat) (xs xs' : List AV) (w : World) (hn : (n != n') = true) :
    Calls Tryd.prog 16 #[(AV.mk k n s na nc ns xa xc xs).val, (AV.mk k n' s' na' nc' ns' xa' xc' xs').val] w fun e w' => e = .returned (.bool false) ∧ Below w.heap.size w w' := by
  simp only [AV.val, AV.row]
  go_enter Tryd.func16, Tryd.ntmps16
  go_wp2_with fail
  go_ret
  exact ⟨rfl, two_below w _ _⟩

set_option maxHeartbeats 1600000 in
set_option maxRecDepth 100000 in
theorem rsame_bad3 (k n : Int) (s s' : ByteArray) (na na' : Option Addr) (nc nc' : Nat) (ns ns' : List ByteArray) (xa xa' : Option Addr) (xc xc' : Nat) (xs xs' : List AV) (w : World) (hs : (s.toList != s'.toList) = true) :
    Calls Tryd.prog 16 #[(AV.mk k n s na nc ns xa xc xs).val, (AV.mk k n s' na' nc' ns' xa' xc' xs').val] w fun e w' => e = .returned (.bool false) ∧ Below w.heap.size w w' := by
  have hs2 : (s.toList == s'.toList) = false := by simpa using hs
  simp only [AV.val, AV.row]
  go_enter Tryd.func16, Tryd.ntmps16
  go_wp2_with fail
  go_ret
  exact ⟨rfl, two_below w _ _⟩

set_option maxHeartbeats 1600000 in
set_option maxRecDepth 100000 in
theorem rsame_bad4 (k n : Int) (s : ByteArray) (na na' : Option Addr) (nc nc' : Nat) (ns ns' : List ByteArray) (xa xa' : Option Addr) (xc xc' : Nat) (xs xs' : List AV) (w : World) (hl : ((ns.length : Int) != (ns'.length : Int)) = true) :
    Calls Tryd.prog 16 #[(AV.mk k n s na nc ns xa xc xs).val, (AV.mk k n s na' nc' ns' xa' xc' xs').val] w fun e w' => e = .returned (.bool false) ∧ Below w.heap.size w w' := by
  simp only [AV.val, AV.row]
  go_enter Tryd.func16, Tryd.ntmps16
  go_wp2_with fail
  go_ret
  exact ⟨rfl, two_below w _ _⟩

set_option maxHeartbeats 1600000 in
set_option maxRecDepth 100000 in
theorem rsame_bad5 (k n : Int) (s : ByteArray) (na na' : Option Addr) (nc nc' : Nat) (ns ns' : List ByteArray) (xa xa' : Option Addr) (xc xc' : Nat) (xs xs' : List AV) (w : World) (hl : ((ns.length : Int) != (ns'.length : Int)) = false) (hx : ((xs.length : Int) != (xs'.length : Int)) = true) :
    Calls Tryd.prog 16 #[(AV.mk k n s na nc ns xa xc xs).val, (AV.mk k n s na' nc' ns' xa' xc' xs').val] w fun e w' => e = .returned (.bool false) ∧ Below w.heap.size w w' := by
  simp only [AV.val, AV.row]
  go_enter Tryd.func16, Tryd.ntmps16
  go_wp2_with fail
  go_ret
  exact ⟨rfl, two_below w _ _⟩


set_option maxHeartbeats 6000000 in
set_option maxRecDepth 100000 in
theorem rsame_good (k n : Int) (s : ByteArray) (na na' : Option Addr) (nc nc' : Nat) (ns ns' : List ByteArray) (xa xa' : Option Addr) (xc xc' : Nat) (xs xs' : List AV) (w : World) (hl : xs.length = xs'.length) (hln : ns.length = ns'.length) (hlx : xs.length ≤ 9223372036854775807) (hlN : ns.length ≤ 9223372036854775807)
    (hits : AV.Its w xa xs) (hits' : AV.Its w xa' xs') (hnin : AV.NamesIn w na ns) (hnin' : AV.NamesIn w na' ns') (IH : Hid (∀ x ∈ xs, RSameAt x)) :
    Calls Tryd.prog 16 #[(AV.mk k n s na nc ns xa xc xs).val, (AV.mk k n s na' nc' ns' xa' xc' xs').val] w fun e w' => e = .returned (.bool (decide (ns = ns') && AV.eqvAll xs xs')) ∧ Below w.heap.size w w' := by
  have HITS := Lib.hid hits
  have HITS' := Lib.hid hits'
  have HNIN := Lib.hid hnin
  have HNIN' := Lib.hid hnin'
  have HL := Lib.hid hl
  have HLN := Lib.hid hln
  have q0 : ((ns.length : Int) != (ns'.length : Int)) = false := by rw [hln]; simp
  have q1 : ((xs.length : Int) != (xs'.length : Int)) = false := by rw [hl]; simp
  obtain ⟨B, hB⟩ : ∃ B, AV.eqvAll xs xs' = B := ⟨_, rfl⟩
  obtain ⟨U, hU⟩ : ∃ U, decide (ns = ns') = U := ⟨_, rfl⟩
  rw [hB, hU]
  have HB := Lib.hid hB
  have HU := Lib.hid hU
  clear hits hits' hnin hnin' hl hln hB hU
  have hb2 := two_below w (.cells #[.int .i64 k, .int .i64 n, .string s, .slice na ns.length nc, .slice xa xs.length xc] 25) (.cells #[.int .i64 k, .int .i64 n, .string s, .slice na' ns'.length nc', .slice xa' xs'.length xc'] 25)
  have hbx := two_box w #[.int .i64 k, .int .i64 n, .string s, .slice na ns.length nc, .slice xa xs.length xc] #[.int .i64 k, .int .i64 n, .string s, .slice na' ns'.length nc', .slice xa' xs'.length xc']
  have hz : w.heap.size + 1 < ((w.alloc (.cells #[.int .i64 k, .int .i64 n, .string s, .slice na ns.length nc, .slice xa xs.length xc] 25)).alloc (.cells #[.int .i64 k, .int .i64 n, .string s, .slice na' ns'.length nc', .slice xa' xs'.length xc'] 25)).heap.size := by simp
  have HBX := Lib.hid hbx
  clear hbx
  simp only [AV.val, AV.row]
  go_enter Tryd.func16, Tryd.ntmps16
  go_wp2_with fail
  have c3 : ((w.alloc (.cells #[.int .i64 k, .int .i64 n, .string s, .slice na ns.length nc, .slice xa xs.length xc] 25)).alloc (.cells #[.int .i64 k, .int .i64 n, .string s, .slice na' ns'.length nc', .slice xa' xs'.length xc'] 25)).cell? ⟨w.heap.size, 3, none⟩ = some (.slice na ns.length nc) := by rw [Lib.cell_of_heap HBX.out.1]; rfl
  have c4 : ((w.alloc (.cells #[.int .i64 k, .int .i64 n, .string s, .slice na ns.length nc, .slice xa xs.length xc] 25)).alloc (.cells #[.int .i64 k, .int .i64 n, .string s, .slice na' ns'.length nc', .slice xa' xs'.length xc'] 25)).cell? ⟨w.heap.size, 4, none⟩ = some (.slice xa xs.length xc) := by rw [Lib.cell_of_heap HBX.out.1]; rfl
  have d3 : ((w.alloc (.cells #[.int .i64 k, .int .i64 n, .string s, .slice na ns.length nc, .slice xa xs.length xc] 25)).alloc (.cells #[.int .i64 k, .int .i64 n, .string s, .slice na' ns'.length nc', .slice xa' xs'.length xc'] 25)).cell? ⟨w.heap.size + 1, 3, none⟩ = some (.slice na' ns'.length nc') := by rw [Lib.cell_of_heap HBX.out.2]; rfl
  have d4 : ((w.alloc (.cells #[.int .i64 k, .int .i64 n, .string s, .slice na ns.length nc, .slice xa xs.length xc] 25)).alloc (.cells #[.int .i64 k, .int .i64 n, .string s, .slice na' ns'.length nc', .slice xa' xs'.length xc'] 25)).cell? ⟨w.heap.size + 1, 4, none⟩ = some (.slice xa' xs'.length xc') := by rw [Lib.cell_of_heap HBX.out.2]; rfl
  generalize (w.alloc (.cells #[.int .i64 k, .int .i64 n, .string s, .slice na ns.length nc, .slice xa xs.length xc] 25)).alloc (.cells #[.int .i64 k, .int .i64 n, .string s, .slice na' ns'.length nc', .slice xa' xs'.length xc'] 25) = W0 at *
  clear HBX
  go_loopg [5] ns.length (fun g i wr => ∃ j : Nat, j + g = ns.length ∧ i = .int .i64 (j : Int) ∧ decide (ns.drop j = ns'.drop j) = U ∧ Below w.heap.size w wr ∧ w.heap.size + 1 < wr.heap.size ∧
    wr.cell? ⟨w.heap.size, 3, none⟩ = some (.slice na ns.length nc) ∧ wr.cell? ⟨w.heap.size, 4, none⟩ = some (.slice xa xs.length xc) ∧ wr.cell? ⟨w.heap.size + 1, 3, none⟩ = some (.slice na' ns'.length nc') ∧ wr.cell? ⟨w.heap.size + 1, 4, none⟩ = some (.slice xa' xs'.length xc'))
  case atStart => exact ⟨0, by omega, rfl, HU.out, hb2, hz, c3, c4, d3, d4⟩
  case round =>
    obtain ⟨j, hj, rfl, hrest, hb, hzr, r3, r4, s3, s4⟩ := hrel
    have HJ := Lib.hid hj
    have HREST := Lib.hid hrest
    clear hj hrest c3 c4 d3 d4
    by_cases hlt : j < ns.length
    · have hlt' : j < ns'.length := by have := HLN.out; omega
      obtain ⟨bx, ox, rfl, hit⟩ := (HNIN.out).resolve_left (by intro e; rw [e] at hlt; simp at hlt)
      obtain ⟨by', oy, rfl, hit'⟩ := (HNIN'.out).resolve_left (by intro e; rw [e] at hlt'; simp at hlt')
      have f1 : wr.cell? ⟨bx, ox + j, none⟩ = some (.string ns[j]) := cell_kept2 hb (hit j hlt)
      have f2 : wr.cell? ⟨by', oy + j, none⟩ = some (.string ns'[j]) := cell_kept2 hb (hit' j hlt')
      obtain ⟨x, hx⟩ : ∃ x, ns[j] = x := ⟨_, rfl⟩
      obtain ⟨y, hy⟩ : ∃ y, ns'[j] = y := ⟨_, rfl⟩
      have hd := names_drop hlt hx hlt' hy
      rw [HREST.out] at hd
      rw [hx] at f1
      rw [hy] at f2
      have HD := Lib.hid hd
      clear hx hy hit hit' hd
      have g1 : ∀ q, (wr.drewN q).cell? ⟨bx, ox + j, none⟩ = some (.string x) := fun _ => f1
      by_cases hxy : x = y
      · subst hxy
        go_wp2_with fail
        go_quiet (fail)
        go_wp2_with fail
        go_roundg (gk - 1)
        case measure => have := HJ.out; omega
        case rel => exact ⟨j + 1, by have := HJ.out; omega, by go_num, by rw [HD.out]; simp, hb.trans ⟨rfl, rfl, rfl, Nat.le_refl _, fun _ _ => rfl⟩, hzr, r3, r4, s3, s4⟩
      · have e1 := str_ne hxy
        have e2 := str_eq_false hxy
        have hUf : U = false := by rw [HD.out, decide_eq_false hxy]; rfl
        clear hxy
        go_wp2_with fail
        go_quiet (fail)
        go_wp2_with fail
        go_ret
        exact ⟨ret_bool (by rw [hUf]; rfl), hb.trans ⟨rfl, rfl, rfl, Nat.le_refl _, fun _ _ => rfl⟩⟩
    · have hU : U = true := by
        rw [← HREST.out, show ns.drop j = [] from List.drop_eq_nil_of_le (by omega), show ns'.drop j = [] from List.drop_eq_nil_of_le (by have := HLN.out; omega)]
        simp
      subst hU
      go_wp2_with fail
      go_loopg [6] xs.length (fun g i wr => ∃ j : Nat, j + g = xs.length ∧ i = .int .i64 (j : Int) ∧ AV.eqvAll (xs.drop j) (xs'.drop j) = B ∧ Below w.heap.size w wr ∧ w.heap.size + 1 < wr.heap.size ∧
        wr.cell? ⟨w.heap.size, 4, none⟩ = some (.slice xa xs.length xc) ∧ wr.cell? ⟨w.heap.size + 1, 4, none⟩ = some (.slice xa' xs'.length xc'))
      case atStart => exact ⟨0, by omega, rfl, HB.out, hb, hzr, r4, s4⟩
      case round =>
        obtain ⟨i, hi, rfl, hrest, hbv, hzv, hd3, hd4⟩ := hrel
        have HI := Lib.hid hi
        have HREST2 := Lib.hid hrest
        have HBW := Lib.hid hb
        clear hi hrest r3 r4 s3 s4 hb
        by_cases hlt2 : i < xs.length
        · have hlt' : i < xs'.length := by have := HL.out; omega
          obtain ⟨bx, ox, rfl, hit⟩ := (HITS.out).resolve_left (by intro e; rw [e] at hlt2; simp at hlt2)
          obtain ⟨by', oy, rfl, hit'⟩ := (HITS'.out).resolve_left (by intro e; rw [e] at hlt'; simp at hlt')
          have hr : wr.rangeAt bx (ox + i * 5) xs[i].row := AV.rangeAt_old (fun a ha => hbv.cell ha) (hit i hlt2).1
          have hr' : wr.rangeAt by' (oy + i * 5) xs'[i].row := AV.rangeAt_old (fun a ha => hbv.cell ha) (hit' i hlt').1
          have hxin : AV.In wr xs[i] := (hit i hlt2).2.below hbv (Nat.le_refl _)
          have hyin : AV.In wr xs'[i] := (hit' i hlt').2.below hbv (Nat.le_refl _)
          have hmem : xs[i] ∈ xs := List.getElem_mem hlt2
          obtain ⟨x, hx⟩ : ∃ x, xs[i] = x := ⟨_, rfl⟩
          obtain ⟨y, hy⟩ : ∃ y, xs'[i] = y := ⟨_, rfl⟩
          have hd := AV.eqvAll_drop hlt2 hx hlt' hy
          rw [HREST2.out] at hd
          rw [hx] at hxin hr hmem
          rw [hy] at hyin hr'
          have CALL2 := Lib.hid (fun (W : World) (hW : Below wr.heap.size wr W) => IH.out _ hmem y W (hxin.below hW (Nat.le_refl _)) (hyin.below hW (Nat.le_refl _)))
          obtain ⟨V, hV⟩ : ∃ V, AV.eqv x y = V := ⟨_, rfl⟩
          rw [hV] at CALL2 hd
          obtain ⟨k1, n1, s1, na1, nc1, ns1, xa1, xc1, xs1⟩ := x
          obtain ⟨k2, n2, s2, na2, nc2, ns2, xa2, xc2, xs2⟩ := y
          have a0 := fun d os => cell_regrown (hr 0 _ rfl) d os
          have a1 := fun d os => cell_regrown (hr 1 _ rfl) d os
          have a2 := fun d os => cell_regrown (hr 2 _ rfl) d os
          have a3 := fun d os => cell_regrown (hr 3 _ rfl) d os
          have a4 := fun d os => cell_regrown (hr 4 _ rfl) d os
          have b0 := fun d os => cell_regrown (hr' 0 _ rfl) d os
          have b1 := fun d os => cell_regrown (hr' 1 _ rfl) d os
          have b2 := fun d os => cell_regrown (hr' 2 _ rfl) d os
          have b3 := fun d os => cell_regrown (hr' 3 _ rfl) d os
          have b4 := fun d os => cell_regrown (hr' 4 _ rfl) d os
          have c3 := fun d os => cell_regrown hd3 d os
          have c4 := fun d os => cell_regrown hd4 d os
          simp only [Nat.add_zero] at a0 b0
          have HD := Lib.hid hd
          clear hx hy hit hit' hr hr' hd hmem hxin hyin hV
          go_wp2_with fail
          refine wp_region_quiet_below (by kernel_rfl) (by kernel_rfl) ?_
          repeat (go_big_quiet_step (exact Calls.regrown_of (CALL2.out _ (below_regrown _ _ _))))
          refine wpQuiet_nil ?_
          intro _ hw'
          obtain ⟨⟨dq, osq⟩, hw''⟩ := hw'
          subst hw''
          have hbq := below_regrown wr dq osq
          have hqc3 := c3 dq osq
          have hqc4 := c4 dq osq
          clear a0 a1 a2 a3 a4 b0 b1 b2 b3 b4 c3 c4
          generalize Go.Sort.grow (redrawn wr dq) osq = wq at *
          cases V
          · go_wp2_with fail
            go_ret
            have : B = false := by rw [HD.out]; rfl
            exact ⟨ret_bool (by rw [this]; rfl), hbv.trans (hbq.mono hbv.size)⟩
          · go_wp2_with fail
            go_roundg (gk - 1)
            case measure => have := HI.out; omega
            case rel => exact ⟨i + 1, by have := HI.out; omega, by go_num, by rw [HD.out]; simp, hbv.trans (hbq.mono hbv.size), by have := hbq.size; omega, hqc3, hqc4⟩
        · have hB : B = true := by rw [← HREST2.out, show xs.drop i = [] from List.drop_eq_nil_of_le (by omega)]; simp [AV.eqvAll]
          go_wp2_with fail
          go_ret
          exact ⟨ret_bool (by rw [hB]; rfl), hbv⟩

theorem rsame_any : ∀ t : AV, RSameAt t := by
  intro t
  induction t using AV.ind with
  | h k n s na nc ns xa xc xs ih =>
    intro y w hin hiny
    obtain ⟨k', n', s', na', nc', ns', xa', xc', xs'⟩ := y
    rw [AV.eqv]
    by_cases hk : k = k'
    rotate_left
    · rw [decide_eq_false (fun h => hk h.1), Bool.false_and]
      exact rsame_bad1 k n k' n' s s' na na' nc nc' ns ns' xa xa' xc xc' xs xs' w (by simpa using hk)
    subst hk
    by_cases hn : n = n'
    rotate_left
    · rw [decide_eq_false (fun h => hn h.2.1), Bool.false_and]
      exact rsame_bad2 k n n' s s' na na' nc nc' ns ns' xa xa' xc xc' xs xs' w (by simpa using hn)
    subst hn
    by_cases hs : s = s'
    rotate_left
    · rw [decide_eq_false (fun h => hs h.2.2.1), Bool.false_and]
      exact rsame_bad3 k n s s' na na' nc nc' ns ns' xa xa' xc xc' xs xs' w (str_ne hs)
    subst hs
    by_cases hln : ns.length = ns'.length
    rotate_left
    · rw [decide_eq_false (fun h => hln h.2.2.2.1), Bool.false_and]
      exact rsame_bad4 k n s na na' nc nc' ns ns' xa xa' xc xc' xs xs' w (by simp; omega)
    by_cases hl : xs.length = xs'.length
    rotate_left
    · rw [decide_eq_false (fun h => hl h.2.2.2.2), Bool.false_and]
      exact rsame_bad5 k n s na na' nc nc' ns ns' xa xa' xc xc' xs xs' w (by rw [hln]; simp) (by simp; omega)
    rw [decide_eq_true ⟨rfl, rfl, rfl, hln, hl⟩, Bool.true_and]
    exact rsame_good k n s na na' nc nc' ns ns' xa xa' xc xc' xs xs' w hl hln hin.lens.2.2 hin.lenN hin.its hiny.its hin.names.1 hiny.names.1 ih
end Go.Proofs.YtcbfbmidekmboaaDoor
