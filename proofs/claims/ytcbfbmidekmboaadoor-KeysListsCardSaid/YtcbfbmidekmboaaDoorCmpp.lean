/- Two formed values, compared by the program: what the calls answer; no condition of ours. -/
import Derived.Test.YtcbfbmidekmboaaDoorCmpm
namespace Go.Proofs.YtcbfbmidekmboaaDoor
open Go.ChangeShapes Go.WideShapes Go.Deep Go.RowKit Go.Lib

theorem lexI_assoc (a b c : Int) : lexI (lexI a b) c = lexI a (lexI b c) := by
  unfold lexI
  by_cases h : a = 0
  · simp [h]
  · simp [h]

theorem lexI_left {a b : Int} (h : a ≠ 0) : lexI a b = a := by unfold lexI; rw [if_neg h]
theorem lexI_right {a b : Int} (h : a = 0) : lexI a b = b := by unfold lexI; rw [if_pos h]

/-- What the members at a place tell. -/
def membI (o : Bool) (ns ns' : List ByteArray) (x y : AV) (j : Nat) : Int := lexI (if o then cmpT (ns.getD j ⟨#[]⟩) (ns'.getD j ⟨#[]⟩) else 0) (AV.ord x y)

theorem AV.ordAll_drop {o : Bool} {ns ns' : List ByteArray} {xs ys : List AV} {j : Nat} {x y : AV} (hlt : j < xs.length) (hx : xs[j] = x) (hlt' : j < ys.length) (hy : ys[j] = y) :
    ordAll o (ns.drop j) (ns'.drop j) (xs.drop j) (ys.drop j) = lexI (membI o ns ns' x y j) (ordAll o (ns.drop (j + 1)) (ns'.drop (j + 1)) (xs.drop (j + 1)) (ys.drop (j + 1))) := by
  rw [List.drop_eq_getElem_cons hlt, List.drop_eq_getElem_cons hlt', ordAll, hx, hy, membI, lexI_assoc]
  simp [List.headD_eq_head?_getD, List.head?_drop, List.getD_eq_getElem?_getD]

theorem AV.ordAll_end {o : Bool} {ns ns' : List ByteArray} {xs ys : List AV} {j : Nat} (h : j ≤ xs.length) (h' : j ≤ ys.length) (he : j = xs.length ∨ j = ys.length) : ordAll o (ns.drop j) (ns'.drop j) (xs.drop j) (ys.drop j) = compareInt xs.length ys.length := by
  by_cases h1 : j = xs.length
  · rw [show xs.drop j = [] from List.drop_eq_nil_of_le (by omega), ordAll, List.length_drop]
    unfold compareInt
    by_cases h2 : xs.length < ys.length
    · rw [if_pos (by omega), if_pos (by omega)]
    · rw [if_neg (by omega), if_neg (by omega), if_neg (by omega), if_neg (by omega)]
  · have h2 : j = ys.length := he.resolve_left h1
    rw [show ys.drop j = [] from List.drop_eq_nil_of_le (by omega), show xs.drop j = xs[j]'(by omega) :: xs.drop (j + 1) from List.drop_eq_getElem_cons (by omega), ordAll]
    unfold compareInt
    rw [if_neg (by omega), if_pos (by omega)]

/-- One member of two formed values of one kind. -/
theorem member_any (k n n' : Int) (s s' : ByteArray) (na na' : Option Addr) (nc nc' : Nat) (ns ns' : List ByteArray) (xa xa' : Option Addr) (xc xc' : Nat) (xs xs' : List AV) (w : World) (i : Nat)
    (hi : i < xs.length) (hi' : i < xs'.length) (hits : AV.Its w xa xs) (hits' : AV.Its w xa' xs') (hnin : AV.NamesIn w na ns) (hnin' : AV.NamesIn w na' ns') (hl : k = 6 → ns.length = xs.length ∧ ns'.length = xs'.length) (IH : CmpAt xs[i]) (hf : Fd xs[i]) (hf' : Fd xs'[i]) :
    Calls Tryd.prog 63 #[(AV.mk k n s na nc ns xa xc xs).val, (AV.mk k n' s' na' nc' ns' xa' xc' xs').val, .int .i64 (i : Int)] w fun e w' => e = .returned (.int .i64 (membI (decide (k = 6)) ns ns' xs[i] xs'[i] i)) ∧ Below w.heap.size w w' := by
  by_cases hk : k = 6
  · subst hk
    obtain ⟨hl1, hl2⟩ := hl rfl
    have g1 : ns.getD i ⟨#[]⟩ = ns[i] := by simp [List.getD_eq_getElem?_getD, List.getElem?_eq_getElem (show i < ns.length by omega)]
    have g2 : ns'.getD i ⟨#[]⟩ = ns'[i] := by simp [List.getD_eq_getElem?_getD, List.getElem?_eq_getElem (show i < ns'.length by omega)]
    by_cases he : ns[i] = ns'[i]
    · have e : membI (decide ((6 : Int) = 6)) ns ns' xs[i] xs'[i] i = AV.ord xs[i] xs'[i] := by
        rw [membI, g1, g2, he]
        exact lexI_right (by simp [cmpT_zero])
      rw [e]
      exact member_item 6 n n' s s' na na' nc nc' ns ns' xa xa' xc xc' xs xs' w i hi hi' hits hits' hnin hnin' (.inr ⟨rfl, by omega, by omega, he⟩) IH hf hf'
    · have e : membI (decide ((6 : Int) = 6)) ns ns' xs[i] xs'[i] i = cmpT ns[i] ns'[i] := by
        rw [membI, g1, g2]
        simp only [decide_true, if_true]
        exact lexI_left (fun h => he (cmpT_zero.1 h))
      rw [e]
      exact member_name n n' s s' na na' nc nc' ns ns' xa xa' xc xc' xs xs' w i (by omega) (by omega) hnin hnin' he
  · have e : membI (decide (k = 6)) ns ns' xs[i] xs'[i] i = AV.ord xs[i] xs'[i] := by
      rw [membI, decide_eq_false hk]
      exact lexI_right rfl
    rw [e]
    exact member_item k n n' s s' na na' nc nc' ns ns' xa xa' xc xc' xs xs' w i hi hi' hits hits' hnin hnin' (.inl hk) IH hf hf'

set_option maxHeartbeats 4000000 in
set_option maxRecDepth 100000 in
theorem members_any (k n n' : Int) (s s' : ByteArray) (na na' : Option Addr) (nc nc' : Nat) (ns ns' : List ByteArray) (xa xa' : Option Addr) (xc xc' : Nat) (xs xs' : List AV) (w : World) (hlx : xs.length ≤ 9223372036854775807) (hlx' : xs'.length ≤ 9223372036854775807)
    (hits : AV.Its w xa xs) (hits' : AV.Its w xa' xs') (hnin : AV.NamesIn w na ns) (hnin' : AV.NamesIn w na' ns') (hl : k = 6 → ns.length = xs.length ∧ ns'.length = xs'.length) (IH : Hid (∀ x ∈ xs, CmpAt x)) (hf : ∀ x ∈ xs, Fd x) (hf' : ∀ x ∈ xs', Fd x) :
    Calls Tryd.prog 51 #[(AV.mk k n s na nc ns xa xc xs).val, (AV.mk k n' s' na' nc' ns' xa' xc' xs').val] w fun e w' => e = .returned (.int .i64 (AV.ordAll (decide (k = 6)) ns ns' xs xs')) ∧ Below w.heap.size w w' := by
  obtain ⟨C, hC⟩ : ∃ C, AV.ordAll (decide (k = 6)) ns ns' xs xs' = C := ⟨_, rfl⟩
  rw [hC]
  have HC := Lib.hid hC
  have MEMB := Lib.hid (fun (i : Nat) (hi : i < xs.length) (hi' : i < xs'.length) (W : World) (hW : Below w.heap.size w W) => member_any k n n' s s' na na' nc nc' ns ns' xa xa' xc xc' xs xs' W i hi hi' (hits.below hW) (hits'.below hW) (hnin.below hW) (hnin'.below hW) hl (IH.out _ (List.getElem_mem hi)) (hf _ (List.getElem_mem hi)) (hf' _ (List.getElem_mem hi')))
  have hb2 := two_below w (.cells #[.int .i64 k, .int .i64 n, .string s, .slice na ns.length nc, .slice xa xs.length xc] 25) (.cells #[.int .i64 k, .int .i64 n', .string s', .slice na' ns'.length nc', .slice xa' xs'.length xc'] 25)
  have hbx := two_box w #[.int .i64 k, .int .i64 n, .string s, .slice na ns.length nc, .slice xa xs.length xc] #[.int .i64 k, .int .i64 n', .string s', .slice na' ns'.length nc', .slice xa' xs'.length xc']
  have HBX := Lib.hid hbx
  have CMP := Lib.hid (fun W => cmp_int (xs.length : Int) (xs'.length : Int) W)
  obtain ⟨m, hm⟩ : ∃ m : Nat, m = min xs.length xs'.length := ⟨_, rfl⟩
  have hmi : min (xs.length : Int) (xs'.length : Int) = (m : Int) := by omega
  have HM := Lib.hid hm
  have HMI := Lib.hid hmi
  clear hbx hC IH hf hf' hits hits' hnin hnin' hl hm hmi
  simp only [AV.val, AV.row] at MEMB ⊢
  go_enter Tryd.func51, Tryd.ntmps51
  go_wp2_with fail
  have k1 : Hid (_ = _) := Lib.hid HBX.out.1
  have k2 : Hid (_ = _) := Lib.hid HBX.out.2
  have kr1 := box_row (t := AV.mk k n s na nc ns xa xc xs) k1.out
  have kr2 := box_row (t := AV.mk k n' s' na' nc' ns' xa' xc' xs') k2.out
  have hz : w.heap.size + 1 < ((w.alloc (.cells #[.int .i64 k, .int .i64 n, .string s, .slice na ns.length nc, .slice xa xs.length xc] 25)).alloc (.cells #[.int .i64 k, .int .i64 n', .string s', .slice na' ns'.length nc', .slice xa' xs'.length xc'] 25)).heap.size := by simp
  clear k1 k2 HBX
  generalize (w.alloc (.cells #[.int .i64 k, .int .i64 n, .string s, .slice na ns.length nc, .slice xa xs.length xc] 25)).alloc (.cells #[.int .i64 k, .int .i64 n', .string s', .slice na' ns'.length nc', .slice xa' xs'.length xc'] 25) = W0 at *
  have KR1 := Lib.hid kr1
  have KR2 := Lib.hid kr2
  have hmi := HMI.out
  clear kr1 kr2
  have hms : max (-(9223372036854775808 : Int)) m ≤ 9223372036854775807 := by have := HM.out; omega
  rw [hmi]
  clear hmi
  go_loopg [14] m (fun g i wr => ∃ j : Nat, j + g = m ∧ i = .int .i64 (j : Int) ∧ AV.ordAll (decide (k = 6)) (ns.drop j) (ns'.drop j) (xs.drop j) (xs'.drop j) = C ∧ Below w.heap.size w wr ∧ w.heap.size + 1 < wr.heap.size ∧
    wr.rangeAt w.heap.size 0 (AV.mk k n s na nc ns xa xc xs).row ∧ wr.rangeAt (w.heap.size + 1) 0 (AV.mk k n' s' na' nc' ns' xa' xc' xs').row)
  case atStart => exact ⟨0, by omega, rfl, HC.out, hb2, hz, KR1.out, KR2.out⟩
  case round =>
    obtain ⟨j, hj, rfl, hrest, hb, hzr, hr1, hr2⟩ := hrel
    have R1 := Lib.hid hr1
    have R2 := Lib.hid hr2
    have HJ := Lib.hid hj
    have HREST := Lib.hid hrest
    clear hj hrest hr1 hr2 KR1 KR2
    by_cases hlt : j < m
    · have hx1 : j < xs.length := by have := HM.out; omega
      have hx2 : j < xs'.length := by have := HM.out; omega
      have hd := AV.ordAll_drop (o := decide (k = 6)) (ns := ns) (ns' := ns') hx1 rfl hx2 rfl
      rw [HREST.out] at hd
      have CALL := Lib.hid (MEMB.out j hx1 hx2)
      obtain ⟨V, hV⟩ : ∃ V, membI (decide (k = 6)) ns ns' xs[j] xs'[j] j = V := ⟨_, rfl⟩
      rw [hV] at hd CALL
      have HD := Lib.hid hd
      clear hd hV
      go_wp2_with (first | ((with_reducible refine wpList_item_out R1.out ?_ ?_); rfl) | ((with_reducible refine wpList_item_out R2.out ?_ ?_); rfl))
      refine (CALL.out _ hb).mono ?_
      rintro e w1 ⟨rfl, hb1⟩
      have hbn := hb.trans (hb1.mono hb.size)
      have rr1 := AV.rangeAt_old (fun a ha => hb1.cell ha) R1.out
      have rr2 := AV.rangeAt_old (fun a ha => hb1.cell ha) R2.out
      have hz1 : w.heap.size + 1 < w1.heap.size := by have := hb1.size; omega
      by_cases hv : V = 0
      · subst hv
        have hC : AV.ordAll (decide (k = 6)) (ns.drop (j + 1)) (ns'.drop (j + 1)) (xs.drop (j + 1)) (xs'.drop (j + 1)) = C := by rw [HD.out]; exact (lexI_right rfl).symm
        have HCC := Lib.hid hC
        have RR1 := Lib.hid rr1
        have RR2 := Lib.hid rr2
        clear hC rr1 rr2
        go_wp2_with fail
        go_roundg (gk - 1)
        case measure => have := HJ.out; omega
        case rel => exact ⟨j + 1, by have := HJ.out; omega, by go_num, HCC.out, hbn, hz1, RR1.out, RR2.out⟩
      · have hC : C = V := by rw [HD.out]; exact lexI_left hv
        have hv' : (V == 0) = false := by simpa using hv
        have hv2 : (V != 0) = true := by simpa using hv
        have HCC := Lib.hid hC
        clear hC hv rr1 rr2
        go_wp2_with fail
        go_ret
        exact ⟨ret_i64 HCC.out.symm, hbn⟩
    · have hE := AV.ordAll_end (o := decide (k = 6)) (ns := ns) (ns' := ns') (xs := xs) (ys := xs') (j := j) (by have := HM.out; have := HJ.out; omega) (by have := HM.out; have := HJ.out; omega) (by have := HM.out; have := HJ.out; omega)
      rw [HREST.out] at hE
      have HE := Lib.hid hE
      clear hE
      have c4 : wr.cell? ⟨w.heap.size, 4, none⟩ = some (.slice xa xs.length xc) := R1.out 4 _ rfl
      have d4 : wr.cell? ⟨w.heap.size + 1, 4, none⟩ = some (.slice xa' xs'.length xc') := R2.out 4 _ rfl
      go_wp2_with fail
      refine (CMP.out _).mono ?_
      rintro e w1 ⟨rfl, rfl⟩
      go_wp2_with fail
      go_ret
      exact ⟨ret_i64 HE.out.symm, hb⟩

set_option maxHeartbeats 2000000 in
set_option maxRecDepth 100000 in
theorem compare_kinds (k k' n n' : Int) (s s' : ByteArray) (na na' : Option Addr) (nc nc' : Nat) (ns ns' : List ByteArray) (xa xa' : Option Addr) (xc xc' : Nat) (xs xs' : List AV) (w : World) (hk : k ≠ k') :
    Calls Tryd.prog 30 #[(AV.mk k n s na nc ns xa xc xs).val, (AV.mk k' n' s' na' nc' ns' xa' xc' xs').val] w fun e w' => e = .returned (.int .i64 (compareInt k k')) ∧ Below w.heap.size w w' := by
  have CALL := Lib.hid (fun W => cmp_int k k' W)
  have hk1 : (k != k') = true := by simpa using hk
  have hk2 : (k == k') = false := by simpa using hk
  clear hk
  simp only [AV.val, AV.row]
  go_enter Tryd.func30, Tryd.ntmps30
  go_wp2_with fail
  refine (CALL.out _).mono ?_
  rintro e w1 ⟨rfl, rfl⟩
  go_wp2_with fail
  go_ret
  exact ⟨rfl, two_below w _ _⟩

set_option maxHeartbeats 2000000 in
set_option maxRecDepth 100000 in
theorem compare_plain (k n n' : Int) (s s' : ByteArray) (na na' : Option Addr) (nc nc' : Nat) (ns ns' : List ByteArray) (xa xa' : Option Addr) (xc xc' : Nat) (xs xs' : List AV) (w : World) (h3 : (k == 3) = false) (h4 : (k == 4) = false) (h5 : (k == 5) = false) (h6 : (k == 6) = false) :
    Calls Tryd.prog 30 #[(AV.mk k n s na nc ns xa xc xs).val, (AV.mk k n' s' na' nc' ns' xa' xc' xs').val] w fun e w' => e = .returned (.int .i64 0) ∧ Below w.heap.size w w' := by
  simp only [AV.val, AV.row]
  go_enter Tryd.func30, Tryd.ntmps30
  go_wp2_with fail
  go_ret
  exact ⟨rfl, two_below w _ _⟩

set_option maxHeartbeats 2000000 in
set_option maxRecDepth 100000 in
theorem compare_num (n n' : Int) (s s' : ByteArray) (na na' : Option Addr) (nc nc' : Nat) (ns ns' : List ByteArray) (xa xa' : Option Addr) (xc xc' : Nat) (xs xs' : List AV) (w : World) :
    Calls Tryd.prog 30 #[(AV.mk 3 n s na nc ns xa xc xs).val, (AV.mk 3 n' s' na' nc' ns' xa' xc' xs').val] w fun e w' => e = .returned (.int .i64 (compareInt n n')) ∧ Below w.heap.size w w' := by
  have CALL := Lib.hid (fun W => cmp_int64 n n' W)
  simp only [AV.val, AV.row]
  go_enter Tryd.func30, Tryd.ntmps30
  go_wp2_with fail
  refine (CALL.out _).mono ?_
  rintro e w1 ⟨rfl, rfl⟩
  go_wp2_with fail
  go_ret
  exact ⟨rfl, two_below w _ _⟩

set_option maxHeartbeats 2000000 in
set_option maxRecDepth 100000 in
theorem compare_text (n n' : Int) (s s' : ByteArray) (na na' : Option Addr) (nc nc' : Nat) (ns ns' : List ByteArray) (xa xa' : Option Addr) (xc xc' : Nat) (xs xs' : List AV) (w : World) :
    Calls Tryd.prog 30 #[(AV.mk 4 n s na nc ns xa xc xs).val, (AV.mk 4 n' s' na' nc' ns' xa' xc' xs').val] w fun e w' => e = .returned (.int .i64 (cmpT s s')) ∧ Below w.heap.size w w' := by
  have CALL := Lib.hid (fun W => Tryd.strings_Compare s s' W)
  simp only [AV.val, AV.row]
  go_enter Tryd.func30, Tryd.ntmps30
  go_wp2_with fail
  refine (CALL.out _).mono ?_
  rintro e w1 ⟨rfl, rfl⟩
  go_wp2_with fail
  go_ret
  exact ⟨rfl, two_below w _ _⟩

set_option maxHeartbeats 2000000 in
set_option maxRecDepth 100000 in
theorem compare_list (k n n' C : Int) (s s' : ByteArray) (na na' : Option Addr) (nc nc' : Nat) (ns ns' : List ByteArray) (xa xa' : Option Addr) (xc xc' : Nat) (xs xs' : List AV) (w : World) (hk : k = 5 ∨ k = 6)
    (CALL : Hid (∀ W, Below w.heap.size w W → Calls Tryd.prog 51 #[(AV.mk k n s na nc ns xa xc xs).val, (AV.mk k n' s' na' nc' ns' xa' xc' xs').val] W fun e w' => e = .returned (.int .i64 C) ∧ Below W.heap.size W w')) :
    Calls Tryd.prog 30 #[(AV.mk k n s na nc ns xa xc xs).val, (AV.mk k n' s' na' nc' ns' xa' xc' xs').val] w fun e w' => e = .returned (.int .i64 C) ∧ Below w.heap.size w w' := by
  have hb2 := two_below w (.cells #[.int .i64 k, .int .i64 n, .string s, .slice na ns.length nc, .slice xa xs.length xc] 25) (.cells #[.int .i64 k, .int .i64 n', .string s', .slice na' ns'.length nc', .slice xa' xs'.length xc'] 25)
  simp only [AV.val, AV.row] at CALL ⊢
  rcases hk with rfl | rfl
  all_goals
    go_enter Tryd.func30, Tryd.ntmps30
    go_wp2_with fail
    refine (CALL.out _ hb2).mono ?_
    rintro e w1 ⟨rfl, hb3⟩
    go_wp2_with fail
    go_ret
    exact ⟨rfl, hb2.trans (hb3.mono hb2.size)⟩

theorem fd_parts {k n : Int} {s : ByteArray} {na : Option Addr} {nc : Nat} {ns : List ByteArray} {xa : Option Addr} {xc : Nat} {xs : List AV} (h : Fd (AV.mk k n s na nc ns xa xc xs)) : (k = 6 → ns.length = xs.length) ∧ ∀ x ∈ xs, Fd x := by
  obtain ⟨lv, h⟩ := h
  rcases AV.parts h with ⟨hk, _, _, rfl, rfl⟩ | ⟨rfl, _, rfl, rfl⟩ | ⟨rfl, _, rfl, rfl⟩ | ⟨rfl, _, _, rfl, hx⟩ | ⟨rfl, _, _, hl, hx⟩
  · exact ⟨fun _ => rfl, fun x hx => absurd hx (by simp)⟩
  · exact ⟨fun _ => rfl, fun x hx => absurd hx (by simp)⟩
  · exact ⟨fun _ => rfl, fun x hx => absurd hx (by simp)⟩
  · exact ⟨fun h => absurd h (by omega), fun x h => ⟨_, AV.allJ_all hx x h⟩⟩
  · exact ⟨fun _ => hl, fun x h => ⟨_, AV.allJ_all hx x h⟩⟩

theorem compare_any : ∀ x : AV, CmpAt x := by
  intro x
  induction x using AV.ind with
  | h k n s na nc ns xa xc xs ih =>
    intro y w hf hf' hin hiny
    obtain ⟨k', n', s', na', nc', ns', xa', xc', xs'⟩ := y
    rw [AV.ord]
    by_cases hk : k = k'
    rotate_left
    · rw [lexI_left (fun h => hk (cmpI_zero.1 h))]
      exact compare_kinds k k' n n' s s' na na' nc nc' ns ns' xa xa' xc xc' xs xs' w hk
    subst hk
    rw [lexI_right (cmpI_zero.2 rfl)]
    by_cases h3 : k = 3
    · subst h3
      rw [if_pos rfl]
      exact compare_num n n' s s' na na' nc nc' ns ns' xa xa' xc xc' xs xs' w
    by_cases h4 : k = 4
    · subst h4
      rw [if_neg (by omega), if_pos rfl]
      exact compare_text n n' s s' na na' nc nc' ns ns' xa xa' xc xc' xs xs' w
    rw [if_neg h3, if_neg h4]
    by_cases h56 : k = 5 ∨ k = 6
    · rw [if_pos h56]
      obtain ⟨hl, hx⟩ := fd_parts hf
      obtain ⟨hl', hx'⟩ := fd_parts hf'
      exact compare_list k n n' _ s s' na na' nc nc' ns ns' xa xa' xc xc' xs xs' w h56 (Lib.hid fun W hW => members_any k n n' s s' na na' nc nc' ns ns' xa xa' xc xc' xs xs' W hin.lens.2.2 hiny.lens.2.2
        (hin.its.below hW) (hiny.its.below hW) (hin.names.1.below hW) (hiny.names.1.below hW) (fun h => ⟨hl h, hl' h⟩) (Lib.hid ih) hx hx')
    · rw [if_neg h56]
      exact compare_plain k n n' s s' na na' nc nc' ns ns' xa xa' xc xc' xs xs' w (by simpa using h3) (by simpa using h4) (by simp; omega) (by simp; omega)
end Go.Proofs.YtcbfbmidekmboaaDoor
