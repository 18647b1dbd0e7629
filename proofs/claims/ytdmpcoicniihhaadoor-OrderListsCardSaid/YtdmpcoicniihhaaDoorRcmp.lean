/- Two values compared by the document's answer: the same as the program's; no condition of ours. -/
import Derived.Test.YtdmpcoicniihhaaDoorCmpc
namespace Go.Proofs.YtdmpcoicniihhaaDoor
open Go.ChangeShapes Go.WideShapes Go.Deep Go.RowKit Go.Lib

/-- What is asked of the document's call for each item. -/
def RCmpAt (x : AV) : Prop := ∀ (y : AV) (w : World), Fd x → Fd y → x.In w → y.In w → Calls Tryd.prog 25 #[x.val, y.val] w fun e w' => e = .returned (.int .i64 (AV.ord x y)) ∧ Below w.heap.size w w'

set_option maxHeartbeats 2000000 in
set_option maxRecDepth 100000 in
theorem plain_kinds (k k' n n' : Int) (s s' : ByteArray) (na na' : Option Addr) (nc nc' : Nat) (ns ns' : List ByteArray) (xa xa' : Option Addr) (xc xc' : Nat) (xs xs' : List AV) (w : World) (hk : k ≠ k') :
    Calls Tryd.prog 25 #[(AV.mk k n s na nc ns xa xc xs).val, (AV.mk k' n' s' na' nc' ns' xa' xc' xs').val] w fun e w' => e = .returned (.int .i64 (compareInt k k')) ∧ Below w.heap.size w w' := by
  have CALL := Lib.hid (fun W => lengths_any k k' W)
  have hk1 : (k != k') = true := by simpa using hk
  have hk2 : (k == k') = false := by simpa using hk
  clear hk
  simp only [AV.val, AV.row]
  go_enter Tryd.func25, Tryd.ntmps25
  go_wp2_with fail
  refine (CALL.out _).mono ?_
  rintro e w1 ⟨rfl, rfl⟩
  go_wp2_with fail
  go_ret
  exact ⟨rfl, two_below w _ _⟩

set_option maxHeartbeats 2000000 in
set_option maxRecDepth 100000 in
theorem plain_plain (k n n' : Int) (s s' : ByteArray) (na na' : Option Addr) (nc nc' : Nat) (ns ns' : List ByteArray) (xa xa' : Option Addr) (xc xc' : Nat) (xs xs' : List AV) (w : World) (h3 : (k == 3) = false) (h4 : (k == 4) = false) (h5 : (k == 5) = false) (h6 : (k == 6) = false) :
    Calls Tryd.prog 25 #[(AV.mk k n s na nc ns xa xc xs).val, (AV.mk k n' s' na' nc' ns' xa' xc' xs').val] w fun e w' => e = .returned (.int .i64 0) ∧ Below w.heap.size w w' := by
  simp only [AV.val, AV.row]
  go_enter Tryd.func25, Tryd.ntmps25
  go_wp2_with fail
  go_ret
  exact ⟨rfl, two_below w _ _⟩

set_option maxHeartbeats 2000000 in
set_option maxRecDepth 100000 in
theorem plain_num (n n' : Int) (s s' : ByteArray) (na na' : Option Addr) (nc nc' : Nat) (ns ns' : List ByteArray) (xa xa' : Option Addr) (xc xc' : Nat) (xs xs' : List AV) (w : World) :
    Calls Tryd.prog 25 #[(AV.mk 3 n s na nc ns xa xc xs).val, (AV.mk 3 n' s' na' nc' ns' xa' xc' xs').val] w fun e w' => e = .returned (.int .i64 (compareInt n n')) ∧ Below w.heap.size w w' := by
  simp only [AV.val, AV.row]
  by_cases h1 : n < n'
  · have e1 : compareInt n n' = -1 := by unfold compareInt; rw [if_pos h1]
    rw [e1]
    clear e1
    go_enter Tryd.func25, Tryd.ntmps25
    go_wp2_with fail
    go_ret
    exact ⟨rfl, two_below w _ _⟩
  · by_cases h2 : n > n'
    · have e1 : compareInt n n' = 1 := by unfold compareInt; rw [if_neg h1, if_pos h2]
      rw [e1]
      clear e1
      go_enter Tryd.func25, Tryd.ntmps25
      go_wp2_with fail
      go_ret
      exact ⟨rfl, two_below w _ _⟩
    · have e1 : compareInt n n' = 0 := by unfold compareInt; rw [if_neg h1, if_neg h2]
      rw [e1]
      clear e1
      go_enter Tryd.func25, Tryd.ntmps25
      go_wp2_with fail
      go_ret
      exact ⟨rfl, two_below w _ _⟩

set_option maxHeartbeats 2000000 in
set_option maxRecDepth 100000 in
theorem plain_text (n n' : Int) (s s' : ByteArray) (na na' : Option Addr) (nc nc' : Nat) (ns ns' : List ByteArray) (xa xa' : Option Addr) (xc xc' : Nat) (xs xs' : List AV) (w : World) (hs : s.size ≤ maxLen) (hs' : s'.size ≤ maxLen) :
    Calls Tryd.prog 25 #[(AV.mk 4 n s na nc ns xa xc xs).val, (AV.mk 4 n' s' na' nc' ns' xa' xc' xs').val] w fun e w' => e = .returned (.int .i64 (cmpT s s')) ∧ Below w.heap.size w w' := by
  have CALL := Lib.hid (fun W => texts_any s s' W hs hs')
  have hb2 := two_below w (.cells #[.int .i64 4, .int .i64 n, .string s, .slice na ns.length nc, .slice xa xs.length xc] 25) (.cells #[.int .i64 4, .int .i64 n', .string s', .slice na' ns'.length nc', .slice xa' xs'.length xc'] 25)
  simp only [AV.val, AV.row]
  go_enter Tryd.func25, Tryd.ntmps25
  go_wp2_with fail
  refine (CALL.out _).mono ?_
  rintro e w1 ⟨rfl, hb3⟩
  go_wp2_with fail
  go_ret
  exact ⟨rfl, hb2.trans (hb3.mono hb2.size)⟩

set_option maxHeartbeats 6000000 in
set_option maxRecDepth 100000 in
theorem plain_list5 (n n' : Int) (s s' : ByteArray) (na na' : Option Addr) (nc nc' : Nat) (ns ns' : List ByteArray) (xa xa' : Option Addr) (xc xc' : Nat) (xs xs' : List AV) (w : World) (hlx : xs.length ≤ 9223372036854775807) (hlx' : xs'.length ≤ 9223372036854775807)
    (hits : AV.Its w xa xs) (hits' : AV.Its w xa' xs') (IH : Hid (∀ x ∈ xs, RCmpAt x)) (hf : ∀ x ∈ xs, Fd x) (hf' : ∀ x ∈ xs', Fd x) :
    Calls Tryd.prog 25 #[(AV.mk 5 n s na nc ns xa xc xs).val, (AV.mk 5 n' s' na' nc' ns' xa' xc' xs').val] w fun e w' => e = .returned (.int .i64 (AV.ordAll false ns ns' xs xs')) ∧ Below w.heap.size w w' := by
  obtain ⟨C, hC⟩ : ∃ C, AV.ordAll false ns ns' xs xs' = C := ⟨_, rfl⟩
  rw [hC]
  have HC := Lib.hid hC
  have HITS := Lib.hid hits
  have HITS' := Lib.hid hits'
  have HF := Lib.hid hf
  have HF' := Lib.hid hf'
  have hb2 := two_below w (.cells #[.int .i64 5, .int .i64 n, .string s, .slice na ns.length nc, .slice xa xs.length xc] 25) (.cells #[.int .i64 5, .int .i64 n', .string s', .slice na' ns'.length nc', .slice xa' xs'.length xc'] 25)
  have hbx := two_box w #[.int .i64 5, .int .i64 n, .string s, .slice na ns.length nc, .slice xa xs.length xc] #[.int .i64 5, .int .i64 n', .string s', .slice na' ns'.length nc', .slice xa' xs'.length xc']
  have HBX := Lib.hid hbx
  have CMP := Lib.hid (fun W => lengths_any (xs.length : Int) (xs'.length : Int) W)
  clear hbx hC hf hf' hits hits' 
  simp only [AV.val, AV.row]
  go_enter Tryd.func25, Tryd.ntmps25
  go_wp2_with fail
  have k1 : Hid (_ = _) := Lib.hid HBX.out.1
  have k2 : Hid (_ = _) := Lib.hid HBX.out.2
  have kr1 := box_row (t := AV.mk 5 n s na nc ns xa xc xs) k1.out
  have kr2 := box_row (t := AV.mk 5 n' s' na' nc' ns' xa' xc' xs') k2.out
  have hz : w.heap.size + 1 < ((w.alloc (.cells #[.int .i64 5, .int .i64 n, .string s, .slice na ns.length nc, .slice xa xs.length xc] 25)).alloc (.cells #[.int .i64 5, .int .i64 n', .string s', .slice na' ns'.length nc', .slice xa' xs'.length xc'] 25)).heap.size := by simp
  clear k1 k2 HBX
  generalize (w.alloc (.cells #[.int .i64 5, .int .i64 n, .string s, .slice na ns.length nc, .slice xa xs.length xc] 25)).alloc (.cells #[.int .i64 5, .int .i64 n', .string s', .slice na' ns'.length nc', .slice xa' xs'.length xc'] 25) = W0 at *
  have KR1 := Lib.hid kr1
  have KR2 := Lib.hid kr2
  clear kr1 kr2
  go_loopg [5] xs.length (fun g i wr => ∃ j : Nat, j + g = xs.length ∧ j ≤ xs'.length ∧ i = .int .i64 (j : Int) ∧ AV.ordAll false (ns.drop j) (ns'.drop j) (xs.drop j) (xs'.drop j) = C ∧ Below w.heap.size w wr ∧ w.heap.size + 1 < wr.heap.size ∧
    wr.rangeAt w.heap.size 0 (AV.mk 5 n s na nc ns xa xc xs).row ∧ wr.rangeAt (w.heap.size + 1) 0 (AV.mk 5 n' s' na' nc' ns' xa' xc' xs').row)
  case atStart => exact ⟨0, by omega, by omega, rfl, HC.out, hb2, hz, KR1.out, KR2.out⟩
  case round =>
    obtain ⟨j, hj, hj2, rfl, hrest, hb, hzr, hr1, hr2⟩ := hrel
    have R1 := Lib.hid hr1
    have R2 := Lib.hid hr2
    have HJ := Lib.hid hj
    have HREST := Lib.hid hrest
    have c0 : wr.cell? ⟨w.heap.size, 0, none⟩ = some (.int .i64 5) := hr1 0 _ rfl
    have c4 : wr.cell? ⟨w.heap.size, 4, none⟩ = some (.slice xa xs.length xc) := hr1 4 _ rfl
    have d4 : wr.cell? ⟨w.heap.size + 1, 4, none⟩ = some (.slice xa' xs'.length xc') := hr2 4 _ rfl
    clear hj hrest hr1 hr2 KR1 KR2
    by_cases hlt : j < xs.length
    · by_cases hlt' : j < xs'.length
      · have hd := AV.ordAll_drop (o := false) (ns := ns) (ns' := ns') hlt rfl hlt' rfl
        rw [HREST.out] at hd
        obtain ⟨bx, ox, rfl, hit⟩ := (HITS.out).resolve_left (by intro e; rw [e] at hlt; simp at hlt)
        obtain ⟨by', oy, rfl, hit'⟩ := (HITS'.out).resolve_left (by intro e; rw [e] at hlt'; simp at hlt')
        have r1 : wr.rangeAt bx (ox + j * 5) xs[j].row := AV.rangeAt_old (fun a ha => hb.cell ha) (hit j hlt).1
        have r2 : wr.rangeAt by' (oy + j * 5) xs'[j].row := AV.rangeAt_old (fun a ha => hb.cell ha) (hit' j hlt').1
        have hxin : AV.In wr xs[j] := (hit j hlt).2.below hb (Nat.le_refl _)
        have hyin : AV.In wr xs'[j] := (hit' j hlt').2.below hb (Nat.le_refl _)
        have hmem : xs[j] ∈ xs := List.getElem_mem hlt
        have hfx := HF.out _ hmem
        have hfy := HF'.out _ (List.getElem_mem hlt')
        rw [membI] at hd
        simp only [Bool.false_eq_true, if_false] at hd
        rw [lexI_right (show (0 : Int) = 0 from rfl)] at hd
        obtain ⟨x, hx⟩ : ∃ x, xs[j] = x := ⟨_, rfl⟩
        obtain ⟨y, hy⟩ : ∃ y, xs'[j] = y := ⟨_, rfl⟩
        rw [hx] at hxin r1 hmem hfx hd
        rw [hy] at hyin r2 hfy hd
        have CALL2 := Lib.hid (fun (W : World) (hW : Below wr.heap.size wr W) => IH.out _ hmem y W hfx hfy (hxin.below hW (Nat.le_refl _)) (hyin.below hW (Nat.le_refl _)))
        obtain ⟨V, hV⟩ : ∃ V, AV.ord x y = V := ⟨_, rfl⟩
        rw [hV] at CALL2 hd
        have HD := Lib.hid hd
        clear hx hy hit hit' hd hmem hxin hyin hV hfx hfy
        obtain ⟨k1, n1, s1, na1, nc1, ns1, xa1, xc1, xs1⟩ := x
        obtain ⟨k2, n2, s2, na2, nc2, ns2, xa2, xc2, xs2⟩ := y
        have a0 := fun d os => cell_regrown (r1 0 _ rfl) d os
        have a1 := fun d os => cell_regrown (r1 1 _ rfl) d os
        have a2 := fun d os => cell_regrown (r1 2 _ rfl) d os
        have a3 := fun d os => cell_regrown (r1 3 _ rfl) d os
        have a4 := fun d os => cell_regrown (r1 4 _ rfl) d os
        have b0 := fun d os => cell_regrown (r2 0 _ rfl) d os
        have b1 := fun d os => cell_regrown (r2 1 _ rfl) d os
        have b2 := fun d os => cell_regrown (r2 2 _ rfl) d os
        have b3 := fun d os => cell_regrown (r2 3 _ rfl) d os
        have b4 := fun d os => cell_regrown (r2 4 _ rfl) d os
        have e4 := fun d os => cell_regrown c4 d os
        have f4 := fun d os => cell_regrown d4 d os
        simp only [Nat.add_zero] at a0 b0
        go_wp2_with fail
        clear r1 r2 c4 d4 c0
        refine wp_region_quiet_below (by kernel_rfl) (by kernel_rfl) ?_
        repeat (go_big_quiet_step (exact Calls.regrown_of (CALL2.out _ (below_regrown _ _ _))))
        refine wpQuiet_nil ?_
        intro _ hw'
        obtain ⟨⟨dq, osq⟩, hw''⟩ := hw'
        subst hw''
        have hbq := below_regrown wr dq osq
        have rr1 := AV.rangeAt_old (fun a ha => hbq.cell ha) R1.out
        have rr2 := AV.rangeAt_old (fun a ha => hbq.cell ha) R2.out
        have hzq : w.heap.size + 1 < (Go.Sort.grow (redrawn wr dq) osq).heap.size := by have := hbq.size; omega
        have hbn := hb.trans (hbq.mono hb.size)
        clear a0 a1 a2 a3 a4 b0 b1 b2 b3 b4 e4 f4
        generalize Go.Sort.grow (redrawn wr dq) osq = wq at *
        by_cases hv : V = 0
        · subst hv
          have hC : AV.ordAll false (ns.drop (j + 1)) (ns'.drop (j + 1)) (xs.drop (j + 1)) (xs'.drop (j + 1)) = C := by rw [HD.out]; exact (lexI_right rfl).symm
          have HCC := Lib.hid hC
          have RR1 := Lib.hid rr1
          have RR2 := Lib.hid rr2
          clear hC rr1 rr2
          go_wp2_with fail
          go_roundg (gk - 1)
          case measure => have := HJ.out; omega
          case rel => exact ⟨j + 1, by have := HJ.out; omega, by omega, by go_num, HCC.out, hbn, hzq, RR1.out, RR2.out⟩
        · have hC : C = V := by rw [HD.out]; exact lexI_left hv
          have hv' : (V == 0) = false := by simpa using hv
          have hv2 : (V != 0) = true := by simpa using hv
          have HCC := Lib.hid hC
          clear hC hv rr1 rr2
          go_wp2_with fail
          go_ret
          exact ⟨ret_i64 HCC.out.symm, hbn⟩
      · have hE := AV.ordAll_end (o := false) (ns := ns) (ns' := ns') (xs := xs) (ys := xs') (j := j) (by have := HJ.out; omega) (by omega) (.inr (by omega))
        rw [HREST.out] at hE
        have HE := Lib.hid hE
        clear hE
        go_wp2_with fail
        refine (CMP.out _).mono ?_
        rintro e w1 ⟨rfl, rfl⟩
        go_wp2_with fail
        go_ret
        exact ⟨ret_i64 HE.out.symm, hb⟩
    · have hE := AV.ordAll_end (o := false) (ns := ns) (ns' := ns') (xs := xs) (ys := xs') (j := j) (by have := HJ.out; omega) (by omega) (.inl (by have := HJ.out; omega))
      rw [HREST.out] at hE
      have HE := Lib.hid hE
      clear hE
      go_wp2_with fail
      refine (CMP.out _).mono ?_
      rintro e w1 ⟨rfl, rfl⟩
      go_wp2_with fail
      go_ret
      exact ⟨ret_i64 HE.out.symm, hb⟩

set_option maxHeartbeats 6000000 in
set_option maxRecDepth 100000 in
theorem plain_list6 (n n' : Int) (s s' : ByteArray) (na na' : Option Addr) (nc nc' : Nat) (ns ns' : List ByteArray) (xa xa' : Option Addr) (xc xc' : Nat) (xs xs' : List AV) (w : World) (hlx : xs.length ≤ 9223372036854775807) (hlx' : xs'.length ≤ 9223372036854775807)
    (hits : AV.Its w xa xs) (hits' : AV.Its w xa' xs') (hnin : AV.NamesIn w na ns) (hnin' : AV.NamesIn w na' ns') (hsz : ∀ x ∈ ns, x.size ≤ maxLen) (hsz' : ∀ x ∈ ns', x.size ≤ maxLen) (hl : ns.length = xs.length) (hl' : ns'.length = xs'.length) (IH : Hid (∀ x ∈ xs, RCmpAt x)) (hf : ∀ x ∈ xs, Fd x) (hf' : ∀ x ∈ xs', Fd x) :
    Calls Tryd.prog 25 #[(AV.mk 6 n s na nc ns xa xc xs).val, (AV.mk 6 n' s' na' nc' ns' xa' xc' xs').val] w fun e w' => e = .returned (.int .i64 (AV.ordAll true ns ns' xs xs')) ∧ Below w.heap.size w w' := by
  obtain ⟨C, hC⟩ : ∃ C, AV.ordAll true ns ns' xs xs' = C := ⟨_, rfl⟩
  rw [hC]
  have HC := Lib.hid hC
  have HITS := Lib.hid hits
  have HITS' := Lib.hid hits'
  have HNIN := Lib.hid hnin
  have HNIN' := Lib.hid hnin'
  have HL := Lib.hid hl
  have HL' := Lib.hid hl'
  have HSZ := Lib.hid hsz
  have HSZ' := Lib.hid hsz'
  have HF := Lib.hid hf
  have HF' := Lib.hid hf'
  have hb2 := two_below w (.cells #[.int .i64 6, .int .i64 n, .string s, .slice na ns.length nc, .slice xa xs.length xc] 25) (.cells #[.int .i64 6, .int .i64 n', .string s', .slice na' ns'.length nc', .slice xa' xs'.length xc'] 25)
  have hbx := two_box w #[.int .i64 6, .int .i64 n, .string s, .slice na ns.length nc, .slice xa xs.length xc] #[.int .i64 6, .int .i64 n', .string s', .slice na' ns'.length nc', .slice xa' xs'.length xc']
  have HBX := Lib.hid hbx
  have CMP := Lib.hid (fun W => lengths_any (xs.length : Int) (xs'.length : Int) W)
  clear hbx hC hf hf' hits hits' hnin hnin' hl hl' hsz hsz'
  simp only [AV.val, AV.row]
  go_enter Tryd.func25, Tryd.ntmps25
  go_wp2_with fail
  have k1 : Hid (_ = _) := Lib.hid HBX.out.1
  have k2 : Hid (_ = _) := Lib.hid HBX.out.2
  have kr1 := box_row (t := AV.mk 6 n s na nc ns xa xc xs) k1.out
  have kr2 := box_row (t := AV.mk 6 n' s' na' nc' ns' xa' xc' xs') k2.out
  have hz : w.heap.size + 1 < ((w.alloc (.cells #[.int .i64 6, .int .i64 n, .string s, .slice na ns.length nc, .slice xa xs.length xc] 25)).alloc (.cells #[.int .i64 6, .int .i64 n', .string s', .slice na' ns'.length nc', .slice xa' xs'.length xc'] 25)).heap.size := by simp
  clear k1 k2 HBX
  generalize (w.alloc (.cells #[.int .i64 6, .int .i64 n, .string s, .slice na ns.length nc, .slice xa xs.length xc] 25)).alloc (.cells #[.int .i64 6, .int .i64 n', .string s', .slice na' ns'.length nc', .slice xa' xs'.length xc'] 25) = W0 at *
  have KR1 := Lib.hid kr1
  have KR2 := Lib.hid kr2
  clear kr1 kr2
  go_loopg [5] xs.length (fun g i wr => ∃ j : Nat, j + g = xs.length ∧ j ≤ xs'.length ∧ i = .int .i64 (j : Int) ∧ AV.ordAll true (ns.drop j) (ns'.drop j) (xs.drop j) (xs'.drop j) = C ∧ Below w.heap.size w wr ∧ w.heap.size + 1 < wr.heap.size ∧
    wr.rangeAt w.heap.size 0 (AV.mk 6 n s na nc ns xa xc xs).row ∧ wr.rangeAt (w.heap.size + 1) 0 (AV.mk 6 n' s' na' nc' ns' xa' xc' xs').row)
  case atStart => exact ⟨0, by omega, by omega, rfl, HC.out, hb2, hz, KR1.out, KR2.out⟩
  case round =>
    obtain ⟨j, hj, hj2, rfl, hrest, hb, hzr, hr1, hr2⟩ := hrel
    have R1 := Lib.hid hr1
    have R2 := Lib.hid hr2
    have HJ := Lib.hid hj
    have HREST := Lib.hid hrest
    have c0 : wr.cell? ⟨w.heap.size, 0, none⟩ = some (.int .i64 6) := hr1 0 _ rfl
    have c4 : wr.cell? ⟨w.heap.size, 4, none⟩ = some (.slice xa xs.length xc) := hr1 4 _ rfl
    have d4 : wr.cell? ⟨w.heap.size + 1, 4, none⟩ = some (.slice xa' xs'.length xc') := hr2 4 _ rfl
    have c3 : wr.cell? ⟨w.heap.size, 3, none⟩ = some (.slice na ns.length nc) := hr1 3 _ rfl
    have d3 : wr.cell? ⟨w.heap.size + 1, 3, none⟩ = some (.slice na' ns'.length nc') := hr2 3 _ rfl
    clear hj hrest hr1 hr2 KR1 KR2
    by_cases hlt : j < xs.length
    · by_cases hlt' : j < xs'.length
      · have hd := AV.ordAll_drop (o := true) (ns := ns) (ns' := ns') hlt rfl hlt' rfl
        rw [HREST.out] at hd
        obtain ⟨bx, ox, rfl, hit⟩ := (HITS.out).resolve_left (by intro e; rw [e] at hlt; simp at hlt)
        obtain ⟨by', oy, rfl, hit'⟩ := (HITS'.out).resolve_left (by intro e; rw [e] at hlt'; simp at hlt')
        have r1 : wr.rangeAt bx (ox + j * 5) xs[j].row := AV.rangeAt_old (fun a ha => hb.cell ha) (hit j hlt).1
        have r2 : wr.rangeAt by' (oy + j * 5) xs'[j].row := AV.rangeAt_old (fun a ha => hb.cell ha) (hit' j hlt').1
        have hxin : AV.In wr xs[j] := (hit j hlt).2.below hb (Nat.le_refl _)
        have hyin : AV.In wr xs'[j] := (hit' j hlt').2.below hb (Nat.le_refl _)
        have hmem : xs[j] ∈ xs := List.getElem_mem hlt
        have hfx := HF.out _ hmem
        have hfy := HF'.out _ (List.getElem_mem hlt')
        have hn1 : j < ns.length := by have := HL.out; omega
        have hn2 : j < ns'.length := by have := HL'.out; omega
        obtain ⟨bn, on', rfl, nit⟩ := (HNIN.out).resolve_left (by intro e; rw [e] at hn1; simp at hn1)
        obtain ⟨bm, om, rfl, nit'⟩ := (HNIN'.out).resolve_left (by intro e; rw [e] at hn2; simp at hn2)
        have f1 : wr.cell? ⟨bn, on' + j, none⟩ = some (.string ns[j]) := cell_kept2 hb (nit j hn1)
        have f2 : wr.cell? ⟨bm, om + j, none⟩ = some (.string ns'[j]) := cell_kept2 hb (nit' j hn2)
        have z1 := HSZ.out _ (List.getElem_mem hn1)
        have z2 := HSZ'.out _ (List.getElem_mem hn2)
        have g1 : ns.getD j ⟨#[]⟩ = ns[j] := by simp [List.getD_eq_getElem?_getD, List.getElem?_eq_getElem hn1]
        have g2 : ns'.getD j ⟨#[]⟩ = ns'[j] := by simp [List.getD_eq_getElem?_getD, List.getElem?_eq_getElem hn2]
        rw [membI, g1, g2] at hd
        simp only [if_true] at hd
        generalize ns[j] = z at *
        generalize ns'[j] = z' at *
        clear g1 g2 nit nit'
        obtain ⟨x, hx⟩ : ∃ x, xs[j] = x := ⟨_, rfl⟩
        obtain ⟨y, hy⟩ : ∃ y, xs'[j] = y := ⟨_, rfl⟩
        rw [hx] at hxin r1 hmem hfx hd
        rw [hy] at hyin r2 hfy hd
        have CALL2 := Lib.hid (fun (W : World) (hW : Below wr.heap.size wr W) => IH.out _ hmem y W hfx hfy (hxin.below hW (Nat.le_refl _)) (hyin.below hW (Nat.le_refl _)))
        obtain ⟨V, hV⟩ : ∃ V, AV.ord x y = V := ⟨_, rfl⟩
        rw [hV] at CALL2 hd
        have HD := Lib.hid hd
        clear hx hy hit hit' hd hmem hxin hyin hV hfx hfy
        have TXT := Lib.hid (fun W => texts_any z z' W z1 z2)
        obtain ⟨U, hU⟩ : ∃ U, compareBytes z.data.toList z'.data.toList = U := ⟨_, rfl⟩
        rw [hU] at TXT
        rw [show cmpT z z' = U from hU] at HD
        clear hU z1 z2
        have u3 := fun d os => cell_regrown c3 d os
        have v3 := fun d os => cell_regrown d3 d os
        have u1 := fun d os => cell_regrown f1 d os
        have u2 := fun d os => cell_regrown f2 d os
        go_wp2_with fail
        refine wp_region_quiet_below (by kernel_rfl) (by kernel_rfl) ?_
        repeat (go_big_quiet_step (exact Calls.regrown_of (TXT.out _)))
        refine wpQuiet_nil ?_
        intro _ hw0
        obtain ⟨⟨dp, osp⟩, hw1⟩ := hw0
        subst hw1
        have hbp := below_regrown wr dp osp
        have CALL3 := Lib.hid (fun (W : World) (hW : Below (Go.Sort.grow (redrawn wr dp) osp).heap.size (Go.Sort.grow (redrawn wr dp) osp) W) => CALL2.out W (hbp.trans (hW.mono hbp.size)))
        have q1 := AV.rangeAt_old (fun a ha => hbp.cell ha) R1.out
        have q2 := AV.rangeAt_old (fun a ha => hbp.cell ha) R2.out
        have p1 := AV.rangeAt_old (fun a ha => hbp.cell ha) r1
        have p2 := AV.rangeAt_old (fun a ha => hbp.cell ha) r2
        have hzp : w.heap.size + 1 < (Go.Sort.grow (redrawn wr dp) osp).heap.size := by have := hbp.size; omega
        have hbo := hb.trans (hbp.mono hb.size)
        clear u1 u2 u3 v3 f1 f2 c3 d3 c4 d4 c0 r1 r2 R1 R2 CALL2 hb hzr hbp TXT
        generalize Go.Sort.grow (redrawn wr dp) osp = wp at *
        have R1 := Lib.hid q1
        have R2 := Lib.hid q2
        have hb := hbo
        have r1 := p1
        have r2 := p2
        have CALL2 := CALL3
        have c0 : wp.cell? ⟨w.heap.size, 0, none⟩ = some (.int .i64 6) := q1 0 _ rfl
        have c4 : wp.cell? ⟨w.heap.size, 4, none⟩ = some (.slice (some ⟨bx, ox, none⟩) xs.length xc) := q1 4 _ rfl
        have d4 : wp.cell? ⟨w.heap.size + 1, 4, none⟩ = some (.slice (some ⟨by', oy, none⟩) xs'.length xc') := q2 4 _ rfl
        clear q1 q2 p1 p2 hbo CALL3
        by_cases hu : U = 0
        rotate_left
        · have hC : C = U := by rw [HD.out, lexI_assoc]; exact lexI_left hu
          have hu' : (U == 0) = false := by simpa using hu
          have hu2 : (U != 0) = true := by simpa using hu
          have HCC := Lib.hid hC
          clear hC hu
          go_wp2_with fail
          go_ret
          exact ⟨ret_i64 HCC.out.symm, hb⟩
        subst hu
        obtain ⟨k1, n1, s1, na1, nc1, ns1, xa1, xc1, xs1⟩ := x
        obtain ⟨k2, n2, s2, na2, nc2, ns2, xa2, xc2, xs2⟩ := y
        have a0 := fun d os => cell_regrown (r1 0 _ rfl) d os
        have a1 := fun d os => cell_regrown (r1 1 _ rfl) d os
        have a2 := fun d os => cell_regrown (r1 2 _ rfl) d os
        have a3 := fun d os => cell_regrown (r1 3 _ rfl) d os
        have a4 := fun d os => cell_regrown (r1 4 _ rfl) d os
        have b0 := fun d os => cell_regrown (r2 0 _ rfl) d os
        have b1 := fun d os => cell_regrown (r2 1 _ rfl) d os
        have b2 := fun d os => cell_regrown (r2 2 _ rfl) d os
        have b3 := fun d os => cell_regrown (r2 3 _ rfl) d os
        have b4 := fun d os => cell_regrown (r2 4 _ rfl) d os
        have e4 := fun d os => cell_regrown c4 d os
        have f4 := fun d os => cell_regrown d4 d os
        simp only [Nat.add_zero] at a0 b0
        go_wp2_with fail
        clear r1 r2 c4 d4 c0
        refine wp_region_quiet_below (by kernel_rfl) (by kernel_rfl) ?_
        repeat (go_big_quiet_step (exact Calls.regrown_of (CALL2.out _ (below_regrown _ _ _))))
        refine wpQuiet_nil ?_
        intro _ hw'
        obtain ⟨⟨dq, osq⟩, hw''⟩ := hw'
        subst hw''
        have hbq := below_regrown wp dq osq
        have rr1 := AV.rangeAt_old (fun a ha => hbq.cell ha) R1.out
        have rr2 := AV.rangeAt_old (fun a ha => hbq.cell ha) R2.out
        have hzq : w.heap.size + 1 < (Go.Sort.grow (redrawn wp dq) osq).heap.size := by have := hbq.size; omega
        have hbn := hb.trans (hbq.mono hb.size)
        clear a0 a1 a2 a3 a4 b0 b1 b2 b3 b4 e4 f4
        generalize Go.Sort.grow (redrawn wp dq) osq = wq at *
        by_cases hv : V = 0
        · subst hv
          have hC : AV.ordAll true (ns.drop (j + 1)) (ns'.drop (j + 1)) (xs.drop (j + 1)) (xs'.drop (j + 1)) = C := by rw [HD.out]; exact (by rw [lexI_right (lexI_right rfl)])
          have HCC := Lib.hid hC
          have RR1 := Lib.hid rr1
          have RR2 := Lib.hid rr2
          clear hC rr1 rr2
          go_wp2_with fail
          go_roundg (gk - 1)
          case measure => have := HJ.out; omega
          case rel => exact ⟨j + 1, by have := HJ.out; omega, by omega, by go_num, HCC.out, hbn, hzq, RR1.out, RR2.out⟩
        · have hC : C = V := by rw [HD.out]; exact (by rw [lexI_right (a := (0 : Int)) rfl]; exact lexI_left hv)
          have hv' : (V == 0) = false := by simpa using hv
          have hv2 : (V != 0) = true := by simpa using hv
          have HCC := Lib.hid hC
          clear hC hv rr1 rr2
          go_wp2_with fail
          go_ret
          exact ⟨ret_i64 HCC.out.symm, hbn⟩
      · have hE := AV.ordAll_end (o := true) (ns := ns) (ns' := ns') (xs := xs) (ys := xs') (j := j) (by have := HJ.out; omega) (by omega) (.inr (by omega))
        rw [HREST.out] at hE
        have HE := Lib.hid hE
        clear hE
        go_wp2_with fail
        refine (CMP.out _).mono ?_
        rintro e w1 ⟨rfl, rfl⟩
        go_wp2_with fail
        go_ret
        exact ⟨ret_i64 HE.out.symm, hb⟩
    · have hE := AV.ordAll_end (o := true) (ns := ns) (ns' := ns') (xs := xs) (ys := xs') (j := j) (by have := HJ.out; omega) (by omega) (.inl (by have := HJ.out; omega))
      rw [HREST.out] at hE
      have HE := Lib.hid hE
      clear hE
      go_wp2_with fail
      refine (CMP.out _).mono ?_
      rintro e w1 ⟨rfl, rfl⟩
      go_wp2_with fail
      go_ret
      exact ⟨ret_i64 HE.out.symm, hb⟩

end Go.Proofs.YtdmpcoicniihhaaDoor
