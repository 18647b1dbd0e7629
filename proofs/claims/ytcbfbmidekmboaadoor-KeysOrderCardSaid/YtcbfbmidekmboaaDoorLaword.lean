/- KeysOrder: of two values the keys are ordered, byte by byte, as the values are, and none is the other's beginning: the walk of the statement. -/
import Derived.Test.YtcbfbmidekmboaaDoorLawwrite
import Derived.Test.YtcbfbmidekmboaaDoorKeyc
import Derived.Test.YtcbfbmidekmboaaDoorCmpc
namespace Go.Proofs.YtcbfbmidekmboaaDoor
open Go.ChangeShapes Go.WideShapes Go.Deep Go.RowKit Go.Lib

theorem BytesIn.take {w : World} {na : Option Addr} {l : List UInt8} (h : BytesIn w na l) (n : Nat) : BytesIn w na (l.take n) := by
  rcases h with h | ⟨b, o, e, h⟩
  · exact .inl (by rw [h]; simp)
  · refine .inr ⟨b, o, e, fun j hj => ?_⟩
    rw [List.getElem_take]
    exact h j (by rw [List.length_take] at hj; omega)

/-- What is asked of the two keys, by what the comparison says. -/
structure Fits (ka kb : List UInt8) (c : Int) : Prop where
  less : decide (compareBytes ka kb < 0) = decide (c < 0)
  same : decide (ka = kb) = decide (c = 0)
  apart : c ≠ 0 → decide (ka.take (min ka.length kb.length) = kb.take (min ka.length kb.length)) = false

theorem key_fits {x y : AV} {w : World} (hf : AV.formedJ x 6 = true) (hf' : AV.formedJ y 6 = true) (hi : x.In w) (hi' : y.In w) : Fits (AV.key x) (AV.key y) (cmpV x y) := by
  have e : cmpV x y = AV.ord x y := by rw [cmpV, if_pos ⟨hf, hf'⟩]
  rw [e]
  refine ⟨by rw [key_less hf hf' hi hi'], decide_eq_decide.2 (key_same hf hf' hi hi'), fun h => decide_eq_false (key_begin hf hf' hi hi' rfl h)⟩

theorem few_two {a b : AV} {w W : World} (ha : a.In w) (hb : b.In w) {x c : Nat} (h : Below w.heap.size w W) (hr : W.rangeAt x 0 (a.row ++ b.row)) : Calls Tryd.prog 10 #[.slice (some ⟨x, 0, none⟩) 2 c] W fun e w' => e = .returned (.bool (fewL 0 [a, b])) ∧ Below W.heap.size W w' :=
  fewL_any (some ⟨x, 0, none⟩) c [a, b] W (.inr ⟨x, 0, rfl, fun i hi => by
    rcases i with _ | _ | i
    · exact ⟨fun j v hv => hr j v (by rw [List.getElem?_append_left (by rw [AV.row_length]; have := (List.getElem?_eq_some_iff.1 hv).1; simpa [AV.row_length] using this)]; exact hv), ha.below h (Nat.le_refl _)⟩
    · refine ⟨fun j v hv => ?_, hb.below h (Nat.le_refl _)⟩
      have := hr (5 + j) v (by rw [List.getElem?_append_right (by rw [AV.row_length]; omega), AV.row_length, Nat.add_sub_cancel_left]; exact hv)
      simpa [Nat.add_assoc, Nat.add_comm] using this
    · simp at hi; omega⟩) (by simp)

set_option maxHeartbeats 4000000 in
set_option maxRecDepth 100000 in
theorem laword_any (a b : AV) (w : World) (ha : a.In w) (hb : b.In w) (hT : Tabs w) : Calls Tryd.prog 6 #[a.val, b.val] w fun e w' => e = .returned (.bool true) ∧ Below w.heap.size w w' := by
  have AWAKE := Lib.hid (fun W (h : Below w.heap.size w W) => awake_any W (hT.later h))
  have FEW := Lib.hid (fun W x c (h : Below w.heap.size w W) (hr : W.rangeAt x 0 (a.row ++ b.row)) => few_two (c := c) ha hb h hr)
  have FORMA := Lib.hid (fun W (h : Below w.heap.size w W) => Formed_any a W (ha.below h (Nat.le_refl _)) (hT.later h))
  have FORMB := Lib.hid (fun W (h : Below w.heap.size w W) => Formed_any b W (hb.below h (Nat.le_refl _)) (hT.later h))
  have KEYA := Lib.hid (fun W (h : Below w.heap.size w W) => Key_full a W (ha.below h (Nat.le_refl _)) (hT.later h))
  have KEYB := Lib.hid (fun W (h : Below w.heap.size w W) => Key_full b W (hb.below h (Nat.le_refl _)) (hT.later h))
  have CMP := Lib.hid (fun W (h : Below w.heap.size w W) => Compare_any a b W (ha.below h (Nat.le_refl _)) (hb.below h (Nat.le_refl _)) (hT.later h))
  have FITS := Lib.hid (fun (h1 : AV.formedJ a 6 = true) (h2 : AV.formedJ b 6 = true) => key_fits h1 h2 ha hb)
  obtain ⟨C, hC⟩ : ∃ C, cmpV a b = C := ⟨_, rfl⟩
  obtain ⟨F, hF⟩ : ∃ F, fewL 0 [a, b] = F := ⟨_, rfl⟩
  obtain ⟨FA, hFA⟩ : ∃ x, AV.formedJ a 6 = x := ⟨_, rfl⟩
  obtain ⟨FB, hFB⟩ : ∃ x, AV.formedJ b 6 = x := ⟨_, rfl⟩
  have hma := keyR_max a
  have hmb := keyR_max b
  unfold keyR keyE at KEYA KEYB
  unfold keyR at hma hmb
  have hna := AV.key_length a
  have hnb := AV.key_length b
  obtain ⟨KA, hKA⟩ : ∃ x, AV.key a = x := ⟨_, rfl⟩
  obtain ⟨KB, hKB⟩ : ∃ x, AV.key b = x := ⟨_, rfl⟩
  simp only [hC] at CMP FITS
  simp only [hF] at FEW
  simp only [hFA] at FORMA KEYA FITS hma
  simp only [hFB] at FORMB KEYB FITS hmb
  simp only [hKA] at KEYA FITS hma hna
  simp only [hKB] at KEYB FITS hmb hnb
  have HNA := Lib.hid hna
  have HNB := Lib.hid hnb
  clear hC hF ha hb hT hFA hFB hKA hKB hna hnb
  obtain ⟨k, n, s, na, nc, ns, xa, xc, xs⟩ := a
  obtain ⟨k', n', s', na', nc', ns', xa', xc', xs'⟩ := b
  simp only [AV.val, AV.row] at CMP FEW FORMA FORMB KEYA KEYB ⊢
  have hb0 := two_below w (.cells #[.int .i64 k, .int .i64 n, .string s, .slice na ns.length nc, .slice xa xs.length xc] 25) (.cells #[.int .i64 k', .int .i64 n', .string s', .slice na' ns'.length nc', .slice xa' xs'.length xc'] 25)
  have hbx := two_box w #[.int .i64 k, .int .i64 n, .string s, .slice na ns.length nc, .slice xa xs.length xc] #[.int .i64 k', .int .i64 n', .string s', .slice na' ns'.length nc', .slice xa' xs'.length xc']
  have HBX := Lib.hid hbx
  clear hbx
  go_enter Tryd.func6, Tryd.ntmps6
  go_wp2_with fail
  generalize (w.alloc (.cells #[.int .i64 k, .int .i64 n, .string s, .slice na ns.length nc, .slice xa xs.length xc] 25)).alloc (.cells #[.int .i64 k', .int .i64 n', .string s', .slice na' ns'.length nc', .slice xa' xs'.length xc'] 25) = W0 at *
  refine (AWAKE.out _ hb0).mono ?_
  rintro e w1 ⟨rfl, hq1⟩
  have hb1 := hb0.trans (hq1.mono hb0.size)
  have x1 := box_later HBX.out.1 hq1
  have y1 := box_later HBX.out.2 hq1
  obtain ⟨a0, a1, a2, a3, a4⟩ := box_cells x1
  obtain ⟨d0, d1, d2, d3, d4⟩ := box_cells y1
  have X1 := Lib.hid x1
  have Y1 := Lib.hid y1
  clear x1 y1 HBX
  go_wp2_with fail
  have hba : Below w1.heap.size w1 (w1.alloc (.cells #[.int .i64 k, .int .i64 n, .string s, .slice na ns.length nc, .slice xa xs.length xc, .int .i64 k', .int .i64 n', .string s', .slice na' ns'.length nc', .slice xa' xs'.length xc'] 25)) := (Below.refl _ _).alloc (Nat.le_refl _) _
  have hb2 := hb1.trans (hba.mono hb1.size)
  have X2 := Lib.hid (box_later X1.out hba)
  have Y2 := Lib.hid (box_later Y1.out hba)
  refine (FEW.out _ w1.heap.size 2 hb2 (row_new w1 [.int .i64 k, .int .i64 n, .string s, .slice na ns.length nc, .slice xa xs.length xc, .int .i64 k', .int .i64 n', .string s', .slice na' ns'.length nc', .slice xa' xs'.length xc'] 25)).mono ?_
  rintro e w2 ⟨rfl, hq2⟩
  have hb3 := hb2.trans (hq2.mono hb2.size)
  have X3 := Lib.hid (box_later X2.out hq2)
  have Y3 := Lib.hid (box_later Y2.out hq2)
  clear a0 a1 a2 a3 a4 d0 d1 d2 d3 d4 X1 Y1 X2 Y2 hba hb2 hq2
  cases F
  · go_wp2_with fail
    refine (AWAKE.out _ hb3).mono ?_
    rintro e w3 ⟨rfl, hq3⟩
    go_wp2_with fail
    go_ret
    exact ⟨rfl, hb3.trans (hq3.mono hb3.size)⟩
  obtain ⟨a0, a1, a2, a3, a4⟩ := box_cells X3.out
  go_wp2_with fail
  refine (FORMA.out _ hb3).mono ?_
  rintro e w4 ⟨rfl, hq4⟩
  have hb4 := hb3.trans (hq4.mono hb3.size)
  have X4 := Lib.hid (box_later X3.out hq4)
  have Y4 := Lib.hid (box_later Y3.out hq4)
  clear a0 a1 a2 a3 a4 X3 Y3 hq4
  cases FA
  · go_wp2_with fail
    refine (AWAKE.out _ hb4).mono ?_
    rintro e w3 ⟨rfl, hq3⟩
    go_wp2_with fail
    go_ret
    exact ⟨rfl, hb4.trans (hq3.mono hb4.size)⟩
  obtain ⟨d0, d1, d2, d3, d4⟩ := box_cells Y4.out
  go_wp2_with fail
  refine (FORMB.out _ hb4).mono ?_
  rintro e w5 ⟨rfl, hq5⟩
  have hb5 := hb4.trans (hq5.mono hb4.size)
  have X5 := Lib.hid (box_later X4.out hq5)
  have Y5 := Lib.hid (box_later Y4.out hq5)
  clear d0 d1 d2 d3 d4 X4 Y4 hq5
  cases FB
  · go_wp2_with fail
    refine (AWAKE.out _ hb5).mono ?_
    rintro e w3 ⟨rfl, hq3⟩
    go_wp2_with fail
    go_ret
    exact ⟨rfl, hb5.trans (hq3.mono hb5.size)⟩
  obtain ⟨hL, hS, hA⟩ := FITS.out (by simp) (by simp)
  simp only [if_true] at KEYA KEYB hma hmb
  have LESS := Lib.hid (fun (na nb : Option Addr) (ca cb : Nat) (W : World) (h1 : BytesIn W na KA) (h2 : BytesIn W nb KB) => lessB_any na nb ca cb KA KB W h1 h2 (by omega) (by omega))
  have SAME := Lib.hid (fun (na nb : Option Addr) (ca cb : Nat) (W : World) (h1 : BytesIn W na KA) (h2 : BytesIn W nb KB) => sameB_any na nb ca cb KA KB W h1 h2 (by omega) (by omega))
  have SAME2 := Lib.hid (fun (na nb : Option Addr) (ca cb m : Nat) (hm : m = min KA.length KB.length) (hc : C ≠ 0) (W : World) (h1 : BytesIn W na KA) (h2 : BytesIn W nb KB) => by
    have h := sameB_any na nb ca cb (KA.take m) (KB.take m) W (h1.take m) (h2.take m) (by rw [List.length_take]; omega) (by rw [List.length_take]; omega)
    rw [List.length_take, List.length_take, show min m KA.length = m by omega, show min m KB.length = m by omega, hm, hA hc, ← hm] at h
    exact h)
  simp only [hL] at LESS
  simp only [hS] at SAME
  have HMA := Lib.hid hma
  have HMB := Lib.hid hmb
  clear hL hS hA hma hmb FITS
  obtain ⟨a0, a1, a2, a3, a4⟩ := box_cells X5.out
  go_wp2_with fail
  refine (KEYA.out _ hb5).mono ?_
  rintro e w6 ⟨va, vc, rfl, hin6, hq6, hca⟩
  obtain ⟨ba, oa, rfl, -⟩ := id (hin6.resolve_left (by intro e; have := HNA.out; rw [e] at this; simp at this))
  have HCA := Lib.hid hca
  clear hca
  have hb6 := hb5.trans (hq6.mono hb5.size)
  have X6 := Lib.hid (box_later X5.out hq6)
  have Y6 := Lib.hid (box_later Y5.out hq6)
  have HI6 := Lib.hid hin6
  clear hin6 hq6 X5 Y5 a0 a1 a2 a3 a4
  obtain ⟨d0, d1, d2, d3, d4⟩ := box_cells Y6.out
  go_wp2_with fail
  refine (KEYB.out _ hb6).mono ?_
  rintro e w7 ⟨vb, vd, rfl, hin7, hq7, hcb⟩
  obtain ⟨bb, ob, rfl, -⟩ := id (hin7.resolve_left (by intro e; have := HNB.out; rw [e] at this; simp at this))
  have HCB := Lib.hid hcb
  clear hcb
  have hb7 := hb6.trans (hq7.mono hb6.size)
  have X7 := Lib.hid (box_later X6.out hq7)
  have Y7 := Lib.hid (box_later Y6.out hq7)
  have HI7 := Lib.hid (HI6.out.below hq7)
  have HJ7 := Lib.hid hin7
  clear hin7 hq7 X6 Y6 HI6 d0 d1 d2 d3 d4
  obtain ⟨a0, a1, a2, a3, a4⟩ := box_cells X7.out
  obtain ⟨d0, d1, d2, d3, d4⟩ := box_cells Y7.out
  go_wp2_with fail
  refine (CMP.out _ hb7).mono ?_
  rintro e w8 ⟨rfl, hq8⟩
  have hb8 := hb7.trans (hq8.mono hb7.size)
  have HI8 := Lib.hid (HI7.out.below hq8)
  have HJ8 := Lib.hid (HJ7.out.below hq8)
  clear hq8 a0 a1 a2 a3 a4 d0 d1 d2 d3 d4 HI7 HJ7 X7 Y7
  by_cases hC0 : C = 0
  · subst hC0
    clear SAME2
    go_wp2_with fail
    refine (LESS.out _ _ vc vd w8 HI8.out HJ8.out).mono ?_
    rintro e w9 ⟨rfl, hq9⟩
    have hb9 := hb8.trans (hq9.mono hb8.size)
    have HI9 := Lib.hid (HI8.out.below hq9)
    have HJ9 := Lib.hid (HJ8.out.below hq9)
    clear hq9 HI8 HJ8
    go_wp2_with fail
    refine (SAME.out _ _ vc vd w9 HI9.out HJ9.out).mono ?_
    rintro e w10 ⟨rfl, hq10⟩
    have hb10 := hb9.trans (hq10.mono hb9.size)
    clear hq10 HI9 HJ9
    go_wp2_with fail
    go_quiet (fail)
    go_wp2_with fail
    go_ret
    exact ⟨rfl, hb10.trans ⟨rfl, rfl, rfl, Nat.le_refl _, fun _ _ => rfl⟩⟩
  · have n1 : (C == 0) = false := by rw [beq_eq_false_iff_ne]; exact hC0
    have n2 : decide (C = 0) = false := decide_eq_false hC0
    simp only [n2] at SAME
    have S2 := Lib.hid (fun (na nb : Option Addr) (ca cb m : Nat) (hm : m = min KA.length KB.length) (W : World) (h1 : BytesIn W na KA) (h2 : BytesIn W nb KB) => SAME2.out na nb ca cb m hm hC0 W h1 h2)
    clear SAME2 n2
    go_wp2_with fail
    refine (LESS.out _ _ vc vd w8 HI8.out HJ8.out).mono ?_
    rintro e w9 ⟨rfl, hq9⟩
    have hb9 := hb8.trans (hq9.mono hb8.size)
    have HI9 := Lib.hid (HI8.out.below hq9)
    have HJ9 := Lib.hid (HJ8.out.below hq9)
    clear hq9 HI8 HJ8
    go_wp2_with fail
    refine (SAME.out _ _ vc vd w9 HI9.out HJ9.out).mono ?_
    rintro e w10 ⟨rfl, hq10⟩
    have hb10 := hb9.trans (hq10.mono hb9.size)
    have HI10 := Lib.hid (HI9.out.below hq10)
    have HJ10 := Lib.hid (HJ9.out.below hq10)
    clear hq10 HI9 HJ9
    go_wp2_with fail
    obtain ⟨m, hm⟩ : ∃ m : Nat, m = min KA.length KB.length := ⟨_, rfl⟩
    have hmi : min (KA.length : Int) (KB.length : Int) = (m : Int) := by omega
    have m1 : m ≤ vc := by have := HCA.out; omega
    have m2 : m ≤ vd := by have := HCB.out; omega
    have HM := Lib.hid hm
    clear hm
    refine wp_region_quiet_below (by kernel_rfl) (by kernel_rfl) ?_
    repeat (go_big_quiet_step (exact Calls.regrown_of (S2.out _ _ _ _ _ HM.out _ (HI10.out.below (below_regrown _ _ _)) (HJ10.out.below (below_regrown _ _ _)))))
    refine wpQuiet_nil ?_
    intro _ hw'
    obtain ⟨⟨dq, osq⟩, hw''⟩ := hw'
    subst hw''
    have hbq := below_regrown w10 dq osq
    generalize Go.Sort.grow (redrawn w10 dq) osq = wq at *
    go_wp2_with fail
    go_ret
    exact ⟨rfl, hb10.trans (hbq.mono hb10.size)⟩
end Go.Proofs.YtcbfbmidekmboaaDoor
