/- StampOrder: two keys are compared as the chapter says, and their bytes, byte by byte, as they are: the walk of the statement; no condition of ours. -/
import Derived.Test.YtfakpgfbpngfpaaRcmp
import Derived.Test.YtfakpgfbpngfpaaAwake
namespace Go.Proofs.Ytfakpgfbpngfpaa
open Go.ChangeShapes Go.WideShapes Go.Deep Go.RowKit Go.Lib

theorem cmpK_sig (sp : Int) (l : List UInt8) (t : Nat) (sp' : Int) (l' : List UInt8) (t' : Nat) : Sig (cmpK sp l t sp' l' t') := (cmpI_sig _ _).lexI ((cmpB_sig _ _).lexI (cmpI_sig _ _))

theorem stampR_len (sp : Int) (l : List UInt8) (t : Nat) : (stampR sp l t).length ≤ 2 * l.length + 11 := by
  unfold stampR
  split
  · exact (stampL_length sp l t).2
  · simp

set_option maxHeartbeats 4000000 in
set_option maxRecDepth 100000 in
theorem laworder_any (na : Option Addr) (ca : Nat) (l : List UInt8) (sp : Int) (t : Nat) (nb : Option Addr) (cb : Nat) (l' : List UInt8) (sp' : Int) (t' : Nat) (w : World) (ha : BytesIn w na l) (hla : l.length ≤ 9223372036854775807) (ht : t < 18446744073709551616) (hb : BytesIn w nb l') (hlb : l'.length ≤ 9223372036854775807) (ht' : t' < 18446744073709551616) :
    Calls Try.prog 6 #[.agg #[.int .i64 sp, .slice na l.length ca, .int .u64 (t : Int)], .agg #[.int .i64 sp', .slice nb l'.length cb, .int .u64 (t' : Int)]] w fun e w' => e = .returned (.bool true) ∧ Below w.heap.size w w' := by
  have AWAKE := Lib.hid (fun W => awake_any W)
  have HT := Lib.hid (Two.new w 25 #[.int .i64 sp, .slice na l.length ca, .int .u64 (t : Int)] #[.int .i64 sp', .slice nb l'.length cb, .int .u64 (t' : Int)])
  by_cases h1 : l.length ≤ 1000
  rotate_left
  · have h1' : (1000 : Int) < (l.length : Int) := by omega
    clear ha hb h1
    go_enter Try.func6, Try.ntmps6
    go_upto_region 1 with fail
    generalize (w.alloc (.cells #[.int .i64 sp, .slice na l.length ca, .int .u64 (t : Int)] 25)).alloc (.cells #[.int .i64 sp', .slice nb l'.length cb, .int .u64 (t' : Int)] 25) = W0 at *
    go_wp2_with fail
    refine (AWAKE.out _).mono ?_
    rintro e w1 ⟨rfl, hb1⟩
    have HT1 := Lib.hid (HT.out.later hb1)
    clear hb1
    obtain ⟨a0, a1, a2⟩ := HT1.out.first
    obtain ⟨b0, b1, b2⟩ := HT1.out.second
    go_wp2_with fail
    refine (AWAKE.out _).mono ?_
    rintro e w2 ⟨rfl, hb2⟩
    have HT2 := Lib.hid (HT1.out.later hb2)
    clear hb2
    go_wp2_with fail
    go_ret
    exact ⟨rfl, HT2.out.below⟩
  by_cases h2 : l'.length ≤ 1000
  rotate_left
  · have h1' : (l.length : Int) ≤ 1000 := by omega
    have h2' : (1000 : Int) < (l'.length : Int) := by omega
    clear ha hb h1 h2
    go_enter Try.func6, Try.ntmps6
    go_upto_region 1 with fail
    generalize (w.alloc (.cells #[.int .i64 sp, .slice na l.length ca, .int .u64 (t : Int)] 25)).alloc (.cells #[.int .i64 sp', .slice nb l'.length cb, .int .u64 (t' : Int)] 25) = W0 at *
    go_wp2_with fail
    refine (AWAKE.out _).mono ?_
    rintro e w1 ⟨rfl, hb1⟩
    have HT1 := Lib.hid (HT.out.later hb1)
    clear hb1
    obtain ⟨a0, a1, a2⟩ := HT1.out.first
    obtain ⟨b0, b1, b2⟩ := HT1.out.second
    go_wp2_with fail
    refine (AWAKE.out _).mono ?_
    rintro e w2 ⟨rfl, hb2⟩
    have HT2 := Lib.hid (HT1.out.later hb2)
    clear hb2
    go_wp2_with fail
    go_ret
    exact ⟨rfl, HT2.out.below⟩
  have h1' : (l.length : Int) ≤ 1000 := by omega
  have h2' : (l'.length : Int) ≤ 1000 := by omega
  have CMP := Lib.hid (fun W (h : Below w.heap.size w W) => Compare_any na nb ca cb l l' sp sp' t t' W (ha.below h) (hb.below h))
  have RCMP := Lib.hid (fun W (h : Below w.heap.size w W) => rCompare_any na nb ca cb l l' sp sp' t t' W (ha.below h) (hb.below h) hla hlb)
  have WRITE := Lib.hid (fun W (h : Below w.heap.size w W) => Write_any na ca l sp t W (ha.below h) h1 ht)
  have WRITE2 := Lib.hid (fun W (h : Below w.heap.size w W) => Write_any nb cb l' sp' t' W (hb.below h) h2 ht')
  unfold WriteGave at WRITE WRITE2
  have hsig := cmpK_sig sp l t sp' l' t'
  have hsl := stampR_len sp l t
  have hsl' := stampR_len sp' l' t'
  have hcmp : errK sp l.length = 0 → errK sp' l'.length = 0 → compareBytes (stampR sp l t) (stampR sp' l' t') = cmpK sp l t sp' l' t' := fun e e' => by
    unfold stampR
    rw [if_pos e, if_pos e']
    exact cmpB_stamp (errK_zero.1 e).1.1 (errK_zero.1 e).1.2 (errK_zero.1 e').1.1 (errK_zero.1 e').1.2 ht ht' l l'
  obtain ⟨C, hC⟩ : ∃ C, cmpK sp l t sp' l' t' = C := ⟨_, rfl⟩
  obtain ⟨E, hE⟩ : ∃ E, errK sp l.length = E := ⟨_, rfl⟩
  obtain ⟨F, hF⟩ : ∃ F, errK sp' l'.length = F := ⟨_, rfl⟩
  obtain ⟨S, hS⟩ : ∃ S, stampR sp l t = S := ⟨_, rfl⟩
  obtain ⟨S', hS'⟩ : ∃ S, stampR sp' l' t' = S := ⟨_, rfl⟩
  simp only [hC] at CMP RCMP
  simp only [hE, hS] at WRITE
  simp only [hF, hS'] at WRITE2
  rw [hC] at hsig
  rw [hS] at hsl
  rw [hS'] at hsl'
  rw [hC, hE, hF, hS, hS'] at hcmp
  clear hC hE hF hS hS' ha hb
  by_cases e0 : E = 0
  rotate_left
  · have e1 : (E == 0) = false := by rw [beq_eq_false_iff_ne]; exact e0
    have e2 : (E != 0) = true := by rw [bne, e1]; rfl
    clear e0 hcmp hsig hsl hsl' h1 h2
    go_enter Try.func6, Try.ntmps6
    go_upto_region 1 with fail
    generalize (w.alloc (.cells #[.int .i64 sp, .slice na l.length ca, .int .u64 (t : Int)] 25)).alloc (.cells #[.int .i64 sp', .slice nb l'.length cb, .int .u64 (t' : Int)] 25) = W0 at *
    go_wp2_with fail
    refine (AWAKE.out _).mono ?_
    rintro e w1 ⟨rfl, hb1⟩
    have HT1 := Lib.hid (HT.out.later hb1)
    clear hb1
    obtain ⟨a0, a1, a2⟩ := HT1.out.first
    obtain ⟨b0, b1, b2⟩ := HT1.out.second
    go_wp2_with fail
    refine (CMP.out _ HT1.out.below).mono ?_
    rintro e w2 ⟨rfl, hb2⟩
    have HT2 := Lib.hid (HT1.out.later hb2)
    clear hb2 a0 a1 a2 b0 b1 b2
    obtain ⟨a0, a1, a2⟩ := HT2.out.first
    obtain ⟨b0, b1, b2⟩ := HT2.out.second
    go_wp2_with fail
    refine (RCMP.out _ HT2.out.below).mono ?_
    rintro e w3 ⟨rfl, hb3⟩
    have HT3 := Lib.hid (HT2.out.later hb3)
    clear hb3 a0 a1 a2 b0 b1 b2
    obtain ⟨a0, a1, a2⟩ := HT3.out.first
    obtain ⟨b0, b1, b2⟩ := HT3.out.second
    go_wp2_with fail
    refine (WRITE.out _ HT3.out.below).mono ?_
    rintro e w4 ⟨nx, cx, rfl, hi4, -, hb4⟩
    have HT4 := Lib.hid (HT3.out.later hb4)
    have HI4 := Lib.hid hi4
    clear hb4 hi4 a0 a1 a2 b0 b1 b2
    obtain ⟨a0, a1, a2⟩ := HT4.out.first
    obtain ⟨b0, b1, b2⟩ := HT4.out.second
    go_wp2_with fail
    refine (WRITE2.out _ HT4.out.below).mono ?_
    rintro e w5 ⟨ny, cy, rfl, hi5, -, hb5⟩
    have HT5 := Lib.hid (HT4.out.later hb5)
    have HI5 := Lib.hid (HI4.out.below hb5)
    have HJ5 := Lib.hid hi5
    clear hb5 hi5 a0 a1 a2 b0 b1 b2
    go_wp2_with fail
    go_ret
    exact ⟨rfl, HT5.out.below⟩
  by_cases f0 : F = 0
  rotate_left
  · subst e0
    have e1 : (F == 0) = false := by rw [beq_eq_false_iff_ne]; exact f0
    have e2 : (F != 0) = true := by rw [bne, e1]; rfl
    clear f0 hcmp hsig hsl hsl' h1 h2
    go_enter Try.func6, Try.ntmps6
    go_upto_region 1 with fail
    generalize (w.alloc (.cells #[.int .i64 sp, .slice na l.length ca, .int .u64 (t : Int)] 25)).alloc (.cells #[.int .i64 sp', .slice nb l'.length cb, .int .u64 (t' : Int)] 25) = W0 at *
    go_wp2_with fail
    refine (AWAKE.out _).mono ?_
    rintro e w1 ⟨rfl, hb1⟩
    have HT1 := Lib.hid (HT.out.later hb1)
    clear hb1
    obtain ⟨a0, a1, a2⟩ := HT1.out.first
    obtain ⟨b0, b1, b2⟩ := HT1.out.second
    go_wp2_with fail
    refine (CMP.out _ HT1.out.below).mono ?_
    rintro e w2 ⟨rfl, hb2⟩
    have HT2 := Lib.hid (HT1.out.later hb2)
    clear hb2 a0 a1 a2 b0 b1 b2
    obtain ⟨a0, a1, a2⟩ := HT2.out.first
    obtain ⟨b0, b1, b2⟩ := HT2.out.second
    go_wp2_with fail
    refine (RCMP.out _ HT2.out.below).mono ?_
    rintro e w3 ⟨rfl, hb3⟩
    have HT3 := Lib.hid (HT2.out.later hb3)
    clear hb3 a0 a1 a2 b0 b1 b2
    obtain ⟨a0, a1, a2⟩ := HT3.out.first
    obtain ⟨b0, b1, b2⟩ := HT3.out.second
    go_wp2_with fail
    refine (WRITE.out _ HT3.out.below).mono ?_
    rintro e w4 ⟨nx, cx, rfl, hi4, -, hb4⟩
    have HT4 := Lib.hid (HT3.out.later hb4)
    have HI4 := Lib.hid hi4
    clear hb4 hi4 a0 a1 a2 b0 b1 b2
    obtain ⟨a0, a1, a2⟩ := HT4.out.first
    obtain ⟨b0, b1, b2⟩ := HT4.out.second
    go_wp2_with fail
    refine (WRITE2.out _ HT4.out.below).mono ?_
    rintro e w5 ⟨ny, cy, rfl, hi5, -, hb5⟩
    have HT5 := Lib.hid (HT4.out.later hb5)
    have HI5 := Lib.hid (HI4.out.below hb5)
    have HJ5 := Lib.hid hi5
    clear hb5 hi5 a0 a1 a2 b0 b1 b2
    go_wp2_with fail
    go_ret
    exact ⟨rfl, HT5.out.below⟩
  subst e0
  subst f0
  have hcc := hcmp rfl rfl
  have LESS := Lib.hid (fun (na nb : Option Addr) (ca cb : Nat) (W : World) (h1 : BytesIn W na S) (h2 : BytesIn W nb S') => lessB_any na nb ca cb S S' W h1 h2 (by omega) (by omega))
  have SAME := Lib.hid (fun (na nb : Option Addr) (ca cb : Nat) (W : World) (h1 : BytesIn W na S) (h2 : BytesIn W nb S') => sameB_any na nb ca cb S S' W h1 h2 (by omega) (by omega))
  have hsame : decide (S = S') = decide (C = 0) := decide_eq_decide.2 (by rw [← hcc]; exact cmpB_zero.symm)
  simp only [hcc] at LESS
  simp only [hsame] at SAME
  clear hcmp hcc hsame hsl hsl' h1 h2
  unfold Sig at hsig
  rcases hsig with rfl | rfl | rfl
  · rw [show decide ((-1 : Int) < 0) = true by decide] at LESS
    rw [show decide ((-1 : Int) = 0) = false by decide] at SAME
    go_enter Try.func6, Try.ntmps6
    go_upto_region 1 with fail
    generalize (w.alloc (.cells #[.int .i64 sp, .slice na l.length ca, .int .u64 (t : Int)] 25)).alloc (.cells #[.int .i64 sp', .slice nb l'.length cb, .int .u64 (t' : Int)] 25) = W0 at *
    go_wp2_with fail
    refine (AWAKE.out _).mono ?_
    rintro e w1 ⟨rfl, hb1⟩
    have HT1 := Lib.hid (HT.out.later hb1)
    clear hb1
    obtain ⟨a0, a1, a2⟩ := HT1.out.first
    obtain ⟨b0, b1, b2⟩ := HT1.out.second
    go_wp2_with fail
    refine (CMP.out _ HT1.out.below).mono ?_
    rintro e w2 ⟨rfl, hb2⟩
    have HT2 := Lib.hid (HT1.out.later hb2)
    clear hb2 a0 a1 a2 b0 b1 b2
    obtain ⟨a0, a1, a2⟩ := HT2.out.first
    obtain ⟨b0, b1, b2⟩ := HT2.out.second
    go_wp2_with fail
    refine (RCMP.out _ HT2.out.below).mono ?_
    rintro e w3 ⟨rfl, hb3⟩
    have HT3 := Lib.hid (HT2.out.later hb3)
    clear hb3 a0 a1 a2 b0 b1 b2
    obtain ⟨a0, a1, a2⟩ := HT3.out.first
    obtain ⟨b0, b1, b2⟩ := HT3.out.second
    go_wp2_with fail
    refine (WRITE.out _ HT3.out.below).mono ?_
    rintro e w4 ⟨nx, cx, rfl, hi4, -, hb4⟩
    have HT4 := Lib.hid (HT3.out.later hb4)
    have HI4 := Lib.hid hi4
    clear hb4 hi4 a0 a1 a2 b0 b1 b2
    obtain ⟨a0, a1, a2⟩ := HT4.out.first
    obtain ⟨b0, b1, b2⟩ := HT4.out.second
    go_wp2_with fail
    refine (WRITE2.out _ HT4.out.below).mono ?_
    rintro e w5 ⟨ny, cy, rfl, hi5, -, hb5⟩
    have HT5 := Lib.hid (HT4.out.later hb5)
    have HI5 := Lib.hid (HI4.out.below hb5)
    have HJ5 := Lib.hid hi5
    clear hb5 hi5 a0 a1 a2 b0 b1 b2
    go_wp2_with fail
    refine (LESS.out _ _ _ _ _ HI5.out HJ5.out).mono ?_
    rintro e w6 ⟨rfl, hb6⟩
    have HT6 := Lib.hid (HT5.out.later hb6)
    have HI6 := Lib.hid (HI5.out.below hb6)
    have HJ6 := Lib.hid (HJ5.out.below hb6)
    clear hb6
    go_wp2_with fail
    refine (SAME.out _ _ _ _ _ HI6.out HJ6.out).mono ?_
    rintro e w7 ⟨rfl, hb7⟩
    have HT7 := Lib.hid (HT6.out.later hb7)
    clear hb7
    go_wp2_with fail
    go_ret
    exact ⟨rfl, HT7.out.below⟩
  · rw [show decide ((0 : Int) < 0) = false by decide] at LESS
    rw [show decide ((0 : Int) = 0) = true by decide] at SAME
    go_enter Try.func6, Try.ntmps6
    go_upto_region 1 with fail
    generalize (w.alloc (.cells #[.int .i64 sp, .slice na l.length ca, .int .u64 (t : Int)] 25)).alloc (.cells #[.int .i64 sp', .slice nb l'.length cb, .int .u64 (t' : Int)] 25) = W0 at *
    go_wp2_with fail
    refine (AWAKE.out _).mono ?_
    rintro e w1 ⟨rfl, hb1⟩
    have HT1 := Lib.hid (HT.out.later hb1)
    clear hb1
    obtain ⟨a0, a1, a2⟩ := HT1.out.first
    obtain ⟨b0, b1, b2⟩ := HT1.out.second
    go_wp2_with fail
    refine (CMP.out _ HT1.out.below).mono ?_
    rintro e w2 ⟨rfl, hb2⟩
    have HT2 := Lib.hid (HT1.out.later hb2)
    clear hb2 a0 a1 a2 b0 b1 b2
    obtain ⟨a0, a1, a2⟩ := HT2.out.first
    obtain ⟨b0, b1, b2⟩ := HT2.out.second
    go_wp2_with fail
    refine (RCMP.out _ HT2.out.below).mono ?_
    rintro e w3 ⟨rfl, hb3⟩
    have HT3 := Lib.hid (HT2.out.later hb3)
    clear hb3 a0 a1 a2 b0 b1 b2
    obtain ⟨a0, a1, a2⟩ := HT3.out.first
    obtain ⟨b0, b1, b2⟩ := HT3.out.second
    go_wp2_with fail
    refine (WRITE.out _ HT3.out.below).mono ?_
    rintro e w4 ⟨nx, cx, rfl, hi4, -, hb4⟩
    have HT4 := Lib.hid (HT3.out.later hb4)
    have HI4 := Lib.hid hi4
    clear hb4 hi4 a0 a1 a2 b0 b1 b2
    obtain ⟨a0, a1, a2⟩ := HT4.out.first
    obtain ⟨b0, b1, b2⟩ := HT4.out.second
    go_wp2_with fail
    refine (WRITE2.out _ HT4.out.below).mono ?_
    rintro e w5 ⟨ny, cy, rfl, hi5, -, hb5⟩
    have HT5 := Lib.hid (HT4.out.later hb5)
    have HI5 := Lib.hid (HI4.out.below hb5)
    have HJ5 := Lib.hid hi5
    clear hb5 hi5 a0 a1 a2 b0 b1 b2
    go_wp2_with fail
    refine (LESS.out _ _ _ _ _ HI5.out HJ5.out).mono ?_
    rintro e w6 ⟨rfl, hb6⟩
    have HT6 := Lib.hid (HT5.out.later hb6)
    have HI6 := Lib.hid (HI5.out.below hb6)
    have HJ6 := Lib.hid (HJ5.out.below hb6)
    clear hb6
    go_wp2_with fail
    refine (SAME.out _ _ _ _ _ HI6.out HJ6.out).mono ?_
    rintro e w7 ⟨rfl, hb7⟩
    have HT7 := Lib.hid (HT6.out.later hb7)
    clear hb7
    go_wp2_with fail
    go_ret
    exact ⟨rfl, HT7.out.below⟩
  · rw [show decide ((1 : Int) < 0) = false by decide] at LESS
    rw [show decide ((1 : Int) = 0) = false by decide] at SAME
    go_enter Try.func6, Try.ntmps6
    go_upto_region 1 with fail
    generalize (w.alloc (.cells #[.int .i64 sp, .slice na l.length ca, .int .u64 (t : Int)] 25)).alloc (.cells #[.int .i64 sp', .slice nb l'.length cb, .int .u64 (t' : Int)] 25) = W0 at *
    go_wp2_with fail
    refine (AWAKE.out _).mono ?_
    rintro e w1 ⟨rfl, hb1⟩
    have HT1 := Lib.hid (HT.out.later hb1)
    clear hb1
    obtain ⟨a0, a1, a2⟩ := HT1.out.first
    obtain ⟨b0, b1, b2⟩ := HT1.out.second
    go_wp2_with fail
    refine (CMP.out _ HT1.out.below).mono ?_
    rintro e w2 ⟨rfl, hb2⟩
    have HT2 := Lib.hid (HT1.out.later hb2)
    clear hb2 a0 a1 a2 b0 b1 b2
    obtain ⟨a0, a1, a2⟩ := HT2.out.first
    obtain ⟨b0, b1, b2⟩ := HT2.out.second
    go_wp2_with fail
    refine (RCMP.out _ HT2.out.below).mono ?_
    rintro e w3 ⟨rfl, hb3⟩
    have HT3 := Lib.hid (HT2.out.later hb3)
    clear hb3 a0 a1 a2 b0 b1 b2
    obtain ⟨a0, a1, a2⟩ := HT3.out.first
    obtain ⟨b0, b1, b2⟩ := HT3.out.second
    go_wp2_with fail
    refine (WRITE.out _ HT3.out.below).mono ?_
    rintro e w4 ⟨nx, cx, rfl, hi4, -, hb4⟩
    have HT4 := Lib.hid (HT3.out.later hb4)
    have HI4 := Lib.hid hi4
    clear hb4 hi4 a0 a1 a2 b0 b1 b2
    obtain ⟨a0, a1, a2⟩ := HT4.out.first
    obtain ⟨b0, b1, b2⟩ := HT4.out.second
    go_wp2_with fail
    refine (WRITE2.out _ HT4.out.below).mono ?_
    rintro e w5 ⟨ny, cy, rfl, hi5, -, hb5⟩
    have HT5 := Lib.hid (HT4.out.later hb5)
    have HI5 := Lib.hid (HI4.out.below hb5)
    have HJ5 := Lib.hid hi5
    clear hb5 hi5 a0 a1 a2 b0 b1 b2
    go_wp2_with fail
    refine (LESS.out _ _ _ _ _ HI5.out HJ5.out).mono ?_
    rintro e w6 ⟨rfl, hb6⟩
    have HT6 := Lib.hid (HT5.out.later hb6)
    have HI6 := Lib.hid (HI5.out.below hb6)
    have HJ6 := Lib.hid (HJ5.out.below hb6)
    clear hb6
    go_wp2_with fail
    refine (SAME.out _ _ _ _ _ HI6.out HJ6.out).mono ?_
    rintro e w7 ⟨rfl, hb7⟩
    have HT7 := Lib.hid (HT6.out.later hb7)
    clear hb7
    go_wp2_with fail
    go_ret
    exact ⟨rfl, HT7.out.below⟩
end Go.Proofs.Ytfakpgfbpngfpaa
