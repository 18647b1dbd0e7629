/- Two keys compared by the document: what the call answers; no condition but that lengths fit a machine's. -/
import Derived.Test.YtfakpgfbpngfpaaCmpk
namespace Go.Proofs.Ytfakpgfbpngfpaa
open Go.ChangeShapes Go.WideShapes Go.Deep Go.RowKit Go.Lib

set_option maxHeartbeats 4000000 in
set_option maxRecDepth 100000 in
theorem rCompare_any (na nb : Option Addr) (ca cb : Nat) (l l' : List UInt8) (sp sp' : Int) (t t' : Nat) (w : World) (ha : BytesIn w na l) (hb : BytesIn w nb l') (hla : l.length ≤ 9223372036854775807) (hlb : l'.length ≤ 9223372036854775807) :
    Calls Try.prog 16 #[.agg #[.int .i64 sp, .slice na l.length ca, .int .u64 (t : Int)], .agg #[.int .i64 sp', .slice nb l'.length cb, .int .u64 (t' : Int)]] w fun e w' => e = .returned (.int .i64 (cmpK sp l t sp' l' t')) ∧ Below w.heap.size w w' := by
  have HT := Lib.hid (Two.new w 31 #[.int .i64 sp, .slice na l.length ca, .int .u64 (t : Int)] #[.int .i64 sp', .slice nb l'.length cb, .int .u64 (t' : Int)])
  have LESS := Lib.hid (fun W (h : Below w.heap.size w W) => lessB_any na nb ca cb l l' W (ha.below h) (hb.below h) hla hlb)
  have GREATER := Lib.hid (fun W (h : Below w.heap.size w W) => lessB_any nb na cb ca l' l W (hb.below h) (ha.below h) hlb hla)
  have hy2 := cmpB_neg l l'
  have hsig := cmpB_sig l l'
  obtain ⟨C, hC⟩ : ∃ C, cmpK sp l t sp' l' t' = C := ⟨_, rfl⟩
  rw [hC]
  unfold cmpK at hC
  obtain ⟨y, hy⟩ : ∃ y, compareBytes l l' = y := ⟨_, rfl⟩
  rw [hy] at hy2 hsig hC
  simp only [hy] at LESS
  simp only [hy2] at GREATER
  unfold Sig at hsig
  clear ha hb hy hy2
  by_cases h1 : sp < sp'
  · have HV : Hid (C = -1) := Lib.hid (by rw [← hC, cmpI_lt h1, lexI_at (by decide)])
    clear hC hsig
    go_enter Try.func16, Try.ntmps16
    go_upto_region 1 with fail
    generalize (w.alloc (.cells #[.int .i64 sp, .slice na l.length ca, .int .u64 (t : Int)] 31)).alloc (.cells #[.int .i64 sp', .slice nb l'.length cb, .int .u64 (t' : Int)] 31) = W0 at *
    obtain ⟨a0, a1, a2⟩ := HT.out.first
    obtain ⟨b0, b1, b2⟩ := HT.out.second
    go_wp2_with fail
    go_ret
    exact ⟨ret_i64 HV.out.symm, HT.out.below⟩
  by_cases h2 : sp' < sp
  · have HV : Hid (C = 1) := Lib.hid (by rw [← hC, cmpI_gt h2, lexI_at (by decide)])
    clear hC hsig
    go_enter Try.func16, Try.ntmps16
    go_upto_region 1 with fail
    generalize (w.alloc (.cells #[.int .i64 sp, .slice na l.length ca, .int .u64 (t : Int)] 31)).alloc (.cells #[.int .i64 sp', .slice nb l'.length cb, .int .u64 (t' : Int)] 31) = W0 at *
    obtain ⟨a0, a1, a2⟩ := HT.out.first
    obtain ⟨b0, b1, b2⟩ := HT.out.second
    go_wp2_with fail
    go_ret
    exact ⟨ret_i64 HV.out.symm, HT.out.below⟩
  obtain rfl : sp = sp' := by omega
  rw [lexI_of (cmpI_self _)] at hC
  clear h1 h2
  by_cases h3 : y < 0
  · obtain rfl : y = -1 := by omega
    have HV : Hid (C = -1) := Lib.hid (by rw [← hC, lexI_at (by decide)])
    clear hC hsig h3
    go_enter Try.func16, Try.ntmps16
    go_upto_region 1 with fail
    generalize (w.alloc (.cells #[.int .i64 sp, .slice na l.length ca, .int .u64 (t : Int)] 31)).alloc (.cells #[.int .i64 sp, .slice nb l'.length cb, .int .u64 (t' : Int)] 31) = W0 at *
    obtain ⟨a0, a1, a2⟩ := HT.out.first
    obtain ⟨b0, b1, b2⟩ := HT.out.second
    go_wp2_with fail
    refine (LESS.out _ HT.out.below).mono ?_
    rintro e w1 ⟨rfl, hb1⟩
    have HT1 := Lib.hid (HT.out.later hb1)
    clear hb1 a0 a1 a2 b0 b1 b2
    obtain ⟨a0, a1, a2⟩ := HT1.out.first
    obtain ⟨b0, b1, b2⟩ := HT1.out.second
    go_wp2_with fail
    go_ret
    exact ⟨ret_i64 HV.out.symm, HT1.out.below⟩
  by_cases h4 : 0 < y
  · obtain rfl : y = 1 := by omega
    have HV : Hid (C = 1) := Lib.hid (by rw [← hC, lexI_at (by decide)])
    clear hC hsig h3 h4
    go_enter Try.func16, Try.ntmps16
    go_upto_region 1 with fail
    generalize (w.alloc (.cells #[.int .i64 sp, .slice na l.length ca, .int .u64 (t : Int)] 31)).alloc (.cells #[.int .i64 sp, .slice nb l'.length cb, .int .u64 (t' : Int)] 31) = W0 at *
    obtain ⟨a0, a1, a2⟩ := HT.out.first
    obtain ⟨b0, b1, b2⟩ := HT.out.second
    go_wp2_with fail
    refine (LESS.out _ HT.out.below).mono ?_
    rintro e w1 ⟨rfl, hb1⟩
    have HT1 := Lib.hid (HT.out.later hb1)
    clear hb1 a0 a1 a2 b0 b1 b2
    obtain ⟨a0, a1, a2⟩ := HT1.out.first
    obtain ⟨b0, b1, b2⟩ := HT1.out.second
    go_wp2_with fail
    refine (GREATER.out _ HT1.out.below).mono ?_
    rintro e w2 ⟨rfl, hb2⟩
    have HT2 := Lib.hid (HT1.out.later hb2)
    clear hb2 a0 a1 a2 b0 b1 b2
    obtain ⟨a0, a1, a2⟩ := HT2.out.first
    obtain ⟨b0, b1, b2⟩ := HT2.out.second
    go_wp2_with fail
    go_ret
    exact ⟨ret_i64 HV.out.symm, HT2.out.below⟩
  obtain rfl : y = 0 := by omega
  rw [lexI_of rfl] at hC
  clear hsig h3 h4
  by_cases h5 : t' < t
  · have HV : Hid (C = -1) := Lib.hid (by rw [← hC, cmpI_lt (by omega)])
    clear hC
    go_enter Try.func16, Try.ntmps16
    go_upto_region 1 with fail
    generalize (w.alloc (.cells #[.int .i64 sp, .slice na l.length ca, .int .u64 (t : Int)] 31)).alloc (.cells #[.int .i64 sp, .slice nb l'.length cb, .int .u64 (t' : Int)] 31) = W0 at *
    obtain ⟨a0, a1, a2⟩ := HT.out.first
    obtain ⟨b0, b1, b2⟩ := HT.out.second
    go_wp2_with fail
    refine (LESS.out _ HT.out.below).mono ?_
    rintro e w1 ⟨rfl, hb1⟩
    have HT1 := Lib.hid (HT.out.later hb1)
    clear hb1 a0 a1 a2 b0 b1 b2
    obtain ⟨a0, a1, a2⟩ := HT1.out.first
    obtain ⟨b0, b1, b2⟩ := HT1.out.second
    go_wp2_with fail
    refine (GREATER.out _ HT1.out.below).mono ?_
    rintro e w2 ⟨rfl, hb2⟩
    have HT2 := Lib.hid (HT1.out.later hb2)
    clear hb2 a0 a1 a2 b0 b1 b2
    obtain ⟨a0, a1, a2⟩ := HT2.out.first
    obtain ⟨b0, b1, b2⟩ := HT2.out.second
    go_wp2_with fail
    go_ret
    exact ⟨ret_i64 HV.out.symm, HT2.out.below⟩
  by_cases h6 : t < t'
  · have HV : Hid (C = 1) := Lib.hid (by rw [← hC, cmpI_gt (by omega)])
    clear hC
    go_enter Try.func16, Try.ntmps16
    go_upto_region 1 with fail
    generalize (w.alloc (.cells #[.int .i64 sp, .slice na l.length ca, .int .u64 (t : Int)] 31)).alloc (.cells #[.int .i64 sp, .slice nb l'.length cb, .int .u64 (t' : Int)] 31) = W0 at *
    obtain ⟨a0, a1, a2⟩ := HT.out.first
    obtain ⟨b0, b1, b2⟩ := HT.out.second
    go_wp2_with fail
    refine (LESS.out _ HT.out.below).mono ?_
    rintro e w1 ⟨rfl, hb1⟩
    have HT1 := Lib.hid (HT.out.later hb1)
    clear hb1 a0 a1 a2 b0 b1 b2
    obtain ⟨a0, a1, a2⟩ := HT1.out.first
    obtain ⟨b0, b1, b2⟩ := HT1.out.second
    go_wp2_with fail
    refine (GREATER.out _ HT1.out.below).mono ?_
    rintro e w2 ⟨rfl, hb2⟩
    have HT2 := Lib.hid (HT1.out.later hb2)
    clear hb2 a0 a1 a2 b0 b1 b2
    obtain ⟨a0, a1, a2⟩ := HT2.out.first
    obtain ⟨b0, b1, b2⟩ := HT2.out.second
    go_wp2_with fail
    go_ret
    exact ⟨ret_i64 HV.out.symm, HT2.out.below⟩
  · have HV : Hid (C = 0) := Lib.hid (by rw [← hC]; exact cmpI_zero.2 (by omega))
    clear hC
    go_enter Try.func16, Try.ntmps16
    go_upto_region 1 with fail
    generalize (w.alloc (.cells #[.int .i64 sp, .slice na l.length ca, .int .u64 (t : Int)] 31)).alloc (.cells #[.int .i64 sp, .slice nb l'.length cb, .int .u64 (t' : Int)] 31) = W0 at *
    obtain ⟨a0, a1, a2⟩ := HT.out.first
    obtain ⟨b0, b1, b2⟩ := HT.out.second
    go_wp2_with fail
    refine (LESS.out _ HT.out.below).mono ?_
    rintro e w1 ⟨rfl, hb1⟩
    have HT1 := Lib.hid (HT.out.later hb1)
    clear hb1 a0 a1 a2 b0 b1 b2
    obtain ⟨a0, a1, a2⟩ := HT1.out.first
    obtain ⟨b0, b1, b2⟩ := HT1.out.second
    go_wp2_with fail
    refine (GREATER.out _ HT1.out.below).mono ?_
    rintro e w2 ⟨rfl, hb2⟩
    have HT2 := Lib.hid (HT1.out.later hb2)
    clear hb2 a0 a1 a2 b0 b1 b2
    obtain ⟨a0, a1, a2⟩ := HT2.out.first
    obtain ⟨b0, b1, b2⟩ := HT2.out.second
    go_wp2_with fail
    go_ret
    exact ⟨ret_i64 HV.out.symm, HT2.out.below⟩
end Go.Proofs.Ytfakpgfbpngfpaa
