/- StampSpans: the bytes of a key of a space and name lie from First to Behind, those of every other one outside, and both are the chapter's: the walk of the statement; no condition of ours. -/
import Derived.Test.YtfakpgfbpngfpaaRwrite
import Derived.Test.YtfakpgfbpngfpaaAwake
import Derived.Test.YtfakpgfbpngfpaaRname
import Derived.Deep.Cut
namespace Go.Proofs.Ytfakpgfbpngfpaa
open Go.ChangeShapes Go.WideShapes Go.Deep Go.RowKit Go.Lib

theorem stampR_most (sp : Int) (l : List UInt8) (t : Nat) : (stampR sp l t).length ≤ 2 * l.length + 11 := by
  unfold stampR
  split
  · exact (stampL_length sp l t).2
  · simp

theorem frontR_most (sp : Int) (l : List UInt8) (m : UInt8) : (frontR sp l m).length ≤ 2 * l.length + 3 := by
  unfold frontR
  split
  · exact (frontL_length sp l m).2
  · simp

set_option maxHeartbeats 4000000 in
set_option maxRecDepth 100000 in
theorem lawspans_any (sp : Int) (v1 : Value) (l : List UInt8) (n2 : Option Addr) (c2 : Nat) (l2 : List UInt8) (sp2 : Int) (t2 : Nat) (w : World) (hs : Sl w v1 l) (hin2 : BytesIn w n2 l2) (hl2 : l2.length ≤ 9223372036854775807) (ht2 : t2 < 18446744073709551616) :
    Calls Try.prog 7 #[.int .i64 sp, v1, .agg #[.int .i64 sp2, .slice n2 l2.length c2, .int .u64 (t2 : Int)]] w fun e w' => e = .returned (.bool true) ∧ Below w.heap.size w w' := by
  have AWAKE := Lib.hid (fun W => awake_any W)
  have HB := Lib.hid (Boxed.new w 25 #[.int .i64 sp2, .slice n2 l2.length c2, .int .u64 (t2 : Int)])
  obtain ⟨n1, c1, rfl, hin1, hlc, hcap⟩ := hs
  by_cases h1 : l.length ≤ 1000
  rotate_left
  · have h1' : (1000 : Int) < (l.length : Int) := by omega
    clear hin1 hin2 h1
    go_enter Try.func7, Try.ntmps7
    go_upto_region 1 with fail
    generalize w.alloc (.cells #[.int .i64 sp2, .slice n2 l2.length c2, .int .u64 (t2 : Int)] 25) = W0 at *
    go_wp2_with fail
    refine (AWAKE.out _).mono ?_
    rintro e w1 ⟨rfl, hb1⟩
    have HT1 := Lib.hid (HB.out.later hb1)
    clear hb1
    obtain ⟨a0, a1, a2⟩ := HT1.out.cells
    go_wp2_with fail
    refine (AWAKE.out _).mono ?_
    rintro e w2 ⟨rfl, hb2⟩
    have HT2 := Lib.hid (HT1.out.later hb2)
    clear hb2
    go_wp2_with fail
    go_ret
    exact ⟨rfl, HT2.out.below⟩
  by_cases h2 : l2.length ≤ 1000
  rotate_left
  · have h1' : (l.length : Int) ≤ 1000 := by omega
    have h2' : (1000 : Int) < (l2.length : Int) := by omega
    clear hin1 hin2 h1 h2
    go_enter Try.func7, Try.ntmps7
    go_upto_region 1 with fail
    generalize w.alloc (.cells #[.int .i64 sp2, .slice n2 l2.length c2, .int .u64 (t2 : Int)] 25) = W0 at *
    go_wp2_with fail
    refine (AWAKE.out _).mono ?_
    rintro e w1 ⟨rfl, hb1⟩
    have HT1 := Lib.hid (HB.out.later hb1)
    clear hb1
    obtain ⟨a0, a1, a2⟩ := HT1.out.cells
    go_wp2_with fail
    refine (AWAKE.out _).mono ?_
    rintro e w2 ⟨rfl, hb2⟩
    have HT2 := Lib.hid (HT1.out.later hb2)
    clear hb2
    go_wp2_with fail
    go_ret
    exact ⟨rfl, HT2.out.below⟩
  have h1' : (l.length : Int) ≤ 1000 := by omega
  have h2' : (l2.length : Int) ≤ 1000 := by omega
  have FIRST := Lib.hid (fun W (h : Below w.heap.size w W) => First_any n1 c1 l sp W (hin1.below h) h1)
  have BEHIND := Lib.hid (fun W (h : Below w.heap.size w W) => Behind_any n1 c1 l sp W (hin1.below h) h1)
  have RFIRST := Lib.hid (fun W (h : Below w.heap.size w W) => rFirst_any n1 c1 l sp W (hin1.below h) h1)
  have RBEHIND := Lib.hid (fun W (h : Below w.heap.size w W) => rBehind_any n1 c1 l sp W (hin1.below h) h1)
  have WRITE := Lib.hid (fun W (h : Below w.heap.size w W) => Write_any n2 c2 l2 sp2 t2 W (hin2.below h) h2 ht2)
  have SAMEN := Lib.hid (fun W (h : Below w.heap.size w W) => sameB_any n2 n1 c2 c1 l2 l W (hin2.below h) (hin1.below h) hl2 (by omega))
  unfold WriteGave at WRITE
  unfold Wrote at FIRST BEHIND
  unfold Gave at RFIRST RBEHIND
  have hm0 := frontR_most sp l 0
  have hm1 := frontR_most sp l 1
  have hmx := stampR_most sp2 l2 t2
  have hspan : errK sp l.length = 0 → errK sp2 l2.length = 0 → ((¬ compareBytes (stampR sp2 l2 t2) (frontR sp l 0) < 0 ∧ compareBytes (stampR sp2 l2 t2) (frontR sp l 1) < 0) ↔ (sp2 = sp ∧ l2 = l)) ∧ frontR sp l 0 ≠ [] := fun e e' => by
    unfold stampR frontR
    rw [if_pos e, if_pos e', if_pos e]
    exact ⟨span_stamp (errK_zero.1 e).1.1 (errK_zero.1 e).1.2 (errK_zero.1 e').1.1 (errK_zero.1 e').1.2 l l2, by unfold frontL; simp⟩
  have hnone : errK sp l.length ≠ 0 → frontR sp l 0 = [] := fun e => by unfold frontR; rw [if_neg e]
  obtain ⟨D, hD⟩ : ∃ D, errK sp l.length = D := ⟨_, rfl⟩
  obtain ⟨E, hE⟩ : ∃ E, errK sp2 l2.length = E := ⟨_, rfl⟩
  obtain ⟨A, hA⟩ : ∃ A, frontR sp l 0 = A := ⟨_, rfl⟩
  obtain ⟨B, hB⟩ : ∃ B, frontR sp l 1 = B := ⟨_, rfl⟩
  obtain ⟨S, hS⟩ : ∃ S, stampR sp2 l2 t2 = S := ⟨_, rfl⟩
  simp only [hA] at FIRST RFIRST
  simp only [hB] at BEHIND RBEHIND
  simp only [hE, hS] at WRITE
  rw [hA] at hm0
  rw [hB] at hm1
  rw [hS] at hmx
  rw [hD, hE, hA, hB, hS] at hspan
  rw [hD, hA] at hnone
  clear hD hE hA hB hS hin1 hin2
  have SAMEA := Lib.hid (fun (na nb : Option Addr) (ca cb : Nat) (W : World) (h1 : BytesIn W na A) (h2 : BytesIn W nb A) => sameB_any na nb ca cb A A W h1 h2 (by omega) (by omega))
  have SAMEB := Lib.hid (fun (na nb : Option Addr) (ca cb : Nat) (W : World) (h1 : BytesIn W na B) (h2 : BytesIn W nb B) => sameB_any na nb ca cb B B W h1 h2 (by omega) (by omega))
  simp only [decide_true] at SAMEA SAMEB
  have LESSA := Lib.hid (fun (na nb : Option Addr) (ca cb : Nat) (W : World) (h1 : BytesIn W na S) (h2 : BytesIn W nb A) => lessB_any na nb ca cb S A W h1 h2 (by omega) (by omega))
  have LESSB := Lib.hid (fun (na nb : Option Addr) (ca cb : Nat) (W : World) (h1 : BytesIn W na S) (h2 : BytesIn W nb B) => lessB_any na nb ca cb S B W h1 h2 (by omega) (by omega))
  clear hm0 hm1 hmx h1 h2
  by_cases e0 : E = 0
  rotate_left
  · have e1 : (E == 0) = false := by rw [beq_eq_false_iff_ne]; exact e0
    have e2 : (E != 0) = true := by rw [bne, e1]; rfl
    clear e0 hspan hnone
    go_enter Try.func7, Try.ntmps7
    go_upto_region 1 with fail
    generalize w.alloc (.cells #[.int .i64 sp2, .slice n2 l2.length c2, .int .u64 (t2 : Int)] 25) = W0 at *
    go_wp2_with fail
    refine (AWAKE.out _).mono ?_
    rintro e w1 ⟨rfl, hb1⟩
    have HT1 := Lib.hid (HB.out.later hb1)
    clear hb1
    obtain ⟨a0, a1, a2⟩ := HT1.out.cells
    go_wp2_with fail
    refine (FIRST.out _ HT1.out.below).mono ?_
    rintro e w2 ⟨na, ca, rfl, hT2⟩
    have HT2 := Lib.hid (HT1.out.later hT2.below)
    have HA2 := Lib.hid (BytesIn.of hT2.own)
    clear hT2 a0 a1 a2
    go_wp2_with fail
    refine (BEHIND.out _ HT2.out.below).mono ?_
    rintro e w3 ⟨nb, cb, rfl, hT3⟩
    have HT3 := Lib.hid (HT2.out.later hT3.below)
    have HA3 := Lib.hid (HA2.out.below hT3.below)
    have HB3 := Lib.hid (BytesIn.of hT3.own)
    clear hT3
    go_wp2_with fail
    refine (RFIRST.out _ HT3.out.below).mono ?_
    rintro e w4 ⟨nc, cc, rfl, hi4, hb4⟩
    have HT4 := Lib.hid (HT3.out.later hb4)
    have HA4 := Lib.hid (HA3.out.below hb4)
    have HB4 := Lib.hid (HB3.out.below hb4)
    have HC4 := Lib.hid hi4
    clear hi4 hb4
    go_wp2_with fail
    refine (SAMEA.out _ _ _ _ _ HA4.out HC4.out).mono ?_
    rintro e w5 ⟨rfl, hb5⟩
    have HT5 := Lib.hid (HT4.out.later hb5)
    have HA5 := Lib.hid (HA4.out.below hb5)
    have HB5 := Lib.hid (HB4.out.below hb5)
    clear hb5
    go_wp2_with fail
    refine (RBEHIND.out _ HT5.out.below).mono ?_
    rintro e w6 ⟨nd, cd, rfl, hi6, hb6⟩
    have HT6 := Lib.hid (HT5.out.later hb6)
    have HA6 := Lib.hid (HA5.out.below hb6)
    have HB6 := Lib.hid (HB5.out.below hb6)
    have HC6 := Lib.hid hi6
    clear hi6 hb6
    go_wp2_with fail
    refine (SAMEB.out _ _ _ _ _ HB6.out HC6.out).mono ?_
    rintro e w7 ⟨rfl, hb7⟩
    have HT7 := Lib.hid (HT6.out.later hb7)
    have HA7 := Lib.hid (HA6.out.below hb7)
    have HB7 := Lib.hid (HB6.out.below hb7)
    clear hb7
    obtain ⟨a0, a1, a2⟩ := HT7.out.cells
    go_wp2_with fail
    refine (WRITE.out _ HT7.out.below).mono ?_
    rintro e w8 ⟨nx, cx, rfl, hi8, -, hb8⟩
    have HT8 := Lib.hid (HT7.out.later hb8)
    have HA8 := Lib.hid (HA7.out.below hb8)
    have HB8 := Lib.hid (HB7.out.below hb8)
    have HX8 := Lib.hid hi8
    clear hb8 hi8 a0 a1 a2
    go_wp2_with fail
    go_ret
    exact ⟨rfl, HT8.out.below⟩
  subst e0
  by_cases d0 : D = 0
  rotate_left
  · obtain rfl := hnone d0
    clear d0 hspan hnone
    simp only [List.length_nil] at FIRST RFIRST SAMEA
    go_enter Try.func7, Try.ntmps7
    go_upto_region 1 with fail
    generalize w.alloc (.cells #[.int .i64 sp2, .slice n2 l2.length c2, .int .u64 (t2 : Int)] 25) = W0 at *
    go_wp2_with fail
    refine (AWAKE.out _).mono ?_
    rintro e w1 ⟨rfl, hb1⟩
    have HT1 := Lib.hid (HB.out.later hb1)
    clear hb1
    obtain ⟨a0, a1, a2⟩ := HT1.out.cells
    go_wp2_with fail
    refine (FIRST.out _ HT1.out.below).mono ?_
    rintro e w2 ⟨na, ca, rfl, hT2⟩
    have HT2 := Lib.hid (HT1.out.later hT2.below)
    have HA2 := Lib.hid (BytesIn.of hT2.own)
    clear hT2 a0 a1 a2
    go_wp2_with fail
    refine (BEHIND.out _ HT2.out.below).mono ?_
    rintro e w3 ⟨nb, cb, rfl, hT3⟩
    have HT3 := Lib.hid (HT2.out.later hT3.below)
    have HA3 := Lib.hid (HA2.out.below hT3.below)
    have HB3 := Lib.hid (BytesIn.of hT3.own)
    clear hT3
    go_wp2_with fail
    refine (RFIRST.out _ HT3.out.below).mono ?_
    rintro e w4 ⟨nc, cc, rfl, hi4, hb4⟩
    have HT4 := Lib.hid (HT3.out.later hb4)
    have HA4 := Lib.hid (HA3.out.below hb4)
    have HB4 := Lib.hid (HB3.out.below hb4)
    have HC4 := Lib.hid hi4
    clear hi4 hb4
    go_wp2_with fail
    refine (SAMEA.out _ _ _ _ _ HA4.out HC4.out).mono ?_
    rintro e w5 ⟨rfl, hb5⟩
    have HT5 := Lib.hid (HT4.out.later hb5)
    have HA5 := Lib.hid (HA4.out.below hb5)
    have HB5 := Lib.hid (HB4.out.below hb5)
    clear hb5
    go_wp2_with fail
    refine (RBEHIND.out _ HT5.out.below).mono ?_
    rintro e w6 ⟨nd, cd, rfl, hi6, hb6⟩
    have HT6 := Lib.hid (HT5.out.later hb6)
    have HA6 := Lib.hid (HA5.out.below hb6)
    have HB6 := Lib.hid (HB5.out.below hb6)
    have HC6 := Lib.hid hi6
    clear hi6 hb6
    go_wp2_with fail
    refine (SAMEB.out _ _ _ _ _ HB6.out HC6.out).mono ?_
    rintro e w7 ⟨rfl, hb7⟩
    have HT7 := Lib.hid (HT6.out.later hb7)
    have HA7 := Lib.hid (HA6.out.below hb7)
    have HB7 := Lib.hid (HB6.out.below hb7)
    clear hb7
    obtain ⟨a0, a1, a2⟩ := HT7.out.cells
    go_wp2_with fail
    refine (WRITE.out _ HT7.out.below).mono ?_
    rintro e w8 ⟨nx, cx, rfl, hi8, -, hb8⟩
    have HT8 := Lib.hid (HT7.out.later hb8)
    have HA8 := Lib.hid (HA7.out.below hb8)
    have HB8 := Lib.hid (HB7.out.below hb8)
    have HX8 := Lib.hid hi8
    clear hb8 hi8 a0 a1 a2
    go_wp2_with fail
    go_ret
    exact ⟨rfl, HT8.out.below⟩
  subst d0
  obtain ⟨hsp, hne⟩ := hspan rfl rfl
  have hl0 : ((A.length : Int) == 0) = false := by
    rw [beq_eq_false_iff_ne]
    have : A.length ≠ 0 := fun e => hne (List.length_eq_zero_iff.1 e)
    omega
  clear hspan hnone hne
  by_cases hx : compareBytes S A < 0
  · have hfalse : ¬ (sp2 = sp ∧ l2 = l) := fun h => (hsp.2 h).1 hx
    rw [decide_eq_true hx] at LESSA
    clear hsp hx
    by_cases hq : sp2 = sp
    · subst hq
      have hl : decide (l2 = l) = false := decide_eq_false fun h => hfalse ⟨rfl, h⟩
      simp only [hl] at SAMEN
      clear hl hfalse
      go_enter Try.func7, Try.ntmps7
      go_upto_region 1 with fail
      generalize w.alloc (.cells #[.int .i64 sp2, .slice n2 l2.length c2, .int .u64 (t2 : Int)] 25) = W0 at *
      go_wp2_with fail
      refine (AWAKE.out _).mono ?_
      rintro e w1 ⟨rfl, hb1⟩
      have HT1 := Lib.hid (HB.out.later hb1)
      clear hb1
      obtain ⟨a0, a1, a2⟩ := HT1.out.cells
      go_wp2_with fail
      refine (FIRST.out _ HT1.out.below).mono ?_
      rintro e w2 ⟨na, ca, rfl, hT2⟩
      have HT2 := Lib.hid (HT1.out.later hT2.below)
      have HA2 := Lib.hid (BytesIn.of hT2.own)
      clear hT2 a0 a1 a2
      go_wp2_with fail
      refine (BEHIND.out _ HT2.out.below).mono ?_
      rintro e w3 ⟨nb, cb, rfl, hT3⟩
      have HT3 := Lib.hid (HT2.out.later hT3.below)
      have HA3 := Lib.hid (HA2.out.below hT3.below)
      have HB3 := Lib.hid (BytesIn.of hT3.own)
      clear hT3
      go_wp2_with fail
      refine (RFIRST.out _ HT3.out.below).mono ?_
      rintro e w4 ⟨nc, cc, rfl, hi4, hb4⟩
      have HT4 := Lib.hid (HT3.out.later hb4)
      have HA4 := Lib.hid (HA3.out.below hb4)
      have HB4 := Lib.hid (HB3.out.below hb4)
      have HC4 := Lib.hid hi4
      clear hi4 hb4
      go_wp2_with fail
      refine (SAMEA.out _ _ _ _ _ HA4.out HC4.out).mono ?_
      rintro e w5 ⟨rfl, hb5⟩
      have HT5 := Lib.hid (HT4.out.later hb5)
      have HA5 := Lib.hid (HA4.out.below hb5)
      have HB5 := Lib.hid (HB4.out.below hb5)
      clear hb5
      go_wp2_with fail
      refine (RBEHIND.out _ HT5.out.below).mono ?_
      rintro e w6 ⟨nd, cd, rfl, hi6, hb6⟩
      have HT6 := Lib.hid (HT5.out.later hb6)
      have HA6 := Lib.hid (HA5.out.below hb6)
      have HB6 := Lib.hid (HB5.out.below hb6)
      have HC6 := Lib.hid hi6
      clear hi6 hb6
      go_wp2_with fail
      refine (SAMEB.out _ _ _ _ _ HB6.out HC6.out).mono ?_
      rintro e w7 ⟨rfl, hb7⟩
      have HT7 := Lib.hid (HT6.out.later hb7)
      have HA7 := Lib.hid (HA6.out.below hb7)
      have HB7 := Lib.hid (HB6.out.below hb7)
      clear hb7
      obtain ⟨a0, a1, a2⟩ := HT7.out.cells
      go_wp2_with fail
      refine (WRITE.out _ HT7.out.below).mono ?_
      rintro e w8 ⟨nx, cx, rfl, hi8, -, hb8⟩
      have HT8 := Lib.hid (HT7.out.later hb8)
      have HA8 := Lib.hid (HA7.out.below hb8)
      have HB8 := Lib.hid (HB7.out.below hb8)
      have HX8 := Lib.hid hi8
      clear hb8 hi8 a0 a1 a2
      go_wp2_with fail
      refine (LESSA.out _ _ _ _ _ HX8.out HA8.out).mono ?_
      rintro e w9 ⟨rfl, hb9⟩
      have HT9 := Lib.hid (HT8.out.later hb9)
      have HB9 := Lib.hid (HB8.out.below hb9)
      have HX9 := Lib.hid (HX8.out.below hb9)
      clear hb9
      obtain ⟨a0, a1, a2⟩ := HT9.out.cells
      go_wp2_with fail
      refine (SAMEN.out _ HT9.out.below).mono ?_
      rintro e w11 ⟨rfl, hb11⟩
      have HT11 := Lib.hid (HT9.out.later hb11)
      clear hb11
      go_wp2_with fail
      go_ret
      exact ⟨rfl, HT11.out.below⟩
    · have hq1 : (sp2 == sp) = false := by rw [beq_eq_false_iff_ne]; exact hq
      clear hfalse hq
      go_enter Try.func7, Try.ntmps7
      go_upto_region 1 with fail
      generalize w.alloc (.cells #[.int .i64 sp2, .slice n2 l2.length c2, .int .u64 (t2 : Int)] 25) = W0 at *
      go_wp2_with fail
      refine (AWAKE.out _).mono ?_
      rintro e w1 ⟨rfl, hb1⟩
      have HT1 := Lib.hid (HB.out.later hb1)
      clear hb1
      obtain ⟨a0, a1, a2⟩ := HT1.out.cells
      go_wp2_with fail
      refine (FIRST.out _ HT1.out.below).mono ?_
      rintro e w2 ⟨na, ca, rfl, hT2⟩
      have HT2 := Lib.hid (HT1.out.later hT2.below)
      have HA2 := Lib.hid (BytesIn.of hT2.own)
      clear hT2 a0 a1 a2
      go_wp2_with fail
      refine (BEHIND.out _ HT2.out.below).mono ?_
      rintro e w3 ⟨nb, cb, rfl, hT3⟩
      have HT3 := Lib.hid (HT2.out.later hT3.below)
      have HA3 := Lib.hid (HA2.out.below hT3.below)
      have HB3 := Lib.hid (BytesIn.of hT3.own)
      clear hT3
      go_wp2_with fail
      refine (RFIRST.out _ HT3.out.below).mono ?_
      rintro e w4 ⟨nc, cc, rfl, hi4, hb4⟩
      have HT4 := Lib.hid (HT3.out.later hb4)
      have HA4 := Lib.hid (HA3.out.below hb4)
      have HB4 := Lib.hid (HB3.out.below hb4)
      have HC4 := Lib.hid hi4
      clear hi4 hb4
      go_wp2_with fail
      refine (SAMEA.out _ _ _ _ _ HA4.out HC4.out).mono ?_
      rintro e w5 ⟨rfl, hb5⟩
      have HT5 := Lib.hid (HT4.out.later hb5)
      have HA5 := Lib.hid (HA4.out.below hb5)
      have HB5 := Lib.hid (HB4.out.below hb5)
      clear hb5
      go_wp2_with fail
      refine (RBEHIND.out _ HT5.out.below).mono ?_
      rintro e w6 ⟨nd, cd, rfl, hi6, hb6⟩
      have HT6 := Lib.hid (HT5.out.later hb6)
      have HA6 := Lib.hid (HA5.out.below hb6)
      have HB6 := Lib.hid (HB5.out.below hb6)
      have HC6 := Lib.hid hi6
      clear hi6 hb6
      go_wp2_with fail
      refine (SAMEB.out _ _ _ _ _ HB6.out HC6.out).mono ?_
      rintro e w7 ⟨rfl, hb7⟩
      have HT7 := Lib.hid (HT6.out.later hb7)
      have HA7 := Lib.hid (HA6.out.below hb7)
      have HB7 := Lib.hid (HB6.out.below hb7)
      clear hb7
      obtain ⟨a0, a1, a2⟩ := HT7.out.cells
      go_wp2_with fail
      refine (WRITE.out _ HT7.out.below).mono ?_
      rintro e w8 ⟨nx, cx, rfl, hi8, -, hb8⟩
      have HT8 := Lib.hid (HT7.out.later hb8)
      have HA8 := Lib.hid (HA7.out.below hb8)
      have HB8 := Lib.hid (HB7.out.below hb8)
      have HX8 := Lib.hid hi8
      clear hb8 hi8 a0 a1 a2
      go_wp2_with fail
      refine (LESSA.out _ _ _ _ _ HX8.out HA8.out).mono ?_
      rintro e w9 ⟨rfl, hb9⟩
      have HT9 := Lib.hid (HT8.out.later hb9)
      have HB9 := Lib.hid (HB8.out.below hb9)
      have HX9 := Lib.hid (HX8.out.below hb9)
      clear hb9
      obtain ⟨a0, a1, a2⟩ := HT9.out.cells
      go_wp2_with fail
      go_ret
      exact ⟨rfl, HT9.out.below⟩
  rw [decide_eq_false hx] at LESSA
  by_cases hy : compareBytes S B < 0
  · obtain ⟨rfl, rfl⟩ := hsp.1 ⟨hx, hy⟩
    rw [decide_eq_true hy] at LESSB
    simp only [decide_true] at SAMEN
    clear hsp hx hy
    go_enter Try.func7, Try.ntmps7
    go_upto_region 1 with fail
    generalize w.alloc (.cells #[.int .i64 sp2, .slice n2 l2.length c2, .int .u64 (t2 : Int)] 25) = W0 at *
    go_wp2_with fail
    refine (AWAKE.out _).mono ?_
    rintro e w1 ⟨rfl, hb1⟩
    have HT1 := Lib.hid (HB.out.later hb1)
    clear hb1
    obtain ⟨a0, a1, a2⟩ := HT1.out.cells
    go_wp2_with fail
    refine (FIRST.out _ HT1.out.below).mono ?_
    rintro e w2 ⟨na, ca, rfl, hT2⟩
    have HT2 := Lib.hid (HT1.out.later hT2.below)
    have HA2 := Lib.hid (BytesIn.of hT2.own)
    clear hT2 a0 a1 a2
    go_wp2_with fail
    refine (BEHIND.out _ HT2.out.below).mono ?_
    rintro e w3 ⟨nb, cb, rfl, hT3⟩
    have HT3 := Lib.hid (HT2.out.later hT3.below)
    have HA3 := Lib.hid (HA2.out.below hT3.below)
    have HB3 := Lib.hid (BytesIn.of hT3.own)
    clear hT3
    go_wp2_with fail
    refine (RFIRST.out _ HT3.out.below).mono ?_
    rintro e w4 ⟨nc, cc, rfl, hi4, hb4⟩
    have HT4 := Lib.hid (HT3.out.later hb4)
    have HA4 := Lib.hid (HA3.out.below hb4)
    have HB4 := Lib.hid (HB3.out.below hb4)
    have HC4 := Lib.hid hi4
    clear hi4 hb4
    go_wp2_with fail
    refine (SAMEA.out _ _ _ _ _ HA4.out HC4.out).mono ?_
    rintro e w5 ⟨rfl, hb5⟩
    have HT5 := Lib.hid (HT4.out.later hb5)
    have HA5 := Lib.hid (HA4.out.below hb5)
    have HB5 := Lib.hid (HB4.out.below hb5)
    clear hb5
    go_wp2_with fail
    refine (RBEHIND.out _ HT5.out.below).mono ?_
    rintro e w6 ⟨nd, cd, rfl, hi6, hb6⟩
    have HT6 := Lib.hid (HT5.out.later hb6)
    have HA6 := Lib.hid (HA5.out.below hb6)
    have HB6 := Lib.hid (HB5.out.below hb6)
    have HC6 := Lib.hid hi6
    clear hi6 hb6
    go_wp2_with fail
    refine (SAMEB.out _ _ _ _ _ HB6.out HC6.out).mono ?_
    rintro e w7 ⟨rfl, hb7⟩
    have HT7 := Lib.hid (HT6.out.later hb7)
    have HA7 := Lib.hid (HA6.out.below hb7)
    have HB7 := Lib.hid (HB6.out.below hb7)
    clear hb7
    obtain ⟨a0, a1, a2⟩ := HT7.out.cells
    go_wp2_with fail
    refine (WRITE.out _ HT7.out.below).mono ?_
    rintro e w8 ⟨nx, cx, rfl, hi8, -, hb8⟩
    have HT8 := Lib.hid (HT7.out.later hb8)
    have HA8 := Lib.hid (HA7.out.below hb8)
    have HB8 := Lib.hid (HB7.out.below hb8)
    have HX8 := Lib.hid hi8
    clear hb8 hi8 a0 a1 a2
    go_wp2_with fail
    refine (LESSA.out _ _ _ _ _ HX8.out HA8.out).mono ?_
    rintro e w9 ⟨rfl, hb9⟩
    have HT9 := Lib.hid (HT8.out.later hb9)
    have HB9 := Lib.hid (HB8.out.below hb9)
    have HX9 := Lib.hid (HX8.out.below hb9)
    clear hb9
    go_wp2_with fail
    refine (LESSB.out _ _ _ _ _ HX9.out HB9.out).mono ?_
    rintro e w10 ⟨rfl, hb10⟩
    have HT9 := Lib.hid (HT9.out.later hb10)
    clear hb10
    obtain ⟨a0, a1, a2⟩ := HT9.out.cells
    go_wp2_with fail
    refine (SAMEN.out _ HT9.out.below).mono ?_
    rintro e w11 ⟨rfl, hb11⟩
    have HT11 := Lib.hid (HT9.out.later hb11)
    clear hb11
    go_wp2_with fail
    go_ret
    exact ⟨rfl, HT11.out.below⟩
  · have hfalse : ¬ (sp2 = sp ∧ l2 = l) := fun h => hy (hsp.2 h).2
    rw [decide_eq_false hy] at LESSB
    clear hsp hx hy
    by_cases hq : sp2 = sp
    · subst hq
      have hl : decide (l2 = l) = false := decide_eq_false fun h => hfalse ⟨rfl, h⟩
      simp only [hl] at SAMEN
      clear hl hfalse
      go_enter Try.func7, Try.ntmps7
      go_upto_region 1 with fail
      generalize w.alloc (.cells #[.int .i64 sp2, .slice n2 l2.length c2, .int .u64 (t2 : Int)] 25) = W0 at *
      go_wp2_with fail
      refine (AWAKE.out _).mono ?_
      rintro e w1 ⟨rfl, hb1⟩
      have HT1 := Lib.hid (HB.out.later hb1)
      clear hb1
      obtain ⟨a0, a1, a2⟩ := HT1.out.cells
      go_wp2_with fail
      refine (FIRST.out _ HT1.out.below).mono ?_
      rintro e w2 ⟨na, ca, rfl, hT2⟩
      have HT2 := Lib.hid (HT1.out.later hT2.below)
      have HA2 := Lib.hid (BytesIn.of hT2.own)
      clear hT2 a0 a1 a2
      go_wp2_with fail
      refine (BEHIND.out _ HT2.out.below).mono ?_
      rintro e w3 ⟨nb, cb, rfl, hT3⟩
      have HT3 := Lib.hid (HT2.out.later hT3.below)
      have HA3 := Lib.hid (HA2.out.below hT3.below)
      have HB3 := Lib.hid (BytesIn.of hT3.own)
      clear hT3
      go_wp2_with fail
      refine (RFIRST.out _ HT3.out.below).mono ?_
      rintro e w4 ⟨nc, cc, rfl, hi4, hb4⟩
      have HT4 := Lib.hid (HT3.out.later hb4)
      have HA4 := Lib.hid (HA3.out.below hb4)
      have HB4 := Lib.hid (HB3.out.below hb4)
      have HC4 := Lib.hid hi4
      clear hi4 hb4
      go_wp2_with fail
      refine (SAMEA.out _ _ _ _ _ HA4.out HC4.out).mono ?_
      rintro e w5 ⟨rfl, hb5⟩
      have HT5 := Lib.hid (HT4.out.later hb5)
      have HA5 := Lib.hid (HA4.out.below hb5)
      have HB5 := Lib.hid (HB4.out.below hb5)
      clear hb5
      go_wp2_with fail
      refine (RBEHIND.out _ HT5.out.below).mono ?_
      rintro e w6 ⟨nd, cd, rfl, hi6, hb6⟩
      have HT6 := Lib.hid (HT5.out.later hb6)
      have HA6 := Lib.hid (HA5.out.below hb6)
      have HB6 := Lib.hid (HB5.out.below hb6)
      have HC6 := Lib.hid hi6
      clear hi6 hb6
      go_wp2_with fail
      refine (SAMEB.out _ _ _ _ _ HB6.out HC6.out).mono ?_
      rintro e w7 ⟨rfl, hb7⟩
      have HT7 := Lib.hid (HT6.out.later hb7)
      have HA7 := Lib.hid (HA6.out.below hb7)
      have HB7 := Lib.hid (HB6.out.below hb7)
      clear hb7
      obtain ⟨a0, a1, a2⟩ := HT7.out.cells
      go_wp2_with fail
      refine (WRITE.out _ HT7.out.below).mono ?_
      rintro e w8 ⟨nx, cx, rfl, hi8, -, hb8⟩
      have HT8 := Lib.hid (HT7.out.later hb8)
      have HA8 := Lib.hid (HA7.out.below hb8)
      have HB8 := Lib.hid (HB7.out.below hb8)
      have HX8 := Lib.hid hi8
      clear hb8 hi8 a0 a1 a2
      go_wp2_with fail
      refine (LESSA.out _ _ _ _ _ HX8.out HA8.out).mono ?_
      rintro e w9 ⟨rfl, hb9⟩
      have HT9 := Lib.hid (HT8.out.later hb9)
      have HB9 := Lib.hid (HB8.out.below hb9)
      have HX9 := Lib.hid (HX8.out.below hb9)
      clear hb9
      go_wp2_with fail
      refine (LESSB.out _ _ _ _ _ HX9.out HB9.out).mono ?_
      rintro e w10 ⟨rfl, hb10⟩
      have HT9 := Lib.hid (HT9.out.later hb10)
      clear hb10
      obtain ⟨a0, a1, a2⟩ := HT9.out.cells
      go_wp2_with fail
      refine (SAMEN.out _ HT9.out.below).mono ?_
      rintro e w11 ⟨rfl, hb11⟩
      have HT11 := Lib.hid (HT9.out.later hb11)
      clear hb11
      go_wp2_with fail
      go_ret
      exact ⟨rfl, HT11.out.below⟩
    · have hq1 : (sp2 == sp) = false := by rw [beq_eq_false_iff_ne]; exact hq
      clear hfalse hq
      go_enter Try.func7, Try.ntmps7
      go_upto_region 1 with fail
      generalize w.alloc (.cells #[.int .i64 sp2, .slice n2 l2.length c2, .int .u64 (t2 : Int)] 25) = W0 at *
      go_wp2_with fail
      refine (AWAKE.out _).mono ?_
      rintro e w1 ⟨rfl, hb1⟩
      have HT1 := Lib.hid (HB.out.later hb1)
      clear hb1
      obtain ⟨a0, a1, a2⟩ := HT1.out.cells
      go_wp2_with fail
      refine (FIRST.out _ HT1.out.below).mono ?_
      rintro e w2 ⟨na, ca, rfl, hT2⟩
      have HT2 := Lib.hid (HT1.out.later hT2.below)
      have HA2 := Lib.hid (BytesIn.of hT2.own)
      clear hT2 a0 a1 a2
      go_wp2_with fail
      refine (BEHIND.out _ HT2.out.below).mono ?_
      rintro e w3 ⟨nb, cb, rfl, hT3⟩
      have HT3 := Lib.hid (HT2.out.later hT3.below)
      have HA3 := Lib.hid (HA2.out.below hT3.below)
      have HB3 := Lib.hid (BytesIn.of hT3.own)
      clear hT3
      go_wp2_with fail
      refine (RFIRST.out _ HT3.out.below).mono ?_
      rintro e w4 ⟨nc, cc, rfl, hi4, hb4⟩
      have HT4 := Lib.hid (HT3.out.later hb4)
      have HA4 := Lib.hid (HA3.out.below hb4)
      have HB4 := Lib.hid (HB3.out.below hb4)
      have HC4 := Lib.hid hi4
      clear hi4 hb4
      go_wp2_with fail
      refine (SAMEA.out _ _ _ _ _ HA4.out HC4.out).mono ?_
      rintro e w5 ⟨rfl, hb5⟩
      have HT5 := Lib.hid (HT4.out.later hb5)
      have HA5 := Lib.hid (HA4.out.below hb5)
      have HB5 := Lib.hid (HB4.out.below hb5)
      clear hb5
      go_wp2_with fail
      refine (RBEHIND.out _ HT5.out.below).mono ?_
      rintro e w6 ⟨nd, cd, rfl, hi6, hb6⟩
      have HT6 := Lib.hid (HT5.out.later hb6)
      have HA6 := Lib.hid (HA5.out.below hb6)
      have HB6 := Lib.hid (HB5.out.below hb6)
      have HC6 := Lib.hid hi6
      clear hi6 hb6
      go_wp2_with fail
      refine (SAMEB.out _ _ _ _ _ HB6.out HC6.out).mono ?_
      rintro e w7 ⟨rfl, hb7⟩
      have HT7 := Lib.hid (HT6.out.later hb7)
      have HA7 := Lib.hid (HA6.out.below hb7)
      have HB7 := Lib.hid (HB6.out.below hb7)
      clear hb7
      obtain ⟨a0, a1, a2⟩ := HT7.out.cells
      go_wp2_with fail
      refine (WRITE.out _ HT7.out.below).mono ?_
      rintro e w8 ⟨nx, cx, rfl, hi8, -, hb8⟩
      have HT8 := Lib.hid (HT7.out.later hb8)
      have HA8 := Lib.hid (HA7.out.below hb8)
      have HB8 := Lib.hid (HB7.out.below hb8)
      have HX8 := Lib.hid hi8
      clear hb8 hi8 a0 a1 a2
      go_wp2_with fail
      refine (LESSA.out _ _ _ _ _ HX8.out HA8.out).mono ?_
      rintro e w9 ⟨rfl, hb9⟩
      have HT9 := Lib.hid (HT8.out.later hb9)
      have HB9 := Lib.hid (HB8.out.below hb9)
      have HX9 := Lib.hid (HX8.out.below hb9)
      clear hb9
      go_wp2_with fail
      refine (LESSB.out _ _ _ _ _ HX9.out HB9.out).mono ?_
      rintro e w10 ⟨rfl, hb10⟩
      have HT9 := Lib.hid (HT9.out.later hb10)
      clear hb10
      obtain ⟨a0, a1, a2⟩ := HT9.out.cells
      go_wp2_with fail
      go_ret
      exact ⟨rfl, HT9.out.below⟩
end Go.Proofs.Ytfakpgfbpngfpaa
