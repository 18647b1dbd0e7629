/- StampBack: what is written is read as it was, and what is read is written to its very bytes: the walk of the statement; no condition of ours. -/
import Derived.Test.YtfakpgfbpngfpaaAwake
import Derived.Test.YtfakpgfbpngfpaaReadp
namespace Go.Proofs.Ytfakpgfbpngfpaa
open Go.ChangeShapes Go.WideShapes Go.Deep Go.RowKit Go.Lib

theorem stampR_ok {sp : Int} {l : List UInt8} {t : Nat} (h : errK sp l.length = 0) : stampR sp l t = stampL sp l t := by unfold stampR; rw [if_pos h]

theorem keyR_stamp {sp : Int} {l : List UInt8} {t : Nat} (h : errK sp l.length = 0) (ht : t < 18446744073709551616) : keyR (stampR sp l t) = (sp, l, t, 0) := by
  obtain ⟨⟨h0, h1⟩, h2⟩ := errK_zero.1 h
  rw [stampR_ok h, keyR_some (readK_stamp h0 h1 h2 ht)]
  congr 1
  omega

/-- What is read is written to its very bytes. -/
theorem key_again {m : List UInt8} {s : Nat} {n : List UInt8} {t : Nat} (h : readK m = some (s, n, t)) : errK (s : Int) n.length = 0 ∧ stampR (s : Int) n t = m ∧ n.length ≤ 200 ∧ t < 18446744073709551616 := by
  obtain ⟨h1, h2, h3, h4⟩ := readK_back h
  have he : errK (s : Int) n.length = 0 := errK_zero.2 ⟨⟨by omega, by omega⟩, h2⟩
  exact ⟨he, by rw [stampR_ok he, ← h4], h2, h3⟩

set_option maxHeartbeats 4000000 in
set_option maxRecDepth 100000 in
theorem lawback_any (na : Option Addr) (ca : Nat) (l : List UInt8) (sp : Int) (t : Nat) (v1 : Value) (m : List UInt8) (w : World) (hin : BytesIn w na l) (hl : l.length ≤ 9223372036854775807) (ht : t < 18446744073709551616) (hs1 : Sl w v1 m) :
    Calls Try.prog 5 #[.agg #[.int .i64 sp, .slice na l.length ca, .int .u64 (t : Int)], v1] w fun e w' => e = .returned (.bool true) ∧ Below w.heap.size w w' := by
  have AWAKE := Lib.hid (fun W => awake_any W)
  have HB := Lib.hid (Boxed.new w 25 #[.int .i64 sp, .slice na l.length ca, .int .u64 (t : Int)])
  have hml : m.length ≤ 9223372036854775807 := by obtain ⟨_, c, -, -, h3, h4⟩ := hs1; omega
  by_cases h1 : l.length ≤ 1000
  · by_cases h2 : m.length ≤ 1000
    · have WRITE := Lib.hid (fun W (h : Below w.heap.size w W) => Write_any na ca l sp t W (hin.below h) h1 ht)
      have READ := Lib.hid (fun W (h : Below w.heap.size w W) => Read_any v1 m W (hs1.below h) (by omega))
      have HM := Lib.hid (fun W (h : Below w.heap.size w W) => hs1.below h)
      unfold WriteGave at WRITE
      unfold ReadGave at READ
      obtain ⟨na1, ca1, rfl, hi1, -, -⟩ := hs1
      have SAMEB := Lib.hid (fun (nb : Option Addr) (cb : Nat) (W : World) (h : Below w.heap.size w W) (hh : BytesIn W nb m) => sameB_any na1 nb ca1 cb m m W (hi1.below h) hh hml hml)
      simp only [decide_true] at SAMEB
      have h1' : (l.length : Int) ≤ 1000 := by omega
      have h2' : (m.length : Int) ≤ 1000 := by omega
      clear hi1
      by_cases hE : errK sp l.length = 0
      · have hk := keyR_stamp hE ht
        have hSL := (stampL_length sp l t).2
        have hsr := stampR_ok (t := t) hE
        simp only [hE, hsr] at WRITE
        rw [hsr] at hk
        obtain ⟨S, hS⟩ : ∃ S, stampL sp l t = S := ⟨_, rfl⟩
        simp only [hS] at WRITE hk hSL
        have READ1 := Lib.hid (fun (nb : Option Addr) (cb : Nat) (W : World) (hb : BytesIn W nb S) (hc : S.length ≤ cb ∧ cb ≤ 9223372036854775807) => Read_any (.slice nb S.length cb) S W ⟨nb, cb, rfl, hb, hc.1, hc.2⟩ (by omega))
        unfold ReadGave at READ1
        simp only [hk] at READ1
        have SAME := Lib.hid (fun (nb : Option Addr) (cb : Nat) (W : World) (h : Below w.heap.size w W) (hh : BytesIn W nb l) => same_any sp sp t t nb na cb ca l l W hh (hin.below h) hl hl)
        simp only [and_self, decide_true] at SAME
        have HIN := Lib.hid hin
        clear hk hSL hsr hS hE hin
        go_enter Try.func5, Try.ntmps5
        go_wp2_with fail
        generalize w.alloc (.cells #[.int .i64 sp, .slice na l.length ca, .int .u64 (t : Int)] 25) = W0 at *
        refine (AWAKE.out _).mono ?_
        rintro e w1 ⟨rfl, hb1⟩
        have HB1 := Lib.hid (HB.out.later hb1)
        clear hb1
        obtain ⟨a0, a1, a2⟩ := HB1.out.cells
        go_wp2_with fail
        refine (WRITE.out _ HB1.out.below).mono ?_
        rintro e w2 ⟨nb, cb, rfl, hi2, hc2, hb2⟩
        have HB2 := Lib.hid (HB1.out.later hb2)
        have HI2 := Lib.hid hi2
        have HC2 := Lib.hid hc2
        clear hi2 hb2 hc2 a0 a1 a2
        go_wp2_with fail
        refine (READ1.out _ _ _ HI2.out HC2.out).mono ?_
        rintro e w3 ⟨nc, cc, rfl, hi3, hb3⟩
        have HB3 := Lib.hid (HB2.out.later hb3)
        have HI3 := Lib.hid hi3
        have HX := Lib.hid (Boxed.new w3 25 #[.int .i64 sp, .slice nc l.length cc, .int .u64 (t : Int)])
        clear hi3 hb3
        go_upto_region 6 with fail
        generalize w3.alloc (.cells #[.int .i64 sp, .slice nc l.length cc, .int .u64 (t : Int)] 25) = W3 at *
        have HB4 := Lib.hid (HB3.out.later HX.out.below)
        have HI4 := Lib.hid (HI3.out.below HX.out.below)
        obtain ⟨a0, a1, a2⟩ := HB4.out.cells
        obtain ⟨b0, b1, b2⟩ := HX.out.cells
        go_wp2_with fail
        refine (SAME.out _ _ _ HB4.out.below HI4.out).mono ?_
        rintro e w5 ⟨rfl, hb5⟩
        have HB5 := Lib.hid (HB4.out.later hb5)
        clear hb5 a0 a1 a2 b0 b1 b2
        go_wp2_with fail
        refine (READ.out _ HB5.out.below).mono ?_
        rintro e w6 ⟨nd, cd, rfl, hi6, hb6⟩
        have HB6 := Lib.hid (HB5.out.later hb6)
        cases hk : readK m with
        | none =>
          rw [keyR_none hk] at hi6 ⊢
          have HX6 := Lib.hid (Boxed.new w6 25 #[.int .i64 0, .slice nd 0 cd, .int .u64 0])
          clear hi6 hb6 hk READ
          simp only [List.length_nil]
          go_upto_region 9 with fail
          generalize w6.alloc (.cells #[.int .i64 0, .slice nd 0 cd, .int .u64 0] 25) = W6 at *
          have HB7 := Lib.hid (HB6.out.later HX6.out.below)
          obtain ⟨a0, a1, a2⟩ := HX6.out.cells
          go_wp2_with fail
          go_ret
          exact ⟨rfl, HB7.out.below⟩
        | some q =>
          obtain ⟨s, n, T⟩ := q
          obtain ⟨k1, k2, k3, k4⟩ := key_again hk
          rw [keyR_some hk] at hi6 ⊢
          have HX6 := Lib.hid (Boxed.new w6 25 #[.int .i64 (s : Int), .slice nd n.length cd, .int .u64 (T : Int)])
          have HI6 := Lib.hid hi6
          have WRITE2 := Lib.hid (fun (W : World) (h : Below w6.heap.size w6 W) => Write_any nd cd n (s : Int) T W (hi6.below h) (by omega) k4)
          unfold WriteGave at WRITE2
          simp only [k1, k2] at WRITE2
          clear hi6 hb6 hk READ k1 k2 k3 k4
          simp only []
          go_upto_region 9 with fail
          generalize w6.alloc (.cells #[.int .i64 (s : Int), .slice nd n.length cd, .int .u64 (T : Int)] 25) = W6 at *
          have HB7 := Lib.hid (HB6.out.later HX6.out.below)
          obtain ⟨a0, a1, a2⟩ := HX6.out.cells
          go_wp2_with fail
          refine (WRITE2.out _ HX6.out.below).mono ?_
          rintro e w8 ⟨ne, ce, rfl, hi8, -, hb8⟩
          have HB8 := Lib.hid (HB7.out.later hb8)
          have HI8 := Lib.hid hi8
          clear hi8 hb8 a0 a1 a2
          go_wp2_with fail
          refine (SAMEB.out _ _ _ HB8.out.below HI8.out).mono ?_
          rintro e w9 ⟨rfl, hb9⟩
          have HB9 := Lib.hid (HB8.out.later hb9)
          clear hb9
          go_wp2_with fail
          go_ret
          exact ⟨rfl, HB9.out.below⟩
      · obtain ⟨E, hEE⟩ : ∃ E, errK sp l.length = E := ⟨_, rfl⟩
        rw [hEE] at hE
        simp only [hEE] at WRITE
        have hE2 : (E == 0) = false := by rw [beq_eq_false_iff_ne]; exact hE
        obtain ⟨S, hS⟩ : ∃ S, stampR sp l t = S := ⟨_, rfl⟩
        simp only [hS] at WRITE
        clear hE hEE hS hin
        go_enter Try.func5, Try.ntmps5
        go_wp2_with fail
        generalize w.alloc (.cells #[.int .i64 sp, .slice na l.length ca, .int .u64 (t : Int)] 25) = W0 at *
        refine (AWAKE.out _).mono ?_
        rintro e w1 ⟨rfl, hb1⟩
        have HB1 := Lib.hid (HB.out.later hb1)
        clear hb1
        obtain ⟨a0, a1, a2⟩ := HB1.out.cells
        go_wp2_with fail
        refine (WRITE.out _ HB1.out.below).mono ?_
        rintro e w5 ⟨nb, cb, rfl, hi2, hc2, hb2⟩
        have HB5 := Lib.hid (HB1.out.later hb2)
        clear hi2 hb2 hc2 a0 a1 a2
        go_wp2_with fail
        refine (READ.out _ HB5.out.below).mono ?_
        rintro e w6 ⟨nd, cd, rfl, hi6, hb6⟩
        have HB6 := Lib.hid (HB5.out.later hb6)
        cases hk : readK m with
        | none =>
          rw [keyR_none hk] at hi6 ⊢
          have HX6 := Lib.hid (Boxed.new w6 25 #[.int .i64 0, .slice nd 0 cd, .int .u64 0])
          clear hi6 hb6 hk READ
          simp only [List.length_nil]
          go_upto_region 9 with fail
          generalize w6.alloc (.cells #[.int .i64 0, .slice nd 0 cd, .int .u64 0] 25) = W6 at *
          have HB7 := Lib.hid (HB6.out.later HX6.out.below)
          obtain ⟨a0, a1, a2⟩ := HX6.out.cells
          go_wp2_with fail
          go_ret
          exact ⟨rfl, HB7.out.below⟩
        | some q =>
          obtain ⟨s, n, T⟩ := q
          obtain ⟨k1, k2, k3, k4⟩ := key_again hk
          rw [keyR_some hk] at hi6 ⊢
          have HX6 := Lib.hid (Boxed.new w6 25 #[.int .i64 (s : Int), .slice nd n.length cd, .int .u64 (T : Int)])
          have HI6 := Lib.hid hi6
          have WRITE2 := Lib.hid (fun (W : World) (h : Below w6.heap.size w6 W) => Write_any nd cd n (s : Int) T W (hi6.below h) (by omega) k4)
          unfold WriteGave at WRITE2
          simp only [k1, k2] at WRITE2
          clear hi6 hb6 hk READ k1 k2 k3 k4
          simp only []
          go_upto_region 9 with fail
          generalize w6.alloc (.cells #[.int .i64 (s : Int), .slice nd n.length cd, .int .u64 (T : Int)] 25) = W6 at *
          have HB7 := Lib.hid (HB6.out.later HX6.out.below)
          obtain ⟨a0, a1, a2⟩ := HX6.out.cells
          go_wp2_with fail
          refine (WRITE2.out _ HX6.out.below).mono ?_
          rintro e w8 ⟨ne, ce, rfl, hi8, -, hb8⟩
          have HB8 := Lib.hid (HB7.out.later hb8)
          have HI8 := Lib.hid hi8
          clear hi8 hb8 a0 a1 a2
          go_wp2_with fail
          refine (SAMEB.out _ _ _ HB8.out.below HI8.out).mono ?_
          rintro e w9 ⟨rfl, hb9⟩
          have HB9 := Lib.hid (HB8.out.later hb9)
          clear hb9
          go_wp2_with fail
          go_ret
          exact ⟨rfl, HB9.out.below⟩
    · have h1' : (l.length : Int) ≤ 1000 := by omega
      have h2' : (1000 : Int) < (m.length : Int) := by omega
      obtain ⟨na1, ca1, rfl, -, -, -⟩ := hs1
      clear hin h1 h2
      go_enter Try.func5, Try.ntmps5
      go_wp2_with fail
      generalize w.alloc (.cells #[.int .i64 sp, .slice na l.length ca, .int .u64 (t : Int)] 25) = W0 at *
      refine (AWAKE.out _).mono ?_
      rintro e w1 ⟨rfl, hb1⟩
      have HB1 := Lib.hid (HB.out.later hb1)
      clear hb1
      obtain ⟨a0, a1, a2⟩ := HB1.out.cells
      go_wp2_with fail
      refine (AWAKE.out _).mono ?_
      rintro e w2 ⟨rfl, hb2⟩
      have HB2 := Lib.hid (HB1.out.later hb2)
      clear hb2
      go_wp2_with fail
      go_ret
      exact ⟨rfl, HB2.out.below⟩
  · have h1' : (1000 : Int) < (l.length : Int) := by omega
    obtain ⟨na1, ca1, rfl, -, -, -⟩ := hs1
    clear hin h1
    go_enter Try.func5, Try.ntmps5
    go_wp2_with fail
    generalize w.alloc (.cells #[.int .i64 sp, .slice na l.length ca, .int .u64 (t : Int)] 25) = W0 at *
    refine (AWAKE.out _).mono ?_
    rintro e w1 ⟨rfl, hb1⟩
    have HB1 := Lib.hid (HB.out.later hb1)
    clear hb1
    obtain ⟨a0, a1, a2⟩ := HB1.out.cells
    go_wp2_with fail
    refine (AWAKE.out _).mono ?_
    rintro e w2 ⟨rfl, hb2⟩
    have HB2 := Lib.hid (HB1.out.later hb2)
    clear hb2
    go_wp2_with fail
    go_ret
    exact ⟨rfl, HB2.out.below⟩
end Go.Proofs.Ytfakpgfbpngfpaa
