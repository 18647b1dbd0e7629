/- StampWrites: every key has the chapter's bytes, or is refused: the walk of the statement; no condition but that a name's length fits a machine's. -/
import Derived.Test.YtfakpgfbpngfpaaAwake
import Derived.Test.YtfakpgfbpngfpaaRwrite
namespace Go.Proofs.Ytfakpgfbpngfpaa
open Go.ChangeShapes Go.WideShapes Go.Deep Go.RowKit Go.Lib

theorem stampR_length (sp : Int) (l : List UInt8) (t : Nat) : (stampR sp l t).length ≤ 2 * l.length + 11 := by
  unfold stampR
  split
  · exact (stampL_length sp l t).2
  · simp

set_option maxHeartbeats 4000000 in
set_option maxRecDepth 100000 in
theorem lawwrite_any (na : Option Addr) (ca : Nat) (l : List UInt8) (sp : Int) (t : Nat) (w : World) (hin : BytesIn w na l) (hl : l.length ≤ 9223372036854775807) (ht : t < 18446744073709551616) :
    Calls Try.prog 3 #[.agg #[.int .i64 sp, .slice na l.length ca, .int .u64 (t : Int)]] w fun e w' => e = .returned (.bool true) ∧ Below w.heap.size w w' := by
  have AWAKE := Lib.hid (fun W => awake_any W)
  have HB := Lib.hid (Boxed.new w 25 #[.int .i64 sp, .slice na l.length ca, .int .u64 (t : Int)])
  by_cases h1 : l.length ≤ 1000
  · have WRITE := Lib.hid (fun W (h : Below w.heap.size w W) => Write_any na ca l sp t W (hin.below h) h1 ht)
    have RWRITE := Lib.hid (fun W (h : Below w.heap.size w W) => rWrite_any na ca l sp t W (hin.below h) h1 ht)
    have hS := stampR_length sp l t
    obtain ⟨S, hSS⟩ : ∃ S, stampR sp l t = S := ⟨_, rfl⟩
    obtain ⟨E, hE⟩ : ∃ E, errK sp l.length = E := ⟨_, rfl⟩
    unfold WriteGave at WRITE RWRITE
    simp only [hSS, hE] at WRITE RWRITE hS
    have SAME := Lib.hid (fun (na nb : Option Addr) (ca cb : Nat) (W : World) (h1 : BytesIn W na S) (h2 : BytesIn W nb S) => sameB_any na nb ca cb S S W h1 h2 (by omega) (by omega))
    simp only [decide_true] at SAME
    have h1' : (l.length : Int) ≤ 1000 := by omega
    clear hin hSS hE hS
    go_enter Try.func3, Try.ntmps3
    go_wp2_with fail
    generalize w.alloc (.cells #[.int .i64 sp, .slice na l.length ca, .int .u64 (t : Int)] 25) = W0 at *
    refine (AWAKE.out _).mono ?_
    rintro e w1 ⟨rfl, hb1⟩
    have HB1 := Lib.hid (HB.out.later hb1)
    clear hb1
    obtain ⟨a0, a1, a2⟩ := HB1.out.cells
    go_wp2_with fail
    refine (WRITE.out _ HB1.out.below).mono ?_
    rintro e w2 ⟨nb, cb, rfl, hi2, hb2⟩
    have HB2 := Lib.hid (HB1.out.later hb2)
    have HI2 := Lib.hid hi2
    clear hi2 hb2 a0 a1 a2
    obtain ⟨a0, a1, a2⟩ := HB2.out.cells
    go_wp2_with fail
    refine (RWRITE.out _ HB2.out.below).mono ?_
    rintro e w3 ⟨nc, cc, rfl, hi3, hb3⟩
    have HB3 := Lib.hid (HB2.out.later hb3)
    have HI3 := Lib.hid hi3
    have HI23 := Lib.hid (HI2.out.below hb3)
    clear hi3 hb3 a0 a1 a2
    go_wp2_with fail
    refine (SAME.out _ _ _ _ _ HI23.out HI3.out).mono ?_
    rintro e w4 ⟨rfl, hb4⟩
    have HB4 := Lib.hid (HB3.out.later hb4)
    clear hb4
    go_wp2_with fail
    go_ret
    exact ⟨rfl, HB4.out.below⟩
  · have h2 : (1000 : Int) < (l.length : Int) := by omega
    clear hin h1
    go_enter Try.func3, Try.ntmps3
    go_wp2_with fail
    generalize w.alloc (.cells #[.int .i64 sp, .slice na l.length ca, .int .u64 (t : Int)] 25) = W0 at *
    refine (AWAKE.out _).mono ?_
    rintro e w1 ⟨rfl, hb1⟩
    have HB1 := Lib.hid (HB.out.later hb1)
    clear hb1
    obtain ⟨a0, a1, a2⟩ := HB1.out.cells
    go_wp2_with fail
    refine (AWAKE.out _).mono ?_
    rintro e w2 ⟨rfl, hb2⟩
    have HB2 := Lib.hid (HB1.out.later hb2)
    clear hb2
    go_wp2_with fail
    go_ret
    exact ⟨rfl, HB2.out.below⟩
end Go.Proofs.Ytfakpgfbpngfpaa
