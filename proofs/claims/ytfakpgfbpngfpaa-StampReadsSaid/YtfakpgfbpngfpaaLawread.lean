/- StampReads: all bytes are read as the key that they are the bytes of, or refused: the walk of the statement; no condition of ours. -/
import Derived.Test.YtfakpgfbpngfpaaAwake
import Derived.Test.YtfakpgfbpngfpaaRread
namespace Go.Proofs.Ytfakpgfbpngfpaa
open Go.ChangeShapes Go.WideShapes Go.Deep Go.RowKit Go.Lib

theorem keyR_name (l : List UInt8) : (keyR l).2.1.length ≤ 200 := by
  unfold keyR
  cases h : readK l with
  | none => simp
  | some p => obtain ⟨s, n, t⟩ := p; exact (readK_back h).2.1

set_option maxHeartbeats 4000000 in
set_option maxRecDepth 100000 in
theorem lawread_any (v0 : Value) (l : List UInt8) (w : World) (hs : Sl w v0 l) : Calls Try.prog 4 #[v0] w fun e w' => e = .returned (.bool true) ∧ Below w.heap.size w w' := by
  have AWAKE := Lib.hid (fun W => awake_any W)
  by_cases h1 : l.length ≤ 1000
  · have READ := Lib.hid (fun W (h : Below w.heap.size w W) => Read_any v0 l W (hs.below h) (by omega))
    have RREAD := Lib.hid (fun W (h : Below w.heap.size w W) => rRead_any v0 l W (hs.below h) (by omega))
    have hN := keyR_name l
    obtain ⟨na0, ca0, rfl, -, -, -⟩ := hs
    unfold ReadGave at READ RREAD
    obtain ⟨S, hS⟩ : ∃ S, (keyR l).1 = S := ⟨_, rfl⟩
    obtain ⟨N, hNN⟩ : ∃ N, (keyR l).2.1 = N := ⟨_, rfl⟩
    obtain ⟨T, hT⟩ : ∃ T, (keyR l).2.2.1 = T := ⟨_, rfl⟩
    obtain ⟨E, hE⟩ : ∃ E, (keyR l).2.2.2 = E := ⟨_, rfl⟩
    simp only [hS, hNN, hT, hE] at READ RREAD hN
    have SAME := Lib.hid (fun (na nb : Option Addr) (ca cb : Nat) (W : World) (h1 : BytesIn W na N) (h2 : BytesIn W nb N) => same_any S S T T na nb ca cb N N W h1 h2 (by omega) (by omega))
    simp only [and_self, decide_true] at SAME
    have h1' : (l.length : Int) ≤ 1000 := by omega
    clear hS hNN hT hE hN
    go_enter Try.func4, Try.ntmps4
    go_wp2_with fail
    refine (AWAKE.out _).mono ?_
    rintro e w1 ⟨rfl, hb1⟩
    have HB1 := Lib.hid hb1
    clear hb1
    go_wp2_with fail
    refine (READ.out _ HB1.out).mono ?_
    rintro e w2 ⟨na, ca, rfl, hi2, hb2⟩
    have HB2 := Lib.hid (HB1.out.trans (hb2.mono HB1.out.size))
    have HI2 := Lib.hid hi2
    have HX := Lib.hid (Boxed.new w2 25 #[.int .i64 S, .slice na N.length ca, .int .u64 (T : Int)])
    clear hi2 hb2
    go_upto_region 4 with fail
    generalize w2.alloc (.cells #[.int .i64 S, .slice na N.length ca, .int .u64 (T : Int)] 25) = W2 at *
    have HBW := Lib.hid (HB2.out.trans (HX.out.below.mono HB2.out.size))
    have HIW := Lib.hid (HI2.out.below HX.out.below)
    go_wp2_with fail
    refine (RREAD.out _ HBW.out).mono ?_
    rintro e w3 ⟨nb, cb, rfl, hi3, hb3⟩
    have HX3 := Lib.hid (HX.out.later hb3)
    have HB3 := Lib.hid (HBW.out.trans (hb3.mono HBW.out.size))
    have HI3 := Lib.hid hi3
    have HI23 := Lib.hid (HIW.out.below hb3)
    have HY := Lib.hid (Boxed.new w3 31 #[.int .i64 S, .slice nb N.length cb, .int .u64 (T : Int)])
    clear hi3 hb3
    go_upto_region 5 with fail
    generalize w3.alloc (.cells #[.int .i64 S, .slice nb N.length cb, .int .u64 (T : Int)] 31) = W3 at *
    have HB4 := Lib.hid (HB3.out.trans (HY.out.below.mono HB3.out.size))
    have HI4 := Lib.hid (HI3.out.below HY.out.below)
    have HI24 := Lib.hid (HI23.out.below HY.out.below)
    obtain ⟨a0, a1, a2⟩ := (HX3.out.later HY.out.below).cells
    obtain ⟨b0, b1, b2⟩ := HY.out.cells
    go_wp2_with fail
    refine (SAME.out _ _ _ _ _ HI24.out HI4.out).mono ?_
    rintro e w4 ⟨rfl, hb4⟩
    have HB5 := Lib.hid (HB4.out.trans (hb4.mono HB4.out.size))
    clear hb4
    go_wp2_with fail
    go_ret
    exact ⟨rfl, HB5.out⟩
  · have h2 : (1000 : Int) < (l.length : Int) := by omega
    obtain ⟨na0, ca0, rfl, -, -, -⟩ := hs
    clear h1
    go_enter Try.func4, Try.ntmps4
    go_wp2_with fail
    refine (AWAKE.out _).mono ?_
    rintro e w1 ⟨rfl, hb1⟩
    have HB1 := Lib.hid hb1
    clear hb1
    go_wp2_with fail
    refine (AWAKE.out _).mono ?_
    rintro e w2 ⟨rfl, hb2⟩
    have HB2 := Lib.hid (HB1.out.trans (hb2.mono HB1.out.size))
    clear hb2
    go_wp2_with fail
    go_ret
    exact ⟨rfl, HB2.out⟩
end Go.Proofs.Ytfakpgfbpngfpaa
