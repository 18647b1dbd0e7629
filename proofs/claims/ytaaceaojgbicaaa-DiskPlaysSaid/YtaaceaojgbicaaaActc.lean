/- An act on both disks: a Read, and bytes held against each other (kind 2); under 2^30 writes. -/
import Derived.Test.YtaaceaojgbicaaaActb
namespace Go.Proofs.Ytaaceaojgbicaaa
open Go.ChangeShapes Go.WideShapes Go.Deep Go.RowKit Go.Lib Go.Maps

theorem didRead_len {s : DS} {n : Int} (h : (s.now n).length = 256) : (s.didRead n).2.1.length ≤ 9223372036854775807 := by
  unfold DS.didRead
  split
  · simp
  · split
    · simp
    · show (s.now n).length ≤ _; omega

set_option maxHeartbeats 4000000 in
set_option maxRecDepth 100000 in
theorem act_2 {w W : World} {db rb K : Nat} {s : DS} (h : Both w W db rb s s K K) (hK : K < 1073741823) (n m : Int) (hn : wfI n) (ka : Option Addr) (kl kc : Nat) :
    Calls Try.prog 12 #[.pointer (some ⟨db, 0, none⟩), .pointer (some ⟨rb, 0, none⟩), .agg #[.int .i64 2, .int .i64 n, .int .i64 m, .slice ka kl kc]] W (ActGave w K) := by
  have hal : Below W.heap.size W (W.alloc (.cells #[.int .i64 2, .int .i64 n, .int .i64 m, .slice ka kl kc] 33)) := (Below.refl _ _).alloc (Nat.le_refl _) _
  have H2 := Lib.hid (h.later hal)
  have hw2 : (W.alloc (.cells #[.int .i64 2, .int .i64 n, .int .i64 m, .slice ka kl kc] 33)).heap[W.heap.size]? = some (.cells #[.int .i64 2, .int .i64 n, .int .i64 m, .slice ka kl kc] 33 (0, 0)) := heap_alloc_last _ _
  have HW2 := Lib.hid hw2
  have NOW := Lib.hid (h.nowLen n)
  clear h hal hw2
  go_enter Try.func12, Try.ntmps12
  go_wp2_with fail
  generalize W.alloc (.cells #[.int .i64 2, .int .i64 n, .int .i64 m, .slice ka kl kc] 33) = w2 at *
  generalize W.heap.size = bx at *
  refine (both_read H2.out n hn).mono ?_
  rintro e w4 ⟨na, rfl, hl4, hB4, hS4⟩
  have HL4 := Lib.hid hl4
  have HX4 := Lib.hid (hS4 _ _ _ _ HW2.out (by decide) (by decide))
  have HB4 := Lib.hid hB4
  have c1 := (box33 HX4.out).2.1
  clear hl4 hB4 hS4 H2 HW2
  go_wp2_with fail
  refine (both_rread HB4.out (by omega) n NOW.out).mono ?_
  rintro e w5 ⟨nb, rfl, hl5, hB5, hS5⟩
  have HLEN := Lib.hid (didRead_len NOW.out)
  have HL5 := Lib.hid hl5
  have HL6 := Lib.hid (HL4.out.rstays hS5)
  have HB5 := Lib.hid hB5
  clear hl5 hB5 hS5 HB4 HL4 HX4 c1 NOW
  generalize (s.didRead n).2.2 = s' at *
  generalize (s.didRead n).2.1 = l at *
  generalize (s.didRead n).1 = E at *
  go_wp2_with fail
  refine (sameB_any na nb l.length l.length l l w5 HL6.out.bytes HL5.out.bytes HLEN.out HLEN.out).mono ?_
  rintro e w6 ⟨rfl, hb6⟩
  have HB6 := Lib.hid (HB5.out.later hb6)
  clear hb6
  rw [decide_eq_true (rfl : l = l)]
  go_wp2_with fail
  go_ret3
  exact ⟨db, rb, s', rfl, HB6.out.more (by omega) (by omega)⟩
end Go.Proofs.Ytaaceaojgbicaaa
