/- An act on both disks: the fuse is set (kind 4); under 2^30 writes. -/
import Derived.Test.YtaaceaojgbicaaaBoth
namespace Go.Proofs.Ytaaceaojgbicaaa
open Go.ChangeShapes Go.WideShapes Go.Deep Go.RowKit Go.Lib Go.Maps

set_option maxHeartbeats 4000000 in
set_option maxRecDepth 100000 in
theorem act_4 {w W : World} {db rb K : Nat} {s : DS} (h : Both w W db rb s s K K) (n m : Int) (hn : wfI n) (ka : Option Addr) (kl kc : Nat) :
    Calls Try.prog 12 #[.pointer (some ⟨db, 0, none⟩), .pointer (some ⟨rb, 0, none⟩), .agg #[.int .i64 4, .int .i64 n, .int .i64 m, .slice ka kl kc]] W (ActGave w K) := by
  have hal : Below W.heap.size W (W.alloc (.cells #[.int .i64 4, .int .i64 n, .int .i64 m, .slice ka kl kc] 33)) := (Below.refl _ _).alloc (Nat.le_refl _) _
  have H2 := Lib.hid (h.later hal)
  have hw2 : (W.alloc (.cells #[.int .i64 4, .int .i64 n, .int .i64 m, .slice ka kl kc] 33)).heap[W.heap.size]? = some (.cells #[.int .i64 4, .int .i64 n, .int .i64 m, .slice ka kl kc] 33 (0, 0)) := heap_alloc_last _ _
  have HW2 := Lib.hid hw2
  have hhi : n ≤ 9223372036854775807 := by
    have h := hn
    simp [wfI, Lit.wf, IntKind.min, IntKind.max, IntKind.signed, IntKind.bits] at h
    omega
  clear h hal hw2
  go_enter Try.func12, Try.ntmps12
  go_wp2_with fail
  generalize W.alloc (.cells #[.int .i64 4, .int .i64 n, .int .i64 m, .slice ka kl kc] 33) = w2 at *
  generalize W.heap.size = bx at *
  refine (both_setfuse H2.out n).mono ?_
  rintro e w4 ⟨rfl, hB4, hS4⟩
  have HX4 := Lib.hid (hS4 _ _ _ _ HW2.out (by decide) (by decide))
  obtain ⟨f3, ⟨x3, c3⟩, hB5⟩ := both_fuse hB4 n hhi
  have HB5 := Lib.hid hB5
  have c1 := (box33 HX4.out).2.1
  clear hB4 hB5 hS4 H2 HW2
  go_wp2_with fail
  all_goals
    go_ret3
    refine ⟨db, rb, { s with fused := decide (0 ≤ n), left := n }, rfl, ?_⟩
    have hB := HB5.out
    first
      | (rw [show max n (-1) = n by omega] at hB; exact hB.more (by omega) (by omega))
      | (rw [show max n (-1) = -1 by omega] at hB; exact hB.more (by omega) (by omega))
end Go.Proofs.Ytaaceaojgbicaaa
