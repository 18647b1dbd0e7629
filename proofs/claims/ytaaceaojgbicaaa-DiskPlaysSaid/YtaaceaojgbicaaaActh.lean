/- An act on both disks that is none (any other kind). -/
import Derived.Test.YtaaceaojgbicaaaBoth
namespace Go.Proofs.Ytaaceaojgbicaaa
open Go.ChangeShapes Go.WideShapes Go.Deep Go.RowKit Go.Lib Go.Maps

set_option maxHeartbeats 4000000 in
set_option maxRecDepth 100000 in
theorem act_none {w W : World} {db rb K : Nat} {s : DS} (h : Both w W db rb s s K K) (k : Int) (hk : k ≠ 1 ∧ k ≠ 2 ∧ k ≠ 3 ∧ k ≠ 4 ∧ k ≠ 5 ∧ k ≠ 6) (n m : Int) (ka : Option Addr) (kl kc : Nat) :
    Calls Try.prog 12 #[.pointer (some ⟨db, 0, none⟩), .pointer (some ⟨rb, 0, none⟩), .agg #[.int .i64 k, .int .i64 n, .int .i64 m, .slice ka kl kc]] W (ActGave w K) := by
  have hal : Below W.heap.size W (W.alloc (.cells #[.int .i64 k, .int .i64 n, .int .i64 m, .slice ka kl kc] 33)) := (Below.refl _ _).alloc (Nat.le_refl _) _
  have H2 := Lib.hid (h.later hal)
  have hw2 : (W.alloc (.cells #[.int .i64 k, .int .i64 n, .int .i64 m, .slice ka kl kc] 33)).heap[W.heap.size]? = some (.cells #[.int .i64 k, .int .i64 n, .int .i64 m, .slice ka kl kc] 33 (0, 0)) := heap_alloc_last _ _
  have HW2 := Lib.hid hw2
  obtain ⟨h1, h2, h3, h4, h5, h6⟩ := hk
  have e1 : (k == 1) = false := beq_eq_false_iff_ne.2 h1
  have e2 : (k == 2) = false := beq_eq_false_iff_ne.2 h2
  have e3 : (k == 3) = false := beq_eq_false_iff_ne.2 h3
  have e4 : (k == 4) = false := beq_eq_false_iff_ne.2 h4
  have e5 : (k == 5) = false := beq_eq_false_iff_ne.2 h5
  have e6 : (k == 6) = false := beq_eq_false_iff_ne.2 h6
  clear h hal hw2
  go_enter Try.func12, Try.ntmps12
  go_wp2_with fail
  generalize W.alloc (.cells #[.int .i64 k, .int .i64 n, .int .i64 m, .slice ka kl kc] 33) = w2 at *
  generalize W.heap.size = bx at *
  go_ret3
  exact ⟨db, rb, s, rfl, H2.out.more (by omega) (by omega)⟩
end Go.Proofs.Ytaaceaojgbicaaa
