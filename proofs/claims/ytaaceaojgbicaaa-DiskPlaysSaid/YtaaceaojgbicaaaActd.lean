/- An act on both disks: a Sync (kind 3); under 2^30 writes. -/
import Derived.Test.YtaaceaojgbicaaaBoth
namespace Go.Proofs.Ytaaceaojgbicaaa
open Go.ChangeShapes Go.WideShapes Go.Deep Go.RowKit Go.Lib Go.Maps

set_option maxHeartbeats 4000000 in
set_option maxRecDepth 100000 in
theorem act_3 {w W : World} {db rb K : Nat} {s : DS} (h : Both w W db rb s s K K) (hK : K < 1073741823) (n m : Int) (ka : Option Addr) (kl kc : Nat) :
    Calls Try.prog 12 #[.pointer (some ⟨db, 0, none⟩), .pointer (some ⟨rb, 0, none⟩), .agg #[.int .i64 3, .int .i64 n, .int .i64 m, .slice ka kl kc]] W (ActGave w K) := by
  have hal : Below W.heap.size W (W.alloc (.cells #[.int .i64 3, .int .i64 n, .int .i64 m, .slice ka kl kc] 33)) := (Below.refl _ _).alloc (Nat.le_refl _) _
  have H2 := Lib.hid (h.later hal)
  have hw2 : (W.alloc (.cells #[.int .i64 3, .int .i64 n, .int .i64 m, .slice ka kl kc] 33)).heap[W.heap.size]? = some (.cells #[.int .i64 3, .int .i64 n, .int .i64 m, .slice ka kl kc] 33 (0, 0)) := heap_alloc_last _ _
  have HW2 := Lib.hid hw2
  clear h hal hw2
  go_enter Try.func12, Try.ntmps12
  go_wp2_with fail
  generalize W.alloc (.cells #[.int .i64 3, .int .i64 n, .int .i64 m, .slice ka kl kc] 33) = w2 at *
  generalize W.heap.size = bx at *
  refine (both_sync H2.out (by omega)).mono ?_
  rintro e w4 ⟨rfl, hB4⟩
  have HB4 := Lib.hid hB4
  clear hB4 H2 HW2
  go_wp2_with fail
  refine (both_rsync HB4.out).mono ?_
  rintro e w5 ⟨rfl, hB5⟩
  have HB5 := Lib.hid hB5
  clear hB5 HB4
  generalize s.synced.2 = s' at *
  generalize s.synced.1 = E at *
  go_wp2_with fail
  go_ret3
  exact ⟨db, rb, s', rfl, HB5.out.more (by omega) (by omega)⟩
end Go.Proofs.Ytaaceaojgbicaaa
