/- An act on both disks: the power is cut (kind 6); under 2^30 writes. -/
import Derived.Test.YtaaceaojgbicaaaBoth
namespace Go.Proofs.Ytaaceaojgbicaaa
open Go.ChangeShapes Go.WideShapes Go.Deep Go.RowKit Go.Lib Go.Maps

set_option maxHeartbeats 4000000 in
set_option maxRecDepth 100000 in
theorem act_6 {w W : World} {db rb K : Nat} {s : DS} (h : Both w W db rb s s K K) (hK : K < 1073741823) (n m : Int) (ka : Option Addr) (ks : List Bool) (kc : Nat) (hin : BoolsIn W ka ks) (hks : ks.length ≤ 9223372036854775807) :
    Calls Try.prog 12 #[.pointer (some ⟨db, 0, none⟩), .pointer (some ⟨rb, 0, none⟩), .agg #[.int .i64 6, .int .i64 n, .int .i64 m, .slice ka ks.length kc]] W (ActGave w K) := by
  have hal : Below W.heap.size W (W.alloc (.cells #[.int .i64 6, .int .i64 n, .int .i64 m, .slice ka ks.length kc] 33)) := (Below.refl _ _).alloc (Nat.le_refl _) _
  have H2 := Lib.hid (h.later hal)
  have hw2 : (W.alloc (.cells #[.int .i64 6, .int .i64 n, .int .i64 m, .slice ka ks.length kc] 33)).heap[W.heap.size]? = some (.cells #[.int .i64 6, .int .i64 n, .int .i64 m, .slice ka ks.length kc] 33 (0, 0)) := heap_alloc_last _ _
  have HW2 := Lib.hid hw2
  have HIN := Lib.hid (hin.below' hal)
  clear h hal hw2
  go_enter Try.func12, Try.ntmps12
  go_wp2_with fail
  generalize W.alloc (.cells #[.int .i64 6, .int .i64 n, .int .i64 m, .slice ka ks.length kc] 33) = w2 at *
  generalize W.heap.size = bx at *
  refine (both_cut H2.out (by omega) ka kc ks HIN.out hks).mono ?_
  rintro e w4 ⟨db', rfl, hB4, hb4⟩
  have HX4 : Hid (w4.heap[bx]? = some (.cells #[.int .i64 6, .int .i64 n, .int .i64 m, .slice ka ks.length kc] 33 (0, 0))) := Lib.hid (by rw [hb4.block bx (heap_lt HW2.out)]; exact HW2.out)
  have HIN4 := Lib.hid (HIN.out.below' hb4)
  have HB4 := Lib.hid hB4
  have c1 := (box33 HX4.out).2.2.2
  clear hB4 hb4 H2 HW2 HIN hin
  go_wp2_with fail
  refine (both_rcut HB4.out (by omega) ka kc ks HIN4.out hks).mono ?_
  rintro e w5 ⟨rb', rfl, hB5⟩
  have HB5 := Lib.hid hB5
  clear hB5 HB4
  go_wp2_with fail
  go_ret3
  exact ⟨db', rb', _, rfl, HB5.out.more (by omega) (by omega)⟩
end Go.Proofs.Ytaaceaojgbicaaa
