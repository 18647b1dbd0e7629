/- An act on both disks: a Write of bytes all alike (kind 1); under 2^30 writes. -/
import Derived.Test.YtaaceaojgbicaaaBoth
namespace Go.Proofs.Ytaaceaojgbicaaa
open Go.ChangeShapes Go.WideShapes Go.Deep Go.RowKit Go.Lib Go.Maps

set_option maxHeartbeats 4000000 in
set_option maxRecDepth 100000 in
theorem act_1 {w W : World} {db rb K : Nat} {s : DS} (h : Both w W db rb s s K K) (hK : K < 1073741823) (n m : Int) (hn : wfI n) (ka : Option Addr) (kl kc : Nat) :
    Calls Try.prog 12 #[.pointer (some ⟨db, 0, none⟩), .pointer (some ⟨rb, 0, none⟩), .agg #[.int .i64 1, .int .i64 n, .int .i64 m, .slice ka kl kc]] W (ActGave w K) := by
  have hal : Below W.heap.size W (W.alloc (.cells #[.int .i64 1, .int .i64 n, .int .i64 m, .slice ka kl kc] 33)) := (Below.refl _ _).alloc (Nat.le_refl _) _
  have H2 := Lib.hid (h.later hal)
  have hw2 : (W.alloc (.cells #[.int .i64 1, .int .i64 n, .int .i64 m, .slice ka kl kc] 33)).heap[W.heap.size]? = some (.cells #[.int .i64 1, .int .i64 n, .int .i64 m, .slice ka kl kc] 33 (0, 0)) := heap_alloc_last _ _
  have HW2 := Lib.hid hw2
  have SECT := Lib.hid (fun W => sector_any m W)
  clear h hal hw2
  go_enter Try.func12, Try.ntmps12
  go_wp2_with fail
  generalize W.alloc (.cells #[.int .i64 1, .int .i64 n, .int .i64 m, .slice ka kl kc] 33) = w2 at *
  generalize W.heap.size = bx at *
  refine (SECT.out w2).mono ?_
  rintro e w4 ⟨g, rfl, -, hg, hb4⟩
  generalize alike m = l at *
  have HB4 := Lib.hid (H2.out.later (hb4.trans ((Below.refl _ _).drew)))
  have HX4 : Hid (w4.drew.heap[bx]? = some (.cells #[.int .i64 1, .int .i64 n, .int .i64 m, .slice ka kl kc] 33 (0, 0))) := Lib.hid (by show w4.heap[bx]? = _; rw [hb4.block bx (heap_lt HW2.out)]; exact HW2.out)
  have HG4 : Hid (w4.drew.heap[g]? = some (.cells (Lib.byteCells l).toArray 5 (0, 0))) := Lib.hid hg
  have c1 := (box33 HX4.out).2.1
  clear hg hb4 H2 HW2 SECT
  go_wp2_with fail
  go_region_held_law (fun w' => w'.cell? ⟨bx, 1, none⟩ = some (.int .i64 n)) (first | exact c1 | exact c5 | exact c7)
    (first
      | (go_at_call 18; refine (both_write HB4.out (by omega) n hn g l.length l HG4.out).mono ?_; rintro e w5 ⟨rfl, hB5, hS5⟩; have HB5 := Lib.hid hB5; have HX5 := Lib.hid (hS5 _ _ _ _ HX4.out (by decide) (by decide)); have HG5 := Lib.hid (hS5 _ _ _ _ HG4.out (by decide) (by decide)); have c5 := (box33 HX5.out).2.1; clear hB5 hS5)
      | (go_at_call 25; refine (both_rwrite HB5.out (by omega) n g l.length l HG5.out).mono ?_; rintro e w7 ⟨rfl, hB7, hS7⟩; have HB7 := Lib.hid hB7; have c7 := (box33 (hS7.cells _ _ _ _ HX5.out (by decide) (by decide))).2.1; clear hB7 hS7))
  all_goals
    go_wp2_with fail
    go_ret3
    exact ⟨db, rb, _, rfl, HB7.out⟩
end Go.Proofs.Ytaaceaojgbicaaa
