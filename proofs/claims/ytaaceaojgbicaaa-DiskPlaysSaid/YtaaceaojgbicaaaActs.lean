/- Acts: how many acts were done, of a disk that lies there; no condition. -/
import Derived.Test.YtaaceaojgbicaaaSims
import Derived.Test.YtaaceaojgbicaaaNils
namespace Go.Proofs.Ytaaceaojgbicaaa
open Go.ChangeShapes Go.WideShapes Go.Deep Go.RowKit Go.Lib Go.Maps

theorem hi36 : (Try.prog.info? 36).map (·.size) = some 3 := by kernel_rfl
theorem below_setRow {B : Nat} {w w' : World} (h : Below B w w') {g : Nat} (hg : B ≤ g) (cs : Array Value) : Below B w (w'.setRow g cs) :=
  h.trans ⟨rfl, rfl, rfl, by simp [World.setRow], fun k hk => by
    simp only [World.setRow, Array.getElem?_modify]
    rw [if_neg (by omega)]⟩

theorem load_still {w : World} {b i : Nat} {x : Int} (hc : w.cell? ⟨b, i, none⟩ = some (.int .i64 x)) :
    Calls Try.prog 29 #[.pointer (some ⟨b, i, none⟩)] w fun e w' => e = .returned (.int .i64 x) ∧ w' = w :=
  (loadAt_any hc).mono fun _ _ ⟨h1, h2⟩ => ⟨h1, h2.symm⟩

set_option maxHeartbeats 4000000 in
set_option maxRecDepth 100000 in
theorem acts_any {a : DA} {s : DS} {w : World} (h : DiskAt w a s) : Calls Try.prog 17 #[ptr a] w fun e w' => e = .returned (.agg #[.int .i64 s.r, .int .i64 s.w, .int .i64 s.s]) ∧ Below w.heap.size w w' := by
  have hal : Below w.heap.size w (w.alloc (.cells #[.int .i64 0, .int .i64 0, .int .i64 0] 36)) := (Below.refl _ _).alloc (Nat.le_refl _) _
  have H2 := Lib.hid (h.below hal)
  have hw2 : (w.alloc (.cells #[.int .i64 0, .int .i64 0, .int .i64 0] 36)).heap[w.heap.size]? = some (.cells #[.int .i64 0, .int .i64 0, .int .i64 0] 36 (0, 0)) := heap_alloc_last _ _
  have HW2 := Lib.hid hw2
  have HAL := Lib.hid hal
  clear h hal hw2
  unfold ptr
  go_enter Try.func17, Try.ntmps17
  go_wp2_with fail
  generalize w.alloc (.cells #[.int .i64 0, .int .i64 0, .int .i64 0] 36) = w2 at *
  refine wp_region_still_tail 13 (by kernel_rfl) (by kernel_rfl) ?_
  have H3 := Lib.hid H2.out.drew
  have L7 := Lib.hid (load_still H3.out.cells.2.2.2.2.2.2.2.1)
  have L8 := Lib.hid (load_still H3.out.cells.2.2.2.2.2.2.2.2.1)
  have L9 := Lib.hid (load_still H3.out.cells.2.2.2.2.2.2.2.2.2)
  change wpStill _ _ w2.drew (fun a' => wpList _ _ _ _ a' w2.drew) _ _
  have HW3 : Hid (w2.drew.heap[w.heap.size]? = some (.cells #[.int .i64 0, .int .i64 0, .int .i64 0] 36 (0, 0))) := Lib.hid HW2.out
  have HAL3 := Lib.hid HAL.out.drew
  generalize w2.drew = w3 at *
  simp only [List.take_succ_cons, List.take_zero, List.drop_succ_cons, List.drop_zero]
  still_step
  still_step
  still_step
  still_call L7.out
  still_step
  still_step
  still_step
  still_call L8.out
  still_step
  still_step
  still_step
  still_call L9.out
  still_step
  refine wpStill_nil ?_
  go_wp2_with (refine wpList_store_row rfl 36 (.tmp 2) (.tmp 18) rfl w.heap.size #[.int .i64 s.r, .int .i64 s.w, .int .i64 s.s] rfl rfl 36 #[.int .i64 0, .int .i64 0, .int .i64 0] HW3.out hi36 rfl (by simp [Value.oneCell']) ?_)
  refine bodyPost_ret (v := .agg #[.int .i64 s.r, .int .i64 s.w, .int .i64 s.s]) ?_ rfl ⟨rfl, below_setRow HAL3.out (Nat.le_refl _) _⟩
  rw [results_cell results17]
  have hld := run_loadVar_row (P := Try.prog) (w3.setRow w.heap.size #[.int .i64 s.r, .int .i64 s.w, .int .i64 s.s]) w.heap.size 36 36 #[.int .i64 s.r, .int .i64 s.w, .int .i64 s.s] (0, 0) _ (setRow_heap _ _ _ _ _ _ HW3.out) Try.underlying36 rfl hi36
  exact load_cell _ rfl hld
end Go.Proofs.Ytaaceaojgbicaaa
