/- Two keys compared, by the program and by the document: what the calls answer; no condition but that lengths fit a machine's. -/
import Derived.Test.YtfakpgfbpngfpaaCmp
import Derived.Test.YtfakpgfbpngfpaaBsame
namespace Go.Proofs.Ytfakpgfbpngfpaa
open Go.ChangeShapes Go.WideShapes Go.Deep Go.RowKit Go.Lib

/-- Two boxes that a call has made; since w nothing older has turned. -/
structure Two (w : World) (T : TypeId) (cs cs' : Array Value) (W : World) : Prop where
  h1 : W.heap[w.heap.size]? = some (.cells cs T (0, 0))
  h2 : W.heap[w.heap.size + 1]? = some (.cells cs' T (0, 0))
  below : Below w.heap.size w W

namespace Two
variable {w W W' : World} {T : TypeId} {cs cs' : Array Value}
theorem new (w : World) (T : TypeId) (cs cs' : Array Value) : Two w T cs cs' ((w.alloc (.cells cs T)).alloc (.cells cs' T)) := by
  refine ⟨?_, ?_, ((Below.refl _ _).alloc (Nat.le_refl _) _).alloc (by simp) _⟩
  · rw [Lib.alloc_old _ _ _ (by simp)]; exact heap_alloc_new w _
  · have := heap_alloc_new (w.alloc (.cells cs T)) (.cells cs' T)
    rw [show (w.alloc (.cells cs T)).heap.size = w.heap.size + 1 by simp] at this
    exact this
theorem later (h : Two w T cs cs' W) (hb : Below W.heap.size W W') : Two w T cs cs' W' := ⟨box_later h.h1 hb, box_later h.h2 hb, h.below.trans (hb.mono h.below.size)⟩
theorem drew (h : Two w T cs cs' W) : Two w T cs cs' W.drew := ⟨h.h1, h.h2, h.below.drew⟩
theorem first {a b c : Value} (h : Two w T #[a, b, c] cs' W) : W.cell? ⟨w.heap.size, 0, none⟩ = some a ∧ W.cell? ⟨w.heap.size, 1, none⟩ = some b ∧ W.cell? ⟨w.heap.size, 2, none⟩ = some c := by
  refine ⟨?_, ?_, ?_⟩ <;> rw [Lib.cell_of_heap h.h1] <;> rfl
theorem second {a b c : Value} (h : Two w T cs #[a, b, c] W) : W.cell? ⟨w.heap.size + 1, 0, none⟩ = some a ∧ W.cell? ⟨w.heap.size + 1, 1, none⟩ = some b ∧ W.cell? ⟨w.heap.size + 1, 2, none⟩ = some c := by
  refine ⟨?_, ?_, ?_⟩ <;> rw [Lib.cell_of_heap h.h2] <;> rfl
end Two

set_option maxHeartbeats 4000000 in
set_option maxRecDepth 100000 in
theorem Compare_any (na nb : Option Addr) (ca cb : Nat) (l l' : List UInt8) (sp sp' : Int) (t t' : Nat) (w : World) (ha : BytesIn w na l) (hb : BytesIn w nb l') :
    Calls Try.prog 15 #[.agg #[.int .i64 sp, .slice na l.length ca, .int .u64 (t : Int)], .agg #[.int .i64 sp', .slice nb l'.length cb, .int .u64 (t' : Int)]] w fun e w' => e = .returned (.int .i64 (cmpK sp l t sp' l' t')) ∧ Below w.heap.size w w' := by
  have HT := Lib.hid (Two.new w 25 #[.int .i64 sp, .slice na l.length ca, .int .u64 (t : Int)] #[.int .i64 sp', .slice nb l'.length cb, .int .u64 (t' : Int)])
  have BYTES := Lib.hid (fun W (h : Below w.heap.size w W) => bytesCompare_any na nb ca cb l l' W (ha.below h) (hb.below h))
  have CI := Lib.hid (fun W => cmpI_any sp sp' W)
  have CU := Lib.hid (fun W => cmpU_any t' t W)
  unfold cmpK
  obtain ⟨x, hx⟩ : ∃ x, compareInt sp sp' = x := ⟨_, rfl⟩
  obtain ⟨y, hy⟩ : ∃ y, compareBytes l l' = y := ⟨_, rfl⟩
  obtain ⟨z, hz⟩ : ∃ z, compareInt (t' : Int) (t : Int) = z := ⟨_, rfl⟩
  simp only [hy] at BYTES
  simp only [hx] at CI
  simp only [hz] at CU
  rw [hx, hy, hz]
  have HO : Hid (orL [x, y, z] = lexI x (lexI y z)) := Lib.hid (by rw [orL, orL, orL, orL, lexI_nil])
  obtain ⟨C, hC⟩ : ∃ C, lexI x (lexI y z) = C := ⟨_, rfl⟩
  rw [hC] at HO ⊢
  clear hx hy hz hC ha hb
  go_enter Try.func15, Try.ntmps15
  go_upto_region 1 with fail
  generalize (w.alloc (.cells #[.int .i64 sp, .slice na l.length ca, .int .u64 (t : Int)] 25)).alloc (.cells #[.int .i64 sp', .slice nb l'.length cb, .int .u64 (t' : Int)] 25) = W0 at *
  have HTD := Lib.hid HT.out.drew
  obtain ⟨a0, a1, a2⟩ := HTD.out.first
  obtain ⟨b0, b1, b2⟩ := HTD.out.second
  have hn : Below W0.heap.size W0 (W0.alloc (.cells #[.int .i64 x, .int .i64 y, .int .i64 z] 3)).drew := ((Below.refl _ _).alloc (Nat.le_refl _) _).drew
  have HTN := Lib.hid (HT.out.later hn)
  obtain ⟨m0, m1, m2⟩ := HTN.out.first
  obtain ⟨n0, n1, n2⟩ := HTN.out.second
  have OR := Lib.hid (or_any W0.heap.size [x, y, z] (W0.alloc (.cells #[.int .i64 x, .int .i64 y, .int .i64 z] 3)).drew rfl (fun j hj => by
    have e : (W0.alloc (.cells #[.int .i64 x, .int .i64 y, .int .i64 z] 3)).drew.cell? ⟨W0.heap.size, j, none⟩ = (W0.alloc (.cells #[.int .i64 x, .int .i64 y, .int .i64 z] 3)).cell? ⟨W0.heap.size, j, none⟩ := rfl
    rw [e, Lib.cell_of_heap (heap_alloc_new W0 _)]
    match j, hj with
    | 0, _ => rfl
    | 1, _ => rfl
    | 2, _ => rfl))
  rw [HO.out] at OR
  clear hn HO
  go_region_held_law (fun W => (W.cell? ⟨w.heap.size, 0, none⟩ = some (.int .i64 sp) ∧ W.cell? ⟨w.heap.size, 1, none⟩ = some (.slice na l.length ca) ∧ W.cell? ⟨w.heap.size, 2, none⟩ = some (.int .u64 (t : Int))) ∧ (W.cell? ⟨w.heap.size + 1, 0, none⟩ = some (.int .i64 sp') ∧ W.cell? ⟨w.heap.size + 1, 1, none⟩ = some (.slice nb l'.length cb) ∧ W.cell? ⟨w.heap.size + 1, 2, none⟩ = some (.int .u64 (t' : Int))))
    (first | (with_reducible exact ⟨⟨a0, a1, a2⟩, ⟨b0, b1, b2⟩⟩) | (with_reducible exact ⟨⟨m0, m1, m2⟩, ⟨n0, n1, n2⟩⟩))
    (first
      | (go_at_call 30; (with_reducible refine (CI.out _).mono ?_); rintro e w1 ⟨rfl, rfl⟩)
      | (go_at_call 31; (with_reducible refine (BYTES.out _ HTD.out.below).mono ?_); rintro e w1 ⟨rfl, rfl⟩)
      | (go_at_call 32; (with_reducible refine (CU.out _).mono ?_); rintro e w1 ⟨rfl, rfl⟩)
      | (go_at_call 29; (with_reducible refine (OR.out).mono ?_); rintro e w1 ⟨rfl, rfl⟩))
  all_goals
    go_wp2_with fail
    go_ret
    exact ⟨rfl, HTN.out.below⟩
end Go.Proofs.Ytfakpgfbpngfpaa
