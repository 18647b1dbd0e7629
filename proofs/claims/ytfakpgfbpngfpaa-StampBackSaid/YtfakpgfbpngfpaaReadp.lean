/- What the program's Read answers: the key, or none and the error; at most 3000 bytes. -/
import Derived.Test.YtfakpgfbpngfpaaRtime
import Derived.Test.YtfakpgfbpngfpaaWrite
import Derived.Deep.RegionHeldLaw
import Derived.Deep.Cut
import Derived.IntWalk
namespace Go.Proofs.Ytfakpgfbpngfpaa
open Go.ChangeShapes Go.WideShapes Go.Deep Go.RowKit Go.Lib

/-- What all bytes are read as: the space, the name, the time, the error. -/
def keyR (l : List UInt8) : Int × List UInt8 × Nat × Int := match readK l with
  | none => (0, [], 0, 11)
  | some (s, n, t) => ((s : Int), n, t, 0)

theorem keyR_none {l : List UInt8} (h : readK l = none) : keyR l = (0, [], 0, 11) := by unfold keyR; rw [h]
theorem keyR_some {l : List UInt8} {s : Nat} {n : List UInt8} {t : Nat} (h : readK l = some (s, n, t)) : keyR l = ((s : Int), n, t, 0) := by unfold keyR; rw [h]

theorem readK_no {c : UInt8} {b : List UInt8} (h : nameR b = none) : readK (c :: b) = none := by
  unfold nameR at h
  rw [readK]
  cases hq : unesc b with
  | none => rfl
  | some p =>
    obtain ⟨n, r⟩ := p
    rw [hq] at h
    simp only at h
    by_cases hn : n.length ≤ 200
    · rw [if_pos hn] at h; cases h
    · simp only
      rw [if_neg (fun e => hn e.1)]

theorem nameR_yes {b n r : List UInt8} (h : nameR b = some (n, r)) : unesc b = some (n, r) ∧ n.length ≤ 200 := by
  unfold nameR at h
  cases hq : unesc b with
  | none => rw [hq] at h; cases h
  | some p =>
    obtain ⟨n', r'⟩ := p
    rw [hq] at h
    simp only at h
    by_cases hn : n'.length ≤ 200
    · rw [if_pos hn] at h; cases h; exact ⟨rfl, hn⟩
    · rw [if_neg hn] at h; cases h

theorem readK_cut {c : UInt8} {b n r : List UInt8} (h : nameR b = some (n, r)) (hr : r.length ≠ 8) : readK (c :: b) = none := by
  obtain ⟨h1, h2⟩ := nameR_yes h
  rw [readK, h1]
  simp only
  rw [if_neg (fun e => hr e.2)]

theorem readK_yes {c : UInt8} {b n r : List UInt8} (h : nameR b = some (n, r)) (hr : r.length = 8) : readK (c :: b) = some (c.toNat, n, 18446744073709551615 - numL r) := by
  obtain ⟨h1, h2⟩ := nameR_yes h
  rw [readK, h1]
  simp only
  rw [if_pos ⟨h2, hr⟩]

/-- What is answered. -/
def ReadGave (l : List UInt8) (w : World) : Ending → World → Prop := fun e w' => ∃ na ca, e = .returned (.tuple #[.agg #[.int .i64 (keyR l).1, .slice na (keyR l).2.1.length ca, .int .u64 ((keyR l).2.2.1 : Int)], .int .i64 (keyR l).2.2.2]) ∧ BytesIn w' na (keyR l).2.1 ∧ Below w.heap.size w w'

theorem read_no {l : List UInt8} {w w' : World} (h : readK l = none) (hb : Below w.heap.size w w') : ReadGave l w (.returned (.tuple #[.agg #[.int .i64 0, .slice none 0 0, .int .u64 0], .int .i64 11])) w' := by
  unfold ReadGave
  rw [keyR_none h]
  exact ⟨none, 0, rfl, .inl rfl, hb⟩

theorem Boxed.frozen {w W : World} {T : TypeId} {a b c : Value} (h : Boxed w T #[a, b, c] W) : W.frozen? ⟨w.heap.size, 0, none⟩ = false ∧ W.frozen? ⟨w.heap.size, 1, none⟩ = false ∧ W.frozen? ⟨w.heap.size, 2, none⟩ = false :=
  ⟨frozen_of_row W _ 0 #[a, b, c] T h.box, frozen_of_row W _ 1 #[a, b, c] T h.box, frozen_of_row W _ 2 #[a, b, c] T h.box⟩

theorem Boxed.set {w W : World} {T : TypeId} {a b c : Value} (h : Boxed w T #[a, b, c] W) (x y z : Value) : Boxed w T #[x, y, z] (((W.setCell ⟨w.heap.size, 0, none⟩ x).setCell ⟨w.heap.size, 1, none⟩ y).setCell ⟨w.heap.size, 2, none⟩ z) := by
  have h1 := heap_setCell_same W w.heap.size 0 _ T x h.box
  have h2 := heap_setCell_same _ w.heap.size 1 _ T y h1
  have h3 := heap_setCell_same _ w.heap.size 2 _ T z h2
  exact ⟨h3, ((h.below.setCell (p := ⟨w.heap.size, 0, none⟩) (Nat.le_refl _) x).setCell (p := ⟨w.heap.size, 1, none⟩) (Nat.le_refl _) y).setCell (p := ⟨w.heap.size, 2, none⟩) (Nat.le_refl _) z⟩

/-- Old bytes stay through stores to the box. -/
theorem BytesIn.set {W : World} {na : Option Addr} {l : List UInt8} (h : BytesIn W na l) {k : Nat} (hk : ∀ b o, na = some ⟨b, o, none⟩ → b ≠ k) (x y z : Value) : BytesIn (((W.setCell ⟨k, 0, none⟩ x).setCell ⟨k, 1, none⟩ y).setCell ⟨k, 2, none⟩ z) na l := by
  rcases h with h | ⟨b, o, rfl, h⟩
  · exact .inl h
  · have hb := hk b o rfl
    refine .inr ⟨b, o, rfl, fun j hj => ?_⟩
    have hne : ∀ i, (⟨k, i, none⟩ : Addr) ≠ ⟨b, o + j, none⟩ := fun i e => hb (by cases e; rfl)
    rw [World.cell?_setCell_other (h := hne 2), World.cell?_setCell_other (h := hne 1), World.cell?_setCell_other (h := hne 0)]
    exact h j hj

set_option maxHeartbeats 4000000 in
set_option maxRecDepth 100000 in
theorem Read_any (v0 : Value) (l : List UInt8) (w : World) (hs : Sl w v0 l) (hl : l.length ≤ 3000) : Calls Try.prog 12 #[v0] w (ReadGave l w) := by
  have HB := Lib.hid (Boxed.new w 25 #[.int .i64 0, .slice none 0 0, .int .u64 0])
  cases l with
  | nil =>
    obtain ⟨na, cap, rfl, -, -⟩ := hs
    simp only [List.length_nil]
    go_enter Try.func12, Try.ntmps12
    go_upto_region 2 with fail
    generalize w.alloc (.cells #[.int .i64 0, .slice none 0 0, .int .u64 0] 25) = W0 at *
    obtain ⟨a0, a1, a2⟩ := HB.out.cells
    obtain ⟨f0, f1, f2⟩ := HB.out.frozen
    go_wp2_with fail
    have HS := HB.out.set (.int .i64 0) (.slice none 0 0) (.int .u64 0)
    obtain ⟨g0, g1, g2⟩ := HS.cells
    exact bodyPost_ret (v := .tuple #[.agg #[.int .i64 0, .slice none 0 0, .int .u64 0], .int .i64 11]) (by simp [results, Try.results12, go_sem, g0, g1, g2]) rfl (read_no (by rw [readK]) HS.below)
  | cons c b =>
    obtain ⟨b0, o0, cap, rfl, hc0, hlc, hcap, nt, hrun, hsl2⟩ := hs.next
    have NAME := Lib.hid (fun W (h : Below w.heap.size w W) => readName_any _ b W (hsl2.below h) (by simp at hl; omega))
    have HC0 := Lib.hid hc0
    clear hs hsl2 hc0
    go_enter Try.func12, Try.ntmps12
    go_wp2_with fail
    generalize w.alloc (.cells #[.int .i64 0, .slice none 0 0, .int .u64 0] 25) = W0 at *
    go_wp2_with fail
    refine (NAME.out _ HB.out.below).mono ?_
    rintro e w1 ⟨hb1, ⟨hno, rfl⟩ | ⟨n, r, na, ca, v, hyes, rfl, hin1, hfr1, hsl1⟩⟩
    · have HNO := Lib.hid (readK_no (c := c) hno)
      have HB1 := Lib.hid (HB.out.later hb1)
      clear hno hb1
      obtain ⟨a0, a1, a2⟩ := HB1.out.cells
      obtain ⟨f0, f1, f2⟩ := HB1.out.frozen
      go_wp2_with fail
      have HS := HB1.out.set (.int .i64 0) (.slice none 0 0) (.int .u64 0)
      obtain ⟨g0, g1, g2⟩ := HS.cells
      exact bodyPost_ret (v := .tuple #[.agg #[.int .i64 0, .slice none 0 0, .int .u64 0], .int .i64 11]) (by simp [results, Try.results12, go_sem, g0, g1, g2]) rfl (read_no HNO.out HS.below)
    · obtain ⟨nr, cr, rfl, hir, -, -⟩ := hsl1
      have HB1 := Lib.hid (HB.out.later hb1)
      obtain ⟨a0, a1, a2⟩ := HB1.out.cells
      obtain ⟨f0, f1, f2⟩ := HB1.out.frozen
      by_cases h8 : r.length = 8
      · rw [h8]
        have HK := Lib.hid (keyR_some (readK_yes (c := c) hyes h8))
        have TIME := Lib.hid (fun W (h : Below w1.heap.size w1 W) => readTime_any nr cr r W (hir.below h) h8)
        have HIN := Lib.hid hin1
        have HFR := Lib.hid (fun b o e => by have := hfr1 b o e; have := HB.out.lt; omega : ∀ b o, na = some ⟨b, o, none⟩ → b ≠ w.heap.size)
        have c1 := cell_kept2 HB1.out.below HC0.out
        have d1 : w1.drew.cell? ⟨b0, o0, none⟩ = some (.int .u8 (c.toNat : Int)) := c1
        have HD := Lib.hid HB1.out.drew
        obtain ⟨p0, p1, p2⟩ := HD.out.cells
        obtain ⟨q0, q1, q2⟩ := HD.out.frozen
        obtain ⟨T, hT⟩ : ∃ T : Nat, 18446744073709551615 - numL r = T := ⟨_, rfl⟩
        rw [hT] at TIME HK
        have hb0 : ∀ i, (⟨w.heap.size, i, none⟩ : Addr) ≠ ⟨b0, o0, none⟩ := fun i e => by have := World.block_lt_of_cell? w _ HC0.out; cases e; exact Nat.lt_irrefl _ this
        have d2 : (((w1.setCell ⟨w.heap.size, 0, none⟩ (.int .i64 (c.toNat : Int))).setCell ⟨w.heap.size, 1, none⟩ (.slice na n.length ca)).setCell ⟨w.heap.size, 2, none⟩ (.int .u64 (T : Int))).drew.cell? ⟨b0, o0, none⟩ = some (.int .u8 (c.toNat : Int)) := by
          show (((w1.setCell ⟨w.heap.size, 0, none⟩ (.int .i64 (c.toNat : Int))).setCell ⟨w.heap.size, 1, none⟩ (.slice na n.length ca)).setCell ⟨w.heap.size, 2, none⟩ (.int .u64 (T : Int))).cell? ⟨b0, o0, none⟩ = some (.int .u8 (c.toNat : Int))
          rw [World.cell?_setCell_other (h := hb0 2), World.cell?_setCell_other (h := hb0 1), World.cell?_setCell_other (h := hb0 0)]
          exact c1
        have hwc : IntKind.i64.wrap (c.toNat : Int) = (c.toNat : Int) := IntWalk.i64_in _ (by have := c.toNat_lt; omega)
        clear hyes h8 hin1 hfr1 hir hb1 hT hb0
        go_upto_region 6 with fail
        go_region_held_law (fun W => W.cell? ⟨b0, o0, none⟩ = some (.int .u8 (c.toNat : Int)))
          (first | with_reducible exact d1 | with_reducible exact c1 | with_reducible exact d2)
          (first
            | (go_at_call 28; refine (TIME.out _ ((Below.refl _ _).drew)).mono ?_; rintro e w2 ⟨rfl, rfl⟩))
        all_goals
          go_wp2_with fail
          have HS := (HB1.out.set (.int .i64 (c.toNat : Int)) (.slice na n.length ca) (.int .u64 (T : Int))).drew
          obtain ⟨g0, g1, g2⟩ := HS.cells
          refine bodyPost_ret (v := .tuple #[.agg #[.int .i64 (c.toNat : Int), .slice na n.length ca, .int .u64 (T : Int)], .int .i64 0]) (by simp [results, Try.results12, go_sem, g0, g1, g2]) rfl ?_
          unfold ReadGave
          rw [HK.out]
          exact ⟨na, ca, rfl, BytesIn.set (W := w1) HIN.out HFR.out _ _ _, HS.below⟩
      · have e1 : ((r.length : Int) == 8) = false := by rw [beq_eq_false_iff_ne]; omega
        have e2 : ((r.length : Int) != 8) = true := by rw [bne, e1]; rfl
        have HNO := Lib.hid (readK_cut (c := c) hyes h8)
        clear hyes h8 hin1 hfr1 hir hb1
        go_wp2_with fail
        have HS := HB1.out.set (.int .i64 0) (.slice none 0 0) (.int .u64 0)
        obtain ⟨g0, g1, g2⟩ := HS.cells
        exact bodyPost_ret (v := .tuple #[.agg #[.int .i64 0, .slice none 0 0, .int .u64 0], .int .i64 11]) (by simp [results, Try.results12, go_sem, g0, g1, g2]) rfl (read_no HNO.out HS.below)
end Go.Proofs.Ytfakpgfbpngfpaa
