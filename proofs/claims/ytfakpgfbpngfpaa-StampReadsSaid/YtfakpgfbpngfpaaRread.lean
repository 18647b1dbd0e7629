/- What the document's Read answers: the key, or none and the error; at most 3000 bytes. -/
import Derived.Test.YtfakpgfbpngfpaaReadp
import Derived.Test.YtfakpgfbpngfpaaStep
import Derived.Deep.RegionLaw
namespace Go.Proofs.Ytfakpgfbpngfpaa
open Go.ChangeShapes Go.WideShapes Go.Deep Go.RowKit Go.Lib

/-- The two boxes, and the name's row behind them. -/
structure KBox (w : World) (sp : Int) (v : Value) (N : List UInt8) (W : World) : Prop where
  zero : W.heap[w.heap.size]? = some (.cells #[.int .i64 0, .slice none 0 0, .int .u64 0] 31 (0, 0))
  box : W.heap[w.heap.size + 1]? = some (.cells #[.int .i64 sp, v, .int .u64 0] 31 (0, 0))
  own : W.ownsRow (w.heap.size + 2) 5 1 v N.length (Lib.byteCells N)
  below : Below w.heap.size w W

namespace KBox
variable {w W W' : World} {sp : Int} {v v' : Value} {N N' : List UInt8}

theorem new (w : World) : KBox w 0 (.slice none 0 0) [] ((w.alloc (.cells #[.int .i64 0, .slice none 0 0, .int .u64 0] 31)).alloc (.cells #[.int .i64 0, .slice none 0 0, .int .u64 0] 31)) := by
  refine ⟨?_, ?_, World.ownsRow_nil _ _ _ _, ((Below.refl _ _).alloc (Nat.le_refl _) _).alloc (by simp) _⟩
  · rw [Lib.alloc_old _ _ _ (by simp)]; exact heap_alloc_new w _
  · have := heap_alloc_new (w.alloc (.cells #[.int .i64 0, .slice none 0 0, .int .u64 0] 31)) (.cells #[.int .i64 0, .slice none 0 0, .int .u64 0] 31)
    rw [show (w.alloc (.cells #[.int .i64 0, .slice none 0 0, .int .u64 0] 31)).heap.size = w.heap.size + 1 by simp] at this
    exact this

theorem cells (h : KBox w sp v N W) : W.cell? ⟨w.heap.size + 1, 0, none⟩ = some (.int .i64 sp) ∧ W.cell? ⟨w.heap.size + 1, 1, none⟩ = some v ∧ W.cell? ⟨w.heap.size + 1, 2, none⟩ = some (.int .u64 0) := by
  refine ⟨?_, ?_, ?_⟩ <;> rw [Lib.cell_of_heap h.box] <;> rfl
theorem frozen (h : KBox w sp v N W) : W.frozen? ⟨w.heap.size + 1, 0, none⟩ = false ∧ W.frozen? ⟨w.heap.size + 1, 1, none⟩ = false ∧ W.frozen? ⟨w.heap.size + 1, 2, none⟩ = false :=
  ⟨frozen_of_row W _ 0 _ 31 h.box, frozen_of_row W _ 1 _ 31 h.box, frozen_of_row W _ 2 _ 31 h.box⟩
theorem boxed (h : KBox w sp v N W) : Boxed w 31 #[.int .i64 0, .slice none 0 0, .int .u64 0] W := ⟨h.zero, h.below⟩
theorem lt (h : KBox w sp v N W) : w.heap.size + 2 ≤ W.heap.size := by
  rcases Nat.lt_or_ge (w.heap.size + 1) W.heap.size with h' | h'
  · omega
  · have := h.box; simp [Array.getElem?_eq_none h'] at this
theorem drew (h : KBox w sp v N W) : KBox w sp v N W.drew := ⟨h.zero, h.box, h.own, h.below.drew⟩
theorem took (h : KBox w sp v N W) (hT : Took (w.heap.size + 2) v' N' W W') : W'.heap[w.heap.size]? = some (.cells #[.int .i64 0, .slice none 0 0, .int .u64 0] 31 (0, 0)) ∧ W'.heap[w.heap.size + 1]? = some (.cells #[.int .i64 sp, v, .int .u64 0] 31 (0, 0)) ∧ Below w.heap.size w W' :=
  ⟨by rw [hT.below.block _ (by omega)]; exact h.zero, by rw [hT.below.block _ (by omega)]; exact h.box, h.below.trans (hT.below.mono (by omega))⟩
/-- The name stored. -/
theorem name (h : KBox w sp v N W) (hT : Took (w.heap.size + 2) v' N' W W') : KBox w sp v' N' (W'.setCell ⟨w.heap.size + 1, 1, none⟩ v') := by
  obtain ⟨h1, h2, h3⟩ := h.took hT
  refine ⟨?_, ?_, ownsRow_setCell_below hT.own (by simp) v', h3.setCell (p := ⟨w.heap.size + 1, 1, none⟩) (Nat.le_succ _) v'⟩
  · rw [heap_setCell_other _ _ _ _ (by simp)]; exact h1
  · exact heap_setCell_same W' (w.heap.size + 1) 1 _ 31 v' h2
/-- The space stored. -/
theorem space (h : KBox w sp v N W) (x : Int) : KBox w x v N (W.setCell ⟨w.heap.size + 1, 0, none⟩ (.int .i64 x)) := by
  refine ⟨?_, ?_, ownsRow_setCell_below h.own (by simp) _, h.below.setCell (p := ⟨w.heap.size + 1, 0, none⟩) (Nat.le_succ _) _⟩
  · rw [heap_setCell_other _ _ _ _ (by simp)]; exact h.zero
  · exact heap_setCell_same W (w.heap.size + 1) 0 _ 31 _ h.box
end KBox
/-- The time stored. -/
theorem KBox.time {w W : World} {sp : Int} {v : Value} {N : List UInt8} (h : KBox w sp v N W) (x : Int) : (W.setCell ⟨w.heap.size + 1, 2, none⟩ (.int .u64 x)).heap[w.heap.size + 1]? = some (.cells #[.int .i64 sp, v, .int .u64 x] 31 (0, 0)) ∧
    Boxed w 31 #[.int .i64 0, .slice none 0 0, .int .u64 0] (W.setCell ⟨w.heap.size + 1, 2, none⟩ (.int .u64 x)) ∧ (W.setCell ⟨w.heap.size + 1, 2, none⟩ (.int .u64 x)).ownsRow (w.heap.size + 2) 5 1 v N.length (Lib.byteCells N) := by
  refine ⟨heap_setCell_same W (w.heap.size + 1) 2 _ 31 _ h.box, ⟨?_, h.below.setCell (p := ⟨w.heap.size + 1, 2, none⟩) (Nat.le_succ _) _⟩, ownsRow_setCell_below h.own (by simp) _⟩
  rw [heap_setCell_other _ _ _ _ (by simp)]; exact h.zero

theorem KBox.timed {w W : World} {sp : Int} {v : Value} {N : List UInt8} (h : KBox w sp v N W) (x : Int) : (W.setCell ⟨w.heap.size + 1, 2, none⟩ (.int .u64 x)).cell? ⟨w.heap.size + 1, 0, none⟩ = some (.int .i64 sp) ∧ (W.setCell ⟨w.heap.size + 1, 2, none⟩ (.int .u64 x)).cell? ⟨w.heap.size + 1, 1, none⟩ = some v ∧ (W.setCell ⟨w.heap.size + 1, 2, none⟩ (.int .u64 x)).cell? ⟨w.heap.size + 1, 2, none⟩ = some (.int .u64 x) := by
  obtain ⟨k1, -, -⟩ := h.time x
  refine ⟨?_, ?_, ?_⟩ <;> rw [Lib.cell_of_heap k1] <;> rfl

theorem map_nil (x : Option (List UInt8 × List UInt8)) : x = x.map (fun p => ([] ++ p.1, p.2)) := by cases x <;> rfl

set_option maxHeartbeats 4000000 in
set_option maxRecDepth 100000 in
theorem rRead_any (v0 : Value) (l : List UInt8) (w : World) (hs : Sl w v0 l) (hl : l.length ≤ 3000) : Calls Try.prog 13 #[v0] w (ReadGave l w) := by
  have HB := Lib.hid (KBox.new w)
  obtain ⟨na, cap, rfl, hin, hlc, hcap⟩ := hs
  by_cases hl0 : l = []
  · subst hl0
    simp only [List.length_nil]
    clear hin
    go_enter Try.func13, Try.ntmps13
    go_upto_region 3 with fail
    generalize (w.alloc (.cells #[.int .i64 0, .slice none 0 0, .int .u64 0] 31)).alloc (.cells #[.int .i64 0, .slice none 0 0, .int .u64 0] 31) = W0 at *
    obtain ⟨a0, a1, a2⟩ := HB.out.cells
    obtain ⟨b0, b1, b2⟩ := HB.out.boxed.cells
    obtain ⟨f0, f1, f2⟩ := HB.out.boxed.frozen
    go_wp2_with fail
    have HS := HB.out.boxed.set (.int .i64 0) (.slice none 0 0) (.int .u64 0)
    obtain ⟨g0, g1, g2⟩ := HS.cells
    exact bodyPost_ret (v := .tuple #[.agg #[.int .i64 0, .slice none 0 0, .int .u64 0], .int .i64 11]) (by simp [results, Try.results13, go_sem, g0, g1, g2]) rfl (read_no (by rw [readK]) HS.below)
  obtain ⟨b, o, rfl, hat⟩ := hin.resolve_left hl0
  obtain ⟨c0, q, hlq⟩ : ∃ c q, l = c :: q := by
    cases l with
    | nil => exact absurd rfl hl0
    | cons c q => exact ⟨c, q, rfl⟩
  have hpos : 0 < l.length := by rw [hlq]; simp
  have HAT := Lib.hid hat
  have HLQ := Lib.hid hlq
  have hc00 : w.cell? ⟨b, o, none⟩ = some (.int .u8 (c0.toNat : Int)) := by
    have := hat 0 hpos
    simp only [hlq, List.getElem_cons_zero, Nat.add_zero] at this
    exact this
  have HC00 := Lib.hid hc00
  have f1 : ((l.length : Int) == 0) = false := by rw [beq_eq_false_iff_ne]; omega
  clear hin hat hlq hl0 hc00
  go_enter Try.func13, Try.ntmps13
  go_upto_region 4 with fail
  generalize (w.alloc (.cells #[.int .i64 0, .slice none 0 0, .int .u64 0] 31)).alloc (.cells #[.int .i64 0, .slice none 0 0, .int .u64 0] 31) = W0 at *
  obtain ⟨a0, a1, a2⟩ := HB.out.cells
  obtain ⟨p0, p1, p2⟩ := HB.out.frozen
  have hc1 := cell_kept2 HB.out.below HC00.out
  have hwc : IntKind.i64.wrap (c0.toNat : Int) = (c0.toNat : Int) := IntWalk.i64_in _ (by have := c0.toNat_lt; omega)
  have HB1 := Lib.hid (HB.out.space (c0.toNat : Int))
  go_wp2_with fail
  clear a0 a1 a2 p0 p1 p2 hc1
  generalize W0.setCell ⟨w.heap.size + 1, 0, none⟩ (.int .i64 (c0.toNat : Int)) = W1 at *
  go_loopg [5] l.length (fun g x wr => ∃ (a : Nat) (v : Value) (N : List UInt8), a + g = l.length + 1 ∧ 1 ≤ a ∧ x = .int .i64 (a : Int) ∧ KBox w (c0.toNat : Int) v N wr ∧ N.length ≤ 201 ∧ unesc q = (unesc (l.drop a)).map (fun p => (N ++ p.1, p.2)))
  case atStart => exact ⟨1, _, [], by omega, by omega, rfl, HB1.out, by simp, by rw [HLQ.out]; exact map_nil _⟩
  case round =>
    obtain ⟨a, v, N, hg, ha1, rfl, hk, hN, hun⟩ := hrel
    obtain ⟨nb, cb, rfl⟩ := bytesRow_slice hk.own
    obtain ⟨a0, a1, a2⟩ := hk.cells
    obtain ⟨b0, b1, b2⟩ := hk.boxed.cells
    obtain ⟨f0, f1', f2⟩ := hk.boxed.frozen
    obtain ⟨p0, p1, p2⟩ := hk.frozen
    have HK := Lib.hid hk
    have HUN := Lib.hid hun
    have HG := Lib.hid hg
    have ha3 : (a : Int) ≤ 3001 := by omega
    clear hk hun hg
    by_cases hshort : l.length ≤ a + 1
    · have HR := Lib.hid (readK_no (c := c0) (nameR_none (HUN.out.trans (by rw [unesc_short (by rw [List.length_drop]; omega)]; rfl))))
      have t1 : (l.length : Int) ≤ (a : Int) + 1 := by omega
      clear hshort
      go_wp2_with fail
      have HS := HK.out.boxed.set (.int .i64 0) (.slice none 0 0) (.int .u64 0)
      obtain ⟨g0, g1, g2⟩ := HS.cells
      exact bodyPost_ret (v := .tuple #[.agg #[.int .i64 0, .slice none 0 0, .int .u64 0], .int .i64 11]) (by simp [results, Try.results13, go_sem, g0, g1, g2]) rfl (read_no (by rw [HLQ.out]; exact HR.out) HS.below)
    · have t1 : ¬ (l.length : Int) ≤ (a : Int) + 1 := by omega
      have t1' : (a : Int) + 1 < (l.length : Int) := by omega
      have ha : a < l.length := by omega
      have ha2 : a + 1 < l.length := by omega
      by_cases hN2 : N.length ≤ 200
      · have t2 : (N.length : Int) ≤ 200 := by omega
        have hc := cell_kept2 HK.out.below (HAT.out a ha)
        have hd := cell_kept2 HK.out.below (HAT.out (a + 1) ha2)
        have hdrop1 : l.drop (a + 1) = l[a + 1] :: l.drop (a + 2) := List.drop_eq_getElem_cons ha2
        have hdrop : l.drop a = l[a] :: l[a + 1] :: l.drop (a + 2) := by rw [List.drop_eq_getElem_cons ha, List.drop_eq_getElem_cons ha2]
        obtain ⟨c, hcc⟩ : ∃ c, l[a] = c := ⟨_, rfl⟩
        obtain ⟨d, hdd⟩ : ∃ d, l[a + 1] = d := ⟨_, rfl⟩
        rw [hcc] at hc hdrop
        rw [hdd] at hd hdrop hdrop1
        have HD := Lib.hid hdrop
        have HD1 := Lib.hid hdrop1
        clear hcc hdd hdrop hdrop1 hshort
        by_cases hz : c = 0
        · subst hz
          have hcz : wr.cell? ⟨b, o + a, none⟩ = some (.int .u8 0) := hc
          clear hc
          by_cases hd1 : d = 0
          · subst hd1
            have hdz : wr.cell? ⟨b, o + (a + 1), none⟩ = some (.int .u8 0) := hd
            have HR := Lib.hid (nameR_some (n := N) (r := l.drop (a + 2)) (HUN.out.trans (by rw [HD.out, unesc_end]; simp)) hN2)
            clear hd
            have t5 : (N.length : Int) ≤ 200 := t2
            by_cases h10 : l.length = a + 10
            · have e10 : ((l.length : Int) != (a : Int) + 10) = false := by rw [bne_eq_false_iff_eq]; omega
              have h8 : (l.drop (a + 2)).length = 8 := by rw [List.length_drop]; omega
              have hcell : ∀ j, j < 8 → ∃ x : UInt8, (l.drop (a + 2))[j]? = some x ∧ wr.cell? ⟨b, o + (a + 2 + j), none⟩ = some (.int .u8 (x.toNat : Int)) := fun j hj =>
                ⟨l[a + 2 + j]'(by omega), by rw [List.getElem?_drop, List.getElem?_eq_getElem (by omega)], cell_kept2 HK.out.below (HAT.out (a + 2 + j) (by omega))⟩
              have HKR := Lib.hid (keyR_some (readK_yes (c := c0) HR.out h8))
              have h10' : (l.length : Int) = (a : Int) + 10 := by omega
              have H10 := Lib.hid h10'
              obtain ⟨r, hr⟩ : ∃ r, l.drop (a + 2) = r := ⟨_, rfl⟩
              simp only [hr] at hcell h8
              rw [hr] at HKR
              have HCELL := Lib.hid hcell
              have H8 := Lib.hid h8
              clear h10 h10' hr hcell h8
              go_wp2_with fail
              go_loopg [6, 7] 8 (fun g x i w2 => w2 = wr ∧ ∃ j : Nat, j + g = 8 ∧ i = .int .i64 ((a : Int) + 2 + (j : Int)) ∧ x = .int .u64 (numL (r.take j) : Int))
              case atStart => exact ⟨rfl, 0, by omega, by simp, by simp [numL]⟩
              case round =>
                obtain ⟨rfl, j, hj, rfl, rfl⟩ := hrel
                have h10 := H10.out
                by_cases hj8 : j < 8
                · obtain ⟨x, hx, hcx⟩ := HCELL.out j hj8
                  have hn : numL (r.take (j + 1)) = numL (r.take j) * 256 + x.toNat := by
                    obtain ⟨hlt, hx'⟩ := List.getElem?_eq_some_iff.1 hx
                    rw [numL_take hlt, hx']
                  have hlt := numL_take_lt (l := r) hj8
                  obtain ⟨y, hy⟩ : ∃ y, numL (r.take j) = y := ⟨_, rfl⟩
                  rw [hy] at hn hlt ⊢
                  have HN := Lib.hid hn
                  have HLT := Lib.hid hlt
                  have HC := Lib.hid x.toNat_lt
                  have HJ := Lib.hid hj
                  have t6 : (a : Int) + 2 + (j : Int) < (l.length : Int) := by omega
                  have t7 : ((a : Int) + 2 + (j : Int)).toNat = a + 2 + j := by omega
                  clear hn hlt hy hj hx h10
                  go_wp2_with fail
                  go_roundg (gk - 1)
                  case measure => have := HJ.out; omega
                  case rel =>
                    refine ⟨rfl, j + 1, by have := HJ.out; omega, by go_num, ?_⟩
                    rw [HN.out]
                    have h1 := HLT.out
                    have h2 := HC.out
                    congr 1
                    show (((y : Int) * 256) % 18446744073709551616 + (x.toNat : Int) % 18446744073709551616) % 18446744073709551616 = _
                    omega
                · obtain rfl : j = 8 := by omega
                  rw [List.take_of_length_le (by have := H8.out; omega)]
                  have hlt : numL r < 18446744073709551616 := numL_lt 8 r H8.out
                  obtain ⟨y, hy⟩ : ∃ y, numL r = y := ⟨_, rfl⟩
                  rw [hy] at hlt HKR ⊢
                  have t6 : ¬ (a : Int) + 2 + ((8 : Nat) : Int) < (l.length : Int) := by omega
                  have t8 : ¬ (a : Int) + 2 + 8 < (l.length : Int) := by omega
                  obtain ⟨T, hT⟩ : ∃ T : Nat, 18446744073709551615 - y = T := ⟨_, rfl⟩
                  have hi : (18446744073709551615 : Int) - (y : Int) = (T : Int) := by omega
                  have hT2 : (T : Int) ≤ 18446744073709551615 := by omega
                  rw [hT] at HKR
                  obtain ⟨k1, k2, k3⟩ := HK.out.time (T : Int)
                  obtain ⟨x0, x1, x2⟩ := HK.out.timed (T : Int)
                  obtain ⟨y0, y1, y2⟩ := k2.cells
                  obtain ⟨z0, z1, z2⟩ := k2.frozen
                  have HIN := Lib.hid (BytesIn.of k3)
                  have HFR : Hid (∀ b o, nb = some ⟨b, o, none⟩ → b ≠ w.heap.size) := Lib.hid fun b o e => by
                    have := (k3.lt b (by rw [e]; rfl)).1
                    omega
                  have HS2 := Lib.hid (k2.set (.int .i64 (c0.toNat : Int)) (.slice nb N.length cb) (.int .u64 (T : Int)))
                  clear hlt hy hj h10 hT k1 k2 k3
                  go_wp2_with fail
                  obtain ⟨g0, g1, g2⟩ := HS2.out.cells
                  refine bodyPost_ret (v := .tuple #[.agg #[.int .i64 (c0.toNat : Int), .slice nb N.length cb, .int .u64 (T : Int)], .int .i64 0]) (by simp [results, Try.results13, go_sem, g0, g1, g2]) rfl ?_
                  unfold ReadGave
                  rw [HLQ.out, HKR.out]
                  exact ⟨nb, cb, rfl, BytesIn.set HIN.out HFR.out _ _ _, HS2.out.below⟩
            · have e10 : ((l.length : Int) != (a : Int) + 10) = true := by rw [bne_iff_ne]; omega
              have HNO := Lib.hid (readK_cut (c := c0) HR.out (by rw [List.length_drop]; omega))
              clear h10
              go_wp2_with fail
              have HS := HK.out.boxed.set (.int .i64 0) (.slice none 0 0) (.int .u64 0)
              obtain ⟨g0, g1, g2⟩ := HS.cells
              exact bodyPost_ret (v := .tuple #[.agg #[.int .i64 0, .slice none 0 0, .int .u64 0], .int .i64 11]) (by simp [results, Try.results13, go_sem, g0, g1, g2]) rfl (read_no (by rw [HLQ.out]; exact HNO.out) HS.below)
          · by_cases hd2 : d = 255
            · subst hd2
              have hdz : wr.cell? ⟨b, o + (a + 1), none⟩ = some (.int .u8 255) := hd
              have HU2 := Lib.hid (HUN.out.trans (by rw [HD.out, unesc_zero, map_snoc]))
              clear hd hd1
              have hB := HK.out.lt
              go_wp2_with (at_builtin; refine wpList_lit rfl _ _ rfl (Took.refl HK.out.own) hB rfl [0] _ 1 rfl rfl rfl (by simp; omega) ?_)
              intro nc cc W2 hW2
              have HW2 := Lib.hid hW2
              obtain ⟨z1, z2, z3⟩ := HK.out.took hW2
              have q1 : W2.cell? ⟨w.heap.size + 1, 1, none⟩ = some (.slice nb N.length cb) := by rw [Lib.cell_of_heap z2]; rfl
              have q2 : W2.frozen? ⟨w.heap.size + 1, 1, none⟩ = false := frozen_of_row W2 _ 1 _ 31 z2
              have HK2 := Lib.hid (HK.out.name hW2)
              clear hW2 z1 z2 z3
              go_wp2_with fail
              go_roundg (gk - 2)
              case measure => have := HG.out; omega
              case rel => exact ⟨a + 2, _, _, by have := HG.out; omega, by omega, by go_num, HK2.out, by simp; omega, HU2.out⟩
            · have e1 : ((d.toNat : Int) == 0) = false := by rw [beq_eq_false_iff_ne]; have := zero_byte hd1; omega
              have e2 : ((d.toNat : Int) == 255) = false := by rw [beq_eq_false_iff_ne]; intro e; exact hd2 (UInt8.toNat_inj.1 (by rw [show (255 : UInt8).toNat = 255 from rfl]; omega))
              have e4 : ((d.toNat : Int) != 255) = true := by rw [bne, e2]; rfl
              have HR := Lib.hid (readK_no (c := c0) (nameR_none (HUN.out.trans (by rw [HD.out, unesc_bad hd1 hd2]; rfl))))
              clear hd1 hd2
              go_wp2_with fail
              have HS := HK.out.boxed.set (.int .i64 0) (.slice none 0 0) (.int .u64 0)
              obtain ⟨g0, g1, g2⟩ := HS.cells
              exact bodyPost_ret (v := .tuple #[.agg #[.int .i64 0, .slice none 0 0, .int .u64 0], .int .i64 11]) (by simp [results, Try.results13, go_sem, g0, g1, g2]) rfl (read_no (by rw [HLQ.out]; exact HR.out) HS.below)
        · have e1 : ((c.toNat : Int) == 0) = false := by rw [beq_eq_false_iff_ne]; have := zero_byte hz; omega
          have e3 : ((c.toNat : Int) != 0) = true := by rw [bne, e1]; rfl
          have HU2 := Lib.hid (HUN.out.trans (by rw [HD.out, unesc_byte hz, map_snoc]))
          have d1 : wr.drew.cell? ⟨b, o + a, none⟩ = some (.int .u8 (c.toNat : Int)) := hc
          have HCD := Lib.hid (HAT.out a ha)
          have hB := HK.out.lt
          have HKD := Lib.hid HK.out.drew
          obtain ⟨m0, m1, m2⟩ := HKD.out.cells
          clear hz
          have hne : (⟨w.heap.size + 1, 1, none⟩ : Addr) ≠ ⟨b, o + a, none⟩ := fun e => by have h1 := World.block_lt_of_cell? w _ HCD.out; have h2 := congrArg Addr.block e; simp at h1 h2; omega
          have HLTB : Hid ((⟨b, o + a, none⟩ : Addr).block < w.heap.size + 2) := Lib.hid (Nat.lt_of_lt_of_le (World.block_lt_of_cell? w _ HCD.out) (Nat.le_add_right _ _))
          have x0 : (wr.alloc (.cells #[.int .u8 (c.toNat : Int)] 5)).drew.cell? ⟨b, o + a, none⟩ = some (.int .u8 (c.toNat : Int)) := cell_kept2 (((Below.refl _ wr).alloc (Nat.le_refl _) _).drew) hc
          have n1 : (wr.alloc (.cells #[.int .u8 (c.toNat : Int)] 5)).drew.cell? ⟨w.heap.size + 1, 1, none⟩ = some (.slice nb N.length cb) := cell_kept2 (((Below.refl _ wr).alloc (Nat.le_refl _) _).drew) a1
          have HLIT : Hid (∀ j u, (Lib.byteCells [c])[j]? = some u → (wr.alloc (.cells #[.int .u8 (c.toNat : Int)] 5)).drew.cell? ((⟨wr.heap.size, 0, none⟩ : Addr).add j) = some u) := Lib.hid (World.news_of_block (heap_alloc_new wr _))
          have HTK : Hid (Took (w.heap.size + 2) (.slice nb N.length cb) N wr (wr.alloc (.cells #[.int .u8 (c.toNat : Int)] 5)).drew) := Lib.hid (by
            have h := (Took.refl HK.out.own).alloc hB (.cells #[.int .u8 (c.toNat : Int)] 5)
            exact ⟨h.own, h.below.drew, h.kept⟩)
          have HSZ : Hid (w.heap.size + 2 ≤ (wr.alloc (.cells #[.int .u8 (c.toNat : Int)] 5)).drew.heap.size) := Lib.hid (by show _ ≤ (wr.alloc (.cells #[.int .u8 (c.toNat : Int)] 5)).heap.size; simp; omega)
          go_upto_region 9 with fail
          go_region_law
            (first
              | (refine step_app rfl _ _ rfl HTK.out HSZ.out rfl [c] ⟨wr.heap.size, 0, none⟩ 1 1 rfl rfl (by decide) HLIT.out (by simp; omega) ?_; intro nd cd w3 hT; have x1 : w3.cell? ⟨b, o + a, none⟩ = some (.int .u8 (c.toNat : Int)) := (hT.below.cell (p := ⟨b, o + a, none⟩) HLTB.out).trans hc; obtain ⟨v1, v2, v3⟩ := HK.out.took hT; have q1 : w3.cell? ⟨w.heap.size + 1, 1, none⟩ = some (.slice nb N.length cb) := (by rw [Lib.cell_of_heap v2]; rfl); have q2 : w3.frozen? ⟨w.heap.size + 1, 1, none⟩ = false := frozen_of_row w3 _ 1 _ 31 v2; have HK3 := Lib.hid (HK.out.name hT); clear hT v1 v2 v3))
          all_goals
            go_wp2_with fail
            go_roundg (gk - 1)
            case measure => have := HG.out; omega
            case rel => exact ⟨a + 1, _, N ++ [c], by have := HG.out; omega, by omega, by go_num, by have := HK3.out; simpa only [List.length_append, List.length_cons, List.length_nil, Nat.zero_add] using this, by simp; omega, by rw [HD1.out]; exact HU2.out⟩
      · have t2 : (200 : Int) < (N.length : Int) := by omega
        have HR := Lib.hid (readK_no (c := c0) (nameR_long HUN.out (by omega)))
        clear hN2 hshort
        go_wp2_with fail
        have HS := HK.out.boxed.set (.int .i64 0) (.slice none 0 0) (.int .u64 0)
        obtain ⟨g0, g1, g2⟩ := HS.cells
        exact bodyPost_ret (v := .tuple #[.agg #[.int .i64 0, .slice none 0 0, .int .u64 0], .int .i64 11]) (by simp [results, Try.results13, go_sem, g0, g1, g2]) rfl (read_no (by rw [HLQ.out]; exact HR.out) HS.below)
end Go.Proofs.Ytfakpgfbpngfpaa
