/- The document's Read; under 2^30 writes. -/
import Derived.Test.YtaaceaojgbicaaaRefw
namespace Go.Proofs.Ytaaceaojgbicaaa
open Go.ChangeShapes Go.WideShapes Go.Deep Go.RowKit Go.Lib Go.Maps

theorem rrows_at : ∀ {ps : List RW} {i : Nat} {p : RW}, ps[i]? = some p → ∀ j, j < 2 → (rrows ps)[i * 2 + j]? = p.row[j]?
  | [], i, p, h, _, _ => by simp at h
  | q :: qs, 0, p, h, j, hj => by
    simp at h
    subst h
    rw [show rrows (q :: qs) = q.row ++ rrows qs by simp [rrows], Nat.zero_mul, Nat.zero_add, List.getElem?_append_left (by simpa [RW.row] using hj)]
  | q :: qs, i + 1, p, h, j, hj => by
    rw [List.getElem?_cons_succ] at h
    rw [show rrows (q :: qs) = q.row ++ rrows qs by simp [rrows], List.getElem?_append_right (by simp [RW.row]; omega), show (i + 1) * 2 + j - q.row.length = i * 2 + j by simp [RW.row]; omega]
    exact rrows_at h j hj

theorem RefAt.head {B : Nat} {W : World} {rb : Nat} {v : Value} {r : RS} (h : RefAt B W rb v r) {i : Nat} {p : RW} (hi : r.all[i]? = some p) : ∃ g cap, v = .slice (some ⟨g, 0, none⟩) r.all.length cap ∧ W.cell? ⟨g, i * 2, none⟩ = some (.int .i64 p.n) ∧ W.cell? ⟨g, i * 2 + 1, none⟩ = some (.slice (some ⟨p.g, 0, none⟩) 256 p.c) ∧ g < W.heap.size ∧ r.all.length ≤ cap ∧ cap ≤ maxLen := by
  have hil := (List.getElem?_eq_some_iff.1 hi).1
  obtain ⟨na, cap, rfl, h1, h2⟩ := h.slice
  rcases h.row.2 with ⟨_, h0⟩ | ⟨g, cap', cur, hv, _, hgg, _⟩
  · omega
  · cases hv
    refine ⟨g, cap, rfl, ?_, ?_, heap_lt hgg, h1, h2⟩
    · rw [h.row.cellAt (i * 2) (by omega)]
      exact rrows_at hi 0 (by decide)
    · rw [h.row.cellAt (i * 2 + 1) (by omega)]
      exact rrows_at hi 1 (by decide)

theorem copy_out {B : Nat} (w3 : World) {g c : Nat} {l : List UInt8} {Z : Array Value} (hz : Z.size = 256) (hown : (w3.alloc (.cells Z 5)).ownsRow B 5 1 (.slice (some ⟨g, 0, none⟩) 256 c) 256 (Lib.byteCells l)) (hl : l.length = 256) (ty : TypeId) :
    (Builtin.copy_ #[44, 44] ty #[.slice (some ⟨w3.heap.size, 0, none⟩) 256 256, .slice (some ⟨g, 0, none⟩) 256 c]).run Try.prog (w3.alloc (.cells Z 5)) = .ok (.int .i64 256) (w3.alloc (.cells (Lib.byteCells l).toArray 5)) := by
  have e1 : (Lib.byteCells l).length = 256 := by simp [Lib.byteCells, hl]
  have hc := hown.cells (g := g) rfl
  clear hown
  have hr := run_copy_row (P := Try.prog) (w3.alloc (.cells Z 5)) 44 44 ty 5 w3.heap.size 0 256 256 ⟨g, 0, none⟩ 256 c Z 5 (Lib.byteCells l) Try.underlying44 hi5
    (heap_alloc_last _ _) (by rw [e1]; rfl) hc (by rw [e1, hz]; decide) (byteCells_one _)
  rw [hr, World.setRow_alloc_new, e1]
  have e2 : (Z.toList.take 0 ++ Lib.byteCells l ++ Z.toList.drop (0 + 256)).toArray = (Lib.byteCells l).toArray := by
    rw [List.drop_of_length_le (by rw [Array.length_toList, hz]; decide)]
    simp
  rw [e2]
  rfl

theorem over_last {f : Int → List UInt8} {ps : List Wr} {j : Nat} {n : Int} {b : List UInt8} (hj : ps[j]? = some (n, b)) (hl : ∀ m p, j < m → ps[m]? = some p → p.1 ≠ n) : over f ps n = b := by
  have hjl := (List.getElem?_eq_some_iff.1 hj).1
  have e : ps = ps.take (j + 1) ++ ps.drop (j + 1) := (List.take_append_drop _ _).symm
  rw [e, over_append, over_none (fun p hp => ?_), over_take hj, upd_same]
  obtain ⟨m, hm⟩ := List.getElem?_of_mem hp
  rw [List.getElem?_drop] at hm
  exact hl _ p (by omega) hm

set_option maxHeartbeats 4000000 in
set_option maxRecDepth 100000 in
theorem rread_some {B : Nat} {W : World} {rb : Nat} {v : Value} {r : RS} (h : RefAt B W rb v r) (hlen : r.all.length < 1073741824) (n : Int) (hno : r.no = false) (h0 : 0 ≤ n) (h1 : n < r.size) :
    Calls Try.prog 26 #[.pointer (some ⟨rb, 0, none⟩), .int .i64 n] W fun e w' => ∃ g, e = .returned (.tuple #[.slice (some ⟨g, 0, none⟩) 256 256, .int .i64 0]) ∧ w'.heap[g]? = some (.cells (Lib.byteCells (over zeroF (r.all.map RW.plain) n)).toArray 5 (0, 0)) ∧ RefAt B w' rb v { r with a0 := wrap64 (r.a0 + 1) } ∧ RStays B W w' := by
  obtain ⟨c0, c1, c2, c3, c4, c5, c6, c7⟩ := h.cells
  have f5 := h.free 5
  have H := Lib.hid h
  have MAKE := make_256
  obtain ⟨Z, hZ⟩ : ∃ Z, (Lib.byteCells zeroS).toArray = Z := ⟨_, rfl⟩
  have HZS : Hid (Z.size = 256) := Lib.hid (by rw [← hZ]; simp [Lib.byteCells, zeroS_length])
  rw [hZ] at MAKE
  have HZ := Lib.hid hZ
  rw [hno] at c4
  clear h hno hZ
  go_enter Try.func26, Try.ntmps26
  go_wp2_with fail
  go_still_tail 9, (by kernel_rfl)
  change wpList _ _ _ _ _ W.drew
  have H3 := Lib.hid (H.out.below (Below.refl _ _).drew)
  have H4 := Lib.hid ((RStays.refl B W).drew)
  clear H c0 c1 c2 c3 c4 c5 c6 c7 f5
  generalize W.drew = w2 at *
  obtain ⟨c0, c1, c2, c3, c4, c5, c6, c7⟩ := H3.out.cells
  have f5 := H3.out.free 5
  obtain ⟨hP1, hR1⟩ := H3.out.poke (r' := { r with a0 := wrap64 (r.a0 + 1) }) (i := 5) (u := .int .i64 (wrap64 (r.a0 + 1))) rfl rfl rfl H3.out.lasts
  have HP := Lib.hid hP1
  have HR := Lib.hid (H4.out.trans hR1)
  clear hP1 hR1
  go_upto_region 6 with fail
  clear H3 H4 c0 c1 c2 c3 c4 c5 c6 c7 f5
  generalize w2.setCell ⟨rb, 5, none⟩ (.int .i64 (wrap64 (r.a0 + 1))) = w3 at *
  obtain ⟨na, vc, hv, -, -⟩ := HP.out.slice
  dsimp only at hv
  subst hv
  have HP4 := Lib.hid (HP.out.below ((Below.refl w3.heap.size w3).alloc (Nat.le_refl _) (.cells Z 5)))
  have HR4 := Lib.hid (HR.out.trans ((RStays.refl B w3).alloc HP.out.bw (.cells Z 5)))
  obtain ⟨c0, c1, c2, c3, c4, c5, c6, c7⟩ := HP.out.cells
  have hrb : rb < w3.heap.size := heap_lt HP.out.box
  clear c0 c2 c3 c4 c5 c6 c7
  go_wp2_with fail
  clear MAKE
  have HLEN := Lib.hid hlen
  have hl2 : (r.all.length : Int) ≤ 1073741824 := by omega
  clear c1 hlen
  go_loopw [7] (fun i wr => ((∃ j : Nat, j < r.all.length ∧ i = .int .i64 j ∧ ∀ m p, j < m → r.all[m]? = some p → p.n ≠ n) ∨ (i = .int .i64 (-1) ∧ ∀ p ∈ r.all, p.n ≠ n)) ∧ wr = w3.alloc (.cells Z 5)) (fun i _ => (intOf i + 1).toNat)
  case atStart =>
    refine ⟨?_, rfl⟩
    rcases Nat.eq_zero_or_pos r.all.length with h | h
    · exact .inr ⟨by rw [h]; rfl, fun p hp => by rw [List.length_eq_zero_iff.1 h] at hp; cases hp⟩
    · exact .inl ⟨r.all.length - 1, by omega, by congr 1; omega, fun m p hm hp => by
        have := (List.getElem?_eq_some_iff.1 hp).1
        omega⟩
  case round =>
    obtain ⟨hrel, rfl⟩ := hrel
    rcases hrel with ⟨j, hj, rfl, hlater⟩ | ⟨rfl, hnone⟩
    · obtain ⟨p, hp⟩ : ∃ p, r.all[j]? = some p := ⟨_, List.getElem?_eq_getElem hj⟩
      obtain ⟨g, cap, hv, x0, x1, hg, hc1, hc2⟩ := HP4.out.head hp
      simp only [Value.slice.injEq, true_and] at hv
      obtain ⟨rfl, rfl⟩ := hv
      obtain ⟨c0, c1, c2, c3, c4, c5, c6, c7⟩ := HP4.out.cells
      have hj' : (j : Int) < (r.all.length : Int) := by omega
      have HLT := Lib.hid hlater
      have HPJ := Lib.hid hp
      unfold maxLen at hc2
      clear hlater hp c0 c2 c3 c4 c5 c6 c7
      by_cases hn : p.n = n
      · subst hn
        obtain ⟨hown, hpb⟩ := HP4.out.each p (List.mem_of_getElem? HPJ.out)
        obtain ⟨L, hL⟩ : ∃ L, (Lib.byteCells p.b).toArray = L := ⟨_, rfl⟩
        have HLL := Lib.hid hL
        have HC := Lib.hid (copy_out w3 HZS.out hown hpb)
        have HB : Hid (over zeroF (r.all.map RW.plain) p.n = p.b) := Lib.hid (over_last (j := j) (by rw [List.getElem?_map, HPJ.out]; rfl) (fun m q hm hq => by
          rw [List.getElem?_map] at hq
          obtain ⟨q', hq', rfl⟩ := Option.map_eq_some_iff.1 hq
          exact HLT.out m q' hm hq'))
        have HF := Lib.hid (HP.out.below ((Below.refl w3.heap.size w3).alloc (Nat.le_refl _) (.cells (Lib.byteCells p.b).toArray 5)))
        have HFR := Lib.hid (HR.out.trans ((RStays.refl B w3).alloc HP.out.bw (.cells (Lib.byteCells p.b).toArray 5)))
        rw [hL] at HC HF HFR
        clear hown hpb hL
        go_upto_region 11 with fail
        go_wp2_with (refine wpList_copy_run _ rfl (.tmp 52) (.tmp 60) 44 44 rfl (.slice (some ⟨w3.heap.size, 0, none⟩) 256 256) (.slice (some ⟨p.g, 0, none⟩) 256 p.c) rfl rfl (HC.out 3) ?_)
        go_ret2
        rw [HB.out, HLL.out]
        exact ⟨w3.heap.size, rfl, heap_alloc_last _ _, HF.out, HFR.out⟩
      · have e1 : (p.n == n) = false := beq_eq_false_iff_ne.2 hn
        have HN := Lib.hid hn
        clear hn
        go_wp2_with fail
        go_roundw
        case rel =>
          refine ⟨?_, by first | trivial | rfl⟩
          rcases j with _ | j
          · refine .inr ⟨rfl, fun q hq => ?_⟩
            obtain ⟨m, hm⟩ := List.getElem?_of_mem hq
            rcases m with _ | m
            · rw [HPJ.out] at hm; cases hm; exact HN.out
            · exact HLT.out (m + 1) q (by omega) hm
          · refine .inl ⟨j, by omega, by simp, fun m q hm hq => ?_⟩
            rcases Nat.lt_or_ge (j + 1) m with h | h
            · exact HLT.out m q h hq
            · obtain rfl : m = j + 1 := by omega
              rw [HPJ.out] at hq; cases hq; exact HN.out
        case measure => first | (simp [intOf]; done) | (simp [intOf]; omega)
    · have HB : Hid (over zeroF (r.all.map RW.plain) n = zeroS) := Lib.hid (by
        rw [over_none (fun q hq => ?_)]
        · rfl
        · obtain ⟨q', hq', rfl⟩ := List.mem_map.1 hq
          exact hnone q' hq')
      clear hnone
      go_wp2_with fail
      go_ret2
      rw [HB.out, HZ.out]
      exact ⟨w3.heap.size, rfl, heap_alloc_last _ _, HP4.out, HR4.out⟩

set_option maxHeartbeats 4000000 in
set_option maxRecDepth 100000 in
theorem rread_no {B : Nat} {W : World} {rb : Nat} {v : Value} {r : RS} (h : RefAt B W rb v r) (n : Int) (hno : r.no = true) : Calls Try.prog 26 #[.pointer (some ⟨rb, 0, none⟩), .int .i64 n] W fun e w' => e = .returned (.tuple #[.slice none 0 0, .int .i64 7]) ∧ W = w' := by
  obtain ⟨c0, c1, c2, c3, c4, c5, c6, c7⟩ := h.cells
  rw [hno] at c4
  clear h hno
  go_enter Try.func26, Try.ntmps26
  go_wp2_with fail
  go_ret2
  exact ⟨rfl, rfl⟩

set_option maxHeartbeats 4000000 in
set_option maxRecDepth 100000 in
theorem rread_bad {B : Nat} {W : World} {rb : Nat} {v : Value} {r : RS} (h : RefAt B W rb v r) (n : Int) (hno : r.no = false) (hb : r.hasB n = false) : Calls Try.prog 26 #[.pointer (some ⟨rb, 0, none⟩), .int .i64 n] W fun e w' => e = .returned (.tuple #[.slice none 0 0, .int .i64 1]) ∧ W = w' := by
  obtain ⟨c0, c1, c2, c3, c4, c5, c6, c7⟩ := h.cells
  rw [hno] at c4
  by_cases h0 : 0 ≤ n
  · have h1 : (r.size : Int) ≤ n := by
      by_cases h : n < r.size
      · exact absurd hb (by unfold RS.hasB; rw [decide_eq_true ⟨h0, h⟩]; decide)
      · omega
    clear h hno hb
    go_enter Try.func26, Try.ntmps26
    go_wp2_with fail
    go_ret2
    exact ⟨rfl, rfl⟩
  · have h0' : n < 0 := by omega
    clear h hno hb h0
    go_enter Try.func26, Try.ntmps26
    go_wp2_with fail
    go_ret2
    exact ⟨rfl, rfl⟩
end Go.Proofs.Ytaaceaojgbicaaa
