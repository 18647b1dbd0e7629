/- DiskPlays: whatever is written, read, synced, fused and cut, all is answered as the chapter says: the walk of the statement. -/
import Derived.Test.YtaaceaojgbicaaaActx
import Derived.Test.YtaaceaojgbicaaaEqacts
namespace Go.Proofs.Ytaaceaojgbicaaa
open Go.ChangeShapes Go.WideShapes Go.Deep Go.RowKit Go.Lib Go.Maps

theorem Both.ptr_eq {a : DA} {db : Nat} (h : a.db = db) : ptr a = .pointer (some ⟨db, 0, none⟩) := by unfold ptr; rw [h]
theorem both_size {w W : World} {db rb K L : Nat} {s t : DS} (h : Both w W db rb s t K L) : Calls Try.prog 13 #[.pointer (some ⟨db, 0, none⟩)] W fun e w' => e = .returned (.int .i64 s.size) ∧ Below W.heap.size W w' := by
  obtain ⟨a, v, r, h1, -⟩ := h
  rw [← Both.ptr_eq h1.db]
  exact (size_any h1.at_).mono fun e w' ⟨he, hw⟩ => ⟨he, hw ▸ Below.refl _ _⟩
theorem both_down {w W : World} {db rb K L : Nat} {s t : DS} (h : Both w W db rb s t K L) : Calls Try.prog 14 #[.pointer (some ⟨db, 0, none⟩)] W fun e w' => e = .returned (.bool s.down) ∧ Below W.heap.size W w' := by
  obtain ⟨a, v, r, h1, -⟩ := h
  rw [← Both.ptr_eq h1.db]
  exact (down_any h1.at_).mono fun e w' ⟨he, hw⟩ => ⟨he, hw ▸ Below.refl _ _⟩
theorem both_pending {w W : World} {db rb K L : Nat} {s t : DS} (h : Both w W db rb s t K L) : Calls Try.prog 15 #[.pointer (some ⟨db, 0, none⟩)] W fun e w' => e = .returned (.int .i64 s.pend.length) ∧ Below W.heap.size W w' := by
  obtain ⟨a, v, r, h1, -⟩ := h
  rw [← Both.ptr_eq h1.db]
  exact (pending_any h1.at_).mono fun e w' ⟨he, hw⟩ => ⟨he, hw ▸ Below.refl _ _⟩
theorem both_acts {w W : World} {db rb K L : Nat} {s t : DS} (h : Both w W db rb s t K L) : Calls Try.prog 17 #[.pointer (some ⟨db, 0, none⟩)] W fun e w' => e = .returned (.agg #[.int .i64 s.r, .int .i64 s.w, .int .i64 s.s]) ∧ Below W.heap.size W w' := by
  obtain ⟨a, v, r, h1, -⟩ := h
  rw [← Both.ptr_eq h1.db]
  exact acts_any h1.at_
theorem both_rpending {w W : World} {db rb K L : Nat} {s t : DS} (h : Both w W db rb s t K L) (hL : L < 1073741824) : Calls Try.prog 16 #[.pointer (some ⟨rb, 0, none⟩)] W fun e w' => e = .returned (.int .i64 t.pend.length) ∧ Below W.heap.size W w' := by
  obtain ⟨a, v, r, h1, h2, h3, h4, h5⟩ := h
  rw [h3.pending]
  exact rpending_any h2 (by omega)
theorem both_cells {w W : World} {db rb K L : Nat} {s t : DS} (h : Both w W db rb s t K L) : W.cell? ⟨rb, 0, none⟩ = some (.int .i64 t.size) ∧ W.cell? ⟨rb, 4, none⟩ = some (.bool t.down) ∧ W.cell? ⟨rb, 5, none⟩ = some (.int .i64 t.r) ∧ W.cell? ⟨rb, 6, none⟩ = some (.int .i64 t.w) ∧ W.cell? ⟨rb, 7, none⟩ = some (.int .i64 t.s) := by
  obtain ⟨a, v, r, h1, h2, h3, h4, h5⟩ := h
  obtain ⟨c0, c1, c2, c3, c4, c5, c6, c7⟩ := h2.cells
  rw [← h3.size, ← h3.no, ← h3.acts.1, ← h3.acts.2.1, ← h3.acts.2.2]
  exact ⟨c0, c4, c5, c6, c7⟩

set_option maxHeartbeats 4000000 in
set_option maxRecDepth 100000 in
theorem lawplays_some (n : Int) (na : Option Addr) (ca : Nat) (sc : List OpV) (w : World) (hs : ScriptIn w na sc) (h1 : fewB sc = true) :
    Calls Try.prog 3 #[.int .i64 n, .slice na sc.length ca] w fun e w' => e = .returned (.bool true) ∧ Below w.heap.size w w' := by
  have AWAKE := Lib.hid (fun W => awake_any W)
  have NEW := Lib.hid (fun W => new_any n W)
  have RNEW := Lib.hid (fun W (hB : w.heap.size ≤ W.heap.size) => rnew_any w.heap.size n W hB)
  have FEW1 := Lib.hid (fun W (h : Below w.heap.size w W) => few_any na ca sc W (hs.below h))
  rw [h1] at FEW1
  have HS := Lib.hid hs
  have hsl : sc.length ≤ 60 := (of_decide_eq_true h1).1
  clear hs h1
  go_enter Try.func3, Try.ntmps3
  go_wp2_with fail
  refine (AWAKE.out _).mono ?_
  rintro e w1 ⟨rfl, hb1⟩
  have HB1 := Lib.hid hb1
  clear hb1
  go_wp2_with fail
  refine (FEW1.out _ HB1.out).mono ?_
  rintro e w2 ⟨rfl, rfl⟩
  go_wp2_with fail
  refine (NEW.out _).mono ?_
  rintro e w2 ⟨a, rfl, hd, hb2, hf⟩
  have HA2 : Hid (OwnAt w w2 a.db (freshD (clampN n)) a) := Lib.hid ⟨hd, rfl, HB1.out.trans (hb2.mono HB1.out.size), fun k hk => Nat.le_trans HB1.out.size (hf k hk)⟩
  clear hd hb2 hf
  unfold ptr
  go_wp2_with fail
  refine (RNEW.out _ HA2.out.below.size).mono ?_
  rintro e w3 ⟨rb0, rfl, hr, hb3⟩
  have HB3 : Hid (Both w w3 a.db rb0 (freshD (clampN n)) (freshD (clampN n)) 0 0) := Lib.hid ⟨a, _, _, HA2.out.later hb3, hr, Sim.start _, Nat.le_refl _, Nat.le_refl _⟩
  clear hr hb3 HA2 NEW RNEW
  generalize a.db = db0 at *
  generalize freshD (clampN n) = s0 at *
  go_wp2_with fail
  go_loopw [5, 6, 7, 8] (fun d r k i wr => ∃ j : Nat, j ≤ sc.length ∧ i = .int .i64 j ∧ k = .bool true ∧ ∃ db rb s, d = .pointer (some ⟨db, 0, none⟩) ∧ r = .pointer (some ⟨rb, 0, none⟩) ∧ Both w wr db rb s s j j) (fun _ _ _ i _ => sc.length - (intOf i).toNat)
  case atStart => exact ⟨0, Nat.zero_le _, rfl, rfl, _, _, _, rfl, rfl, HB3.out⟩
  case round =>
    obtain ⟨j, hj, rfl, rfl, db, rb, s, rfl, rfl, hB⟩ := hrel
    have HB := Lib.hid hB
    clear hB HB3
    by_cases hlt : j < sc.length
    · have hlt' : (j : Int) < (sc.length : Int) := by omega
      obtain ⟨p, hp⟩ : ∃ p, sc[j]? = some p := ⟨_, List.getElem?_eq_getElem hlt⟩
      obtain ⟨sb, so, rfl, hsb, x0, x1, x2, x3⟩ := HS.out.cells hp
      have HG := Lib.hid ((HS.out.below HB.out.lies).good p (List.mem_of_getElem? hp))
      have c0 := cell_kept2 HB.out.lies x0
      have c1 := cell_kept2 HB.out.lies x1
      have c2 := cell_kept2 HB.out.lies x2
      have c3 := cell_kept2 HB.out.lies x3
      clear x0 x1 x2 x3 hp hsb
      go_wp2_with fail
      refine (act_any HB.out (by omega) p HG.out).mono ?_
      rintro e w4 ⟨db', rb', s', rfl, hB4⟩
      have HB4 := Lib.hid hB4
      clear hB4 HB HG c0 c1 c2 c3
      obtain ⟨d0, d4, d5, d6, d7⟩ := both_cells HB4.out
      go_wp2_with fail
      have f0 := fun d os => cell_regrown d0 d os
      have f4 := fun d os => cell_regrown d4 d os
      have f5 := fun d os => cell_regrown d5 d os
      have f6 := fun d os => cell_regrown d6 d os
      have f7 := fun d os => cell_regrown d7 d os
      have EQ : ∀ W, (Op.equalIn 10000 36 (.agg #[.int .i64 s'.r, .int .i64 s'.w, .int .i64 s'.s]) (.agg #[.int .i64 s'.r, .int .i64 s'.w, .int .i64 s'.s])).run Try.prog W = .ok true W := fun W => by
        rw [eq_acts 9998]; simp
      have LATER : Hid (∀ d os, Both w (Go.Sort.grow (redrawn w4 d) os) db' rb' s' s' (j + 1) (j + 1)) := Lib.hid (fun d os => HB4.out.later (below_regrown w4 d os))
      have hj61 : j + 1 < 1073741824 := by omega
      refine wp_region_quiet_below (by kernel_rfl) (by kernel_rfl) ?_
      repeat (go_big_quiet_step (first
        | exact Calls.regrown_of (both_size (LATER.out _ _))
        | exact Calls.regrown_of (both_down (LATER.out _ _))
        | exact Calls.regrown_of (both_pending (LATER.out _ _))
        | exact Calls.regrown_of (both_rpending (LATER.out _ _) hj61)
        | exact Calls.regrown_of (both_acts (LATER.out _ _))))
      refine wpQuiet_nil ?_
      intro _ hw'
      obtain ⟨⟨dq, osq⟩, hw''⟩ := hw'
      subst hw''
      have HB5 := Lib.hid (LATER.out dq osq)
      clear d0 d4 d5 d6 d7 f0 f4 f5 f6 f7 EQ LATER HB4
      generalize Go.Sort.grow (redrawn w4 dq) osq = wq at *
      go_wp2_with fail
      go_roundw
      case rel => exact ⟨j + 1, by omega, by go_num, rfl, db', rb', s', rfl, rfl, HB5.out⟩
      case measure => simp [intOf]; omega
    · obtain rfl : j = sc.length := by omega
      go_wp2_with fail
      go_ret
      exact ⟨rfl, HB.out.lies⟩

set_option maxHeartbeats 4000000 in
set_option maxRecDepth 100000 in
theorem lawplays_long (n : Int) (na : Option Addr) (ca : Nat) (sc : List OpV) (w : World) (hs : ScriptIn w na sc) (h1 : fewB sc = false) :
    Calls Try.prog 3 #[.int .i64 n, .slice na sc.length ca] w fun e w' => e = .returned (.bool true) ∧ Below w.heap.size w w' := by
  have AWAKE := Lib.hid (fun W => awake_any W)
  have FEW1 := Lib.hid (fun W (h : Below w.heap.size w W) => few_any na ca sc W (hs.below h))
  rw [h1] at FEW1
  clear hs h1
  go_enter Try.func3, Try.ntmps3
  go_wp2_with fail
  refine (AWAKE.out _).mono ?_
  rintro e w1 ⟨rfl, hb1⟩
  have HB1 := Lib.hid hb1
  clear hb1
  go_wp2_with fail
  refine (FEW1.out _ HB1.out).mono ?_
  rintro e w2 ⟨rfl, rfl⟩
  go_wp2_with fail
  refine (AWAKE.out _).mono ?_
  rintro e w2 ⟨rfl, hb2⟩
  have HB2 := Lib.hid (HB1.out.trans (hb2.mono HB1.out.size))
  clear hb2
  go_wp2_with fail
  go_ret
  exact ⟨rfl, HB2.out⟩

theorem lawplays_any (n : Int) (na : Option Addr) (ca : Nat) (sc : List OpV) (w : World) (hs : ScriptIn w na sc) :
    Calls Try.prog 3 #[.int .i64 n, .slice na sc.length ca] w fun e w' => e = .returned (.bool true) ∧ Below w.heap.size w w' := by
  rcases h : fewB sc with _ | _
  · exact lawplays_long n na ca sc w hs h
  · exact lawplays_some n na ca sc w hs h
end Go.Proofs.Ytaaceaojgbicaaa
