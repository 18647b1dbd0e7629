/- The small calls on a disk: Size, Down, Pending, has, spend, SetFuse, the counters; on none, too; no condition of ours. -/
import Derived.Test.YtaaceaojgbicaaaBase
namespace Go.Proofs.Ytaaceaojgbicaaa
open Go.ChangeShapes Go.WideShapes Go.Deep Go.RowKit Go.Lib Go.Maps

theorem ret_int {k : IntKind} {a b : Int} (h : a = b) : Ending.returned (.int k a) = .returned (.int k b) := by rw [h]
theorem ret_bool {a b : Bool} (h : a = b) : Ending.returned (.bool a) = .returned (.bool b) := by rw [h]

def ptr (a : DA) : Value := .pointer (some ⟨a.db, 0, none⟩)

theorem size_any {a : DA} {s : DS} {w : World} (h : DiskAt w a s) : Calls Try.prog 13 #[ptr a] w fun e w' => e = .returned (.int .i64 s.size) ∧ w = w' := by
  obtain ⟨c0, c1, c2, c3, c4, c5, c6, c7, c8, c9⟩ := h.cells
  clear h
  unfold ptr
  go_enter Try.func13, Try.ntmps13
  go_wp2
  go_ret
  exact ⟨rfl, rfl⟩
theorem size_nil (w : World) : Calls Try.prog 13 #[.pointer none] w fun e w' => e = .returned (.int .i64 0) ∧ w = w' := by
  go_enter Try.func13, Try.ntmps13
  go_wp2
  go_ret
  exact ⟨rfl, rfl⟩

theorem down_any {a : DA} {s : DS} {w : World} (h : DiskAt w a s) : Calls Try.prog 14 #[ptr a] w fun e w' => e = .returned (.bool s.down) ∧ w = w' := by
  obtain ⟨c0, c1, c2, c3, c4, c5, c6, c7, c8, c9⟩ := h.cells
  clear h
  unfold ptr
  go_enter Try.func14, Try.ntmps14
  go_wp2
  go_ret
  exact ⟨rfl, rfl⟩
theorem down_nil (w : World) : Calls Try.prog 14 #[.pointer none] w fun e w' => e = .returned (.bool true) ∧ w = w' := by
  go_enter Try.func14, Try.ntmps14
  go_wp2
  go_ret
  exact ⟨rfl, rfl⟩

theorem pv_slice {a : DA} {s : DS} {w : World} (h : DiskAt w a s) : ∃ na cap, a.pv = .slice na s.pend.length cap ∧ s.pend.length ≤ cap ∧ cap ≤ maxLen := by
  rcases h.pend.2 with ⟨hv, h0⟩ | ⟨g, cap, cur, hv, _, _, h1, h2, _⟩
  · exact ⟨none, 0, by rw [hv, h0], by omega, by simp [maxLen]⟩
  · exact ⟨_, cap, hv, h1, h2⟩

theorem pending_any {a : DA} {s : DS} {w : World} (h : DiskAt w a s) : Calls Try.prog 15 #[ptr a] w fun e w' => e = .returned (.int .i64 s.pend.length) ∧ w = w' := by
  obtain ⟨c0, c1, c2, c3, c4, c5, c6, c7, c8, c9⟩ := h.cells
  obtain ⟨na, cap, hpv, -, -⟩ := pv_slice h
  rw [hpv] at c2
  clear h hpv
  unfold ptr
  go_enter Try.func15, Try.ntmps15
  go_wp2
  go_ret
  exact ⟨rfl, rfl⟩
theorem pending_nil (w : World) : Calls Try.prog 15 #[.pointer none] w fun e w' => e = .returned (.int .i64 0) ∧ w = w' := by
  go_enter Try.func15, Try.ntmps15
  go_wp2
  go_ret
  exact ⟨rfl, rfl⟩

/-- Is it a sector? -/
def DS.hasB (s : DS) (n : Int) : Bool := decide (0 ≤ n ∧ n < s.size)

theorem has_any {a : DA} {s : DS} {w : World} (h : DiskAt w a s) (n : Int) : Calls Try.prog 30 #[ptr a, .int .i64 n] w fun e w' => e = .returned (.bool (s.hasB n)) ∧ w = w' := by
  obtain ⟨c0, c1, c2, c3, c4, c5, c6, c7, c8, c9⟩ := h.cells
  clear h
  unfold ptr
  by_cases h0 : 0 ≤ n
  · by_cases h1 : n < s.size
    · go_enter Try.func30, Try.ntmps30
      go_wp2
      go_ret
      exact ⟨ret_bool (by unfold DS.hasB; simp [h0, h1]), rfl⟩
    · go_enter Try.func30, Try.ntmps30
      go_wp2
      go_ret
      exact ⟨ret_bool (by unfold DS.hasB; simp [h1]), rfl⟩
  · go_enter Try.func30, Try.ntmps30
    go_wp2
    go_ret
    exact ⟨ret_bool (by unfold DS.hasB; rw [decide_eq_false (fun h => by have := h.1; omega)]), rfl⟩

/-- One act of the fuse: is it done, and the disk behind it. -/
def DS.okB (s : DS) : Bool := !s.fused || !(s.left == 0)
def DS.spent (s : DS) : DS := if s.fused then (if s.left = 0 then { s with down := true } else { s with left := wrap64 (s.left - 1) }) else s

theorem spend_any {a : DA} {s : DS} {w : World} (h : DiskAt w a s) : Calls Try.prog 31 #[ptr a] w fun e w' => e = .returned (.bool s.okB) ∧ DiskAt w' a s.spent ∧ Only (fun k => k = a.db) w w' := by
  obtain ⟨c0, c1, c2, c3, c4, c5, c6, c7, c8, c9⟩ := h.cells
  have f5 := h.free 5
  have f6 := h.free 6
  have H := Lib.hid h
  clear h
  unfold ptr
  rcases hf : s.fused with _ | _
  · rw [hf] at c4
    have HF := Lib.hid hf
    clear hf
    go_enter Try.func31, Try.ntmps31
    go_wp2
    go_ret
    exact ⟨ret_bool (by simp [DS.okB, HF.out]), by simpa [DS.spent, HF.out] using H.out, Only.refl _ _⟩
  · rw [hf] at c4
    have HF := Lib.hid hf
    clear hf
    by_cases h0 : s.left = 0
    · rw [h0] at c5
      have H0 := Lib.hid h0
      clear h0
      go_enter Try.func31, Try.ntmps31
      go_wp2
      go_ret
      refine ⟨ret_bool (by simp [DS.okB, HF.out, H0.out]), ?_, Only.setCell (S := fun k => k = a.db) (p := ⟨a.db, 6, none⟩) (Only.refl _ _) (.inl rfl) _⟩
      rw [show s.spent = { s with down := true } by unfold DS.spent; rw [if_pos HF.out, if_pos H0.out]]
      exact H.out.poke (i := 6) (v := .bool true) rfl H.out.size rfl rfl rfl
    · have H0 := Lib.hid h0
      have e0 : (s.left == 0) = false := by rw [beq_eq_false_iff_ne]; exact h0
      clear h0
      go_enter Try.func31, Try.ntmps31
      go_wp2
      go_ret
      refine ⟨ret_bool (by simp [DS.okB, HF.out, H0.out]), ?_, Only.setCell (S := fun k => k = a.db) (p := ⟨a.db, 5, none⟩) (Only.refl _ _) (.inl rfl) _⟩
      rw [show s.spent = { s with left := wrap64 (s.left - 1) } by unfold DS.spent; rw [if_pos HF.out, if_neg H0.out]]
      exact H.out.poke (s' := { s with left := wrap64 (s.left - 1) }) (i := 5) (v := .int .i64 (wrap64 (s.left - 1))) rfl H.out.size rfl rfl rfl

theorem setfuse_any {a : DA} {s : DS} {w : World} (h : DiskAt w a s) (n : Int) : Calls Try.prog 24 #[ptr a, .int .i64 n] w fun e w' => e = .returned (.tuple #[]) ∧ DiskAt w' a { s with fused := decide (0 ≤ n), left := n } ∧ Only (fun k => k = a.db) w w' := by
  obtain ⟨c0, c1, c2, c3, c4, c5, c6, c7, c8, c9⟩ := h.cells
  have f5 := h.free 5
  have f4 := h.free 4
  have H := Lib.hid h
  clear h
  unfold ptr
  go_enter Try.func24, Try.ntmps24
  go_wp2
  go_end0
  have h1 := H.out.poke (s' := { s with fused := decide (0 ≤ n) }) (i := 4) (v := .bool (decide (0 ≤ n))) rfl H.out.size rfl rfl rfl
  have h2 := h1.poke (s' := { s with fused := decide (0 ≤ n), left := n }) (i := 5) (v := .int .i64 n) rfl H.out.size rfl rfl rfl
  exact ⟨rfl, h2, Only.setCell (S := fun k => k = a.db) (p := ⟨a.db, 5, none⟩) (Only.setCell (S := fun k => k = a.db) (p := ⟨a.db, 4, none⟩) (Only.refl _ _) (.inl rfl) _) (.inl rfl) _⟩
theorem setfuse_nil (n : Int) (w : World) : Calls Try.prog 24 #[.pointer none, .int .i64 n] w fun e w' => e = .returned (.tuple #[]) ∧ w = w' := by
  go_enter Try.func24, Try.ntmps24
  go_wp2
  go_end0
  exact ⟨rfl, rfl⟩

theorem add_run {w : World} {p : Addr} {x y : Int} (hc : w.cell? p = some (.int .i64 x)) (hz : w.frozen? p = false) :
    (callFunc 37 #[.pointer (some p), .int .i64 y]).run Try.prog w = .ok (.value (.int .i64 (wrap64 (x + y)))) (w.setCell p (.int .i64 (wrap64 (x + y)))) :=
  run_call_add (fn := Try.f37) (by kernel_rfl) (by kernel_rfl) (by kernel_rfl) (by kernel_rfl) .i64 (by kernel_rfl) hc hz (by rw [← Go.IntWalk.i64_left]; rfl)
theorem load_run {w : World} {p : Addr} {x : Int} (hc : w.cell? p = some (.int .i64 x)) :
    (callFunc 36 #[.pointer (some p)]).run Try.prog w = .ok (.value (.int .i64 x)) w :=
  run_call_load (fn := Try.f36) (by kernel_rfl) (by kernel_rfl) (by kernel_rfl) (by kernel_rfl) .i64 (by kernel_rfl) hc

/-- The counters: of reads (7), writes (8), syncs (9). -/
theorem addAt_any {w : World} {b i : Nat} {x : Int} (hc : w.cell? ⟨b, i, none⟩ = some (.int .i64 x)) (hz : w.frozen? ⟨b, i, none⟩ = false) (y : Int) :
    Calls Try.prog 33 #[.pointer (some ⟨b, i, none⟩), .int .i64 y] w fun e w' => e = .returned (.int .i64 (wrap64 (x + y))) ∧ w.setCell ⟨b, i, none⟩ (.int .i64 (wrap64 (x + y))) = w' := by
  have RUN := add_run (y := y) hc hz
  go_enter Try.func33, Try.ntmps33
  go_wp2
  go_ret
  exact ⟨rfl, rfl⟩
theorem loadAt_any {w : World} {b i : Nat} {x : Int} (hc : w.cell? ⟨b, i, none⟩ = some (.int .i64 x)) :
    Calls Try.prog 29 #[.pointer (some ⟨b, i, none⟩)] w fun e w' => e = .returned (.int .i64 x) ∧ w = w' := by
  have RUN := load_run hc
  go_enter Try.func29, Try.ntmps29
  go_wp2
  go_ret
  exact ⟨rfl, rfl⟩

theorem addR_any {a : DA} {s : DS} {w : World} (h : DiskAt w a s) : Calls Try.prog 33 #[.pointer (some ⟨a.db, 7, none⟩), .int .i64 1] w fun e w' => e = .returned (.int .i64 (wrap64 (s.r + 1))) ∧ DiskAt w' a { s with r := wrap64 (s.r + 1) } ∧ Only (fun k => k = a.db) w w' := by
  obtain ⟨c0, c1, c2, c3, c4, c5, c6, c7, c8, c9⟩ := h.cells
  refine (addAt_any c7 (h.free 7) 1).mono ?_
  rintro e w' ⟨rfl, rfl⟩
  exact ⟨rfl, h.poke (s' := { s with r := wrap64 (s.r + 1) }) rfl h.size rfl rfl rfl, Only.setCell (S := fun k => k = a.db) (p := ⟨a.db, 7, none⟩) (Only.refl _ _) (.inl rfl) _⟩
theorem addW_any {a : DA} {s : DS} {w : World} (h : DiskAt w a s) : Calls Try.prog 33 #[.pointer (some ⟨a.db, 8, none⟩), .int .i64 1] w fun e w' => e = .returned (.int .i64 (wrap64 (s.w + 1))) ∧ DiskAt w' a { s with w := wrap64 (s.w + 1) } ∧ Only (fun k => k = a.db) w w' := by
  obtain ⟨c0, c1, c2, c3, c4, c5, c6, c7, c8, c9⟩ := h.cells
  refine (addAt_any c8 (h.free 8) 1).mono ?_
  rintro e w' ⟨rfl, rfl⟩
  exact ⟨rfl, h.poke (s' := { s with w := wrap64 (s.w + 1) }) rfl h.size rfl rfl rfl, Only.setCell (S := fun k => k = a.db) (p := ⟨a.db, 8, none⟩) (Only.refl _ _) (.inl rfl) _⟩
theorem addS_any {a : DA} {s : DS} {w : World} (h : DiskAt w a s) : Calls Try.prog 33 #[.pointer (some ⟨a.db, 9, none⟩), .int .i64 1] w fun e w' => e = .returned (.int .i64 (wrap64 (s.s + 1))) ∧ DiskAt w' a { s with s := wrap64 (s.s + 1) } ∧ Only (fun k => k = a.db) w w' := by
  obtain ⟨c0, c1, c2, c3, c4, c5, c6, c7, c8, c9⟩ := h.cells
  refine (addAt_any c9 (h.free 9) 1).mono ?_
  rintro e w' ⟨rfl, rfl⟩
  exact ⟨rfl, h.poke (s' := { s with s := wrap64 (s.s + 1) }) rfl h.size rfl rfl rfl, Only.setCell (S := fun k => k = a.db) (p := ⟨a.db, 9, none⟩) (Only.refl _ _) (.inl rfl) _⟩
end Go.Proofs.Ytaaceaojgbicaaa
