/- The document's New, Pending, burn and Sync; no condition. -/
import Derived.Test.YtaaceaojgbicaaaRefb
import Derived.StillTailTactics
import Derived.Deep.QuietTactic
import Derived.BigQuiet
namespace Go.Proofs.Ytaaceaojgbicaaa
open Go.ChangeShapes Go.WideShapes Go.Deep Go.RowKit Go.Lib Go.Maps

def freshR (n : Nat) : RS := { size := n, all := [], lasts := 0, fuse := -1, no := false, a0 := 0, a1 := 0, a2 := 0 }

theorem made_ref (B : Nat) (w : World) (hB : B ≤ w.heap.size) (n : Nat) (hn : n ≤ 65536) : RefAt B (w.alloc (.cells (boxR (.slice none 0 0) (freshR n)) 38)) w.heap.size (.slice none 0 0) (freshR n) where
  box := heap_alloc_new w _
  base := hB
  bw := by simp; omega
  row := World.ownsRow_nil _ _ _ _
  each := by simp [freshR]
  size := hn
  lasts := Nat.le_refl _

set_option maxHeartbeats 4000000 in
set_option maxRecDepth 100000 in
theorem rnew_any (B : Nat) (n : Int) (w : World) (hB : B ≤ w.heap.size) : Calls Try.prog 11 #[.int .i64 n] w fun e w' => ∃ rb, e = .returned (.pointer (some ⟨rb, 0, none⟩)) ∧ RefAt B w' rb (.slice none 0 0) (freshR (clampN n)) ∧ Below w.heap.size w w' := by
  have HM : Hid (∀ c : Int, c = clampN n → RefAt B (w.alloc (.cells #[.int .i64 c, .slice none 0 0, .int .i64 0, .int .i64 (-1), .bool false, .int .i64 0, .int .i64 0, .int .i64 0] 38)) w.heap.size (.slice none 0 0) (freshR (clampN n))) := Lib.hid (fun c hc => by
    subst hc
    exact made_ref B w hB _ (clampN_le n))
  clear hB
  go_enter Try.func11, Try.ntmps11
  go_wp2
  all_goals
    go_ret
    exact ⟨w.heap.size, rfl, HM.out _ (by unfold clampN; omega), (Below.refl _ _).alloc (Nat.le_refl _) _⟩

set_option maxHeartbeats 4000000 in
set_option maxRecDepth 100000 in
theorem rpending_any {B : Nat} {W : World} {rb : Nat} {v : Value} {r : RS} (h : RefAt B W rb v r) (hlen : r.all.length ≤ 1073741824) : Calls Try.prog 16 #[.pointer (some ⟨rb, 0, none⟩)] W fun e w' => e = .returned (.int .i64 ((r.all.length - r.lasts : Nat) : Int)) ∧ Below W.heap.size W w' := by
  obtain ⟨na, cap, hv, -, -⟩ := h.slice
  obtain ⟨c0, c1, c2, c3, c4, c5, c6, c7⟩ := h.cells
  have hl := h.lasts
  rw [hv] at c1
  have HE : Hid (((r.all.length - r.lasts : Nat) : Int) = (r.all.length : Int) - (r.lasts : Int)) := Lib.hid (by omega)
  clear h hv
  go_enter Try.func16, Try.ntmps16
  go_wp2_with fail
  go_quiet (fail)
  go_wp2_with fail
  go_ret
  refine ⟨?_, ⟨rfl, rfl, rfl, Nat.le_refl _, fun _ _ => rfl⟩⟩
  rw [HE.out]
  first | rfl | exact ret_int (by unfold wrap64; omega)

/-- One act of the document's fuse. -/
def RS.okB (r : RS) : Bool := !(r.fuse == 0)
def RS.burnt (r : RS) : RS := if r.fuse = 0 then { r with no := true } else if 0 < r.fuse then { r with fuse := wrap64 (r.fuse - 1) } else r

set_option maxHeartbeats 4000000 in
set_option maxRecDepth 100000 in
theorem burn_any {B : Nat} {W : World} {rb : Nat} {v : Value} {r : RS} (h : RefAt B W rb v r) : Calls Try.prog 35 #[.pointer (some ⟨rb, 0, none⟩)] W fun e w' => e = .returned (.bool r.okB) ∧ RefAt B w' rb v r.burnt ∧ RStays B W w' := by
  obtain ⟨c0, c1, c2, c3, c4, c5, c6, c7⟩ := h.cells
  have f3 := h.free 3
  have f4 := h.free 4
  have H := Lib.hid h
  clear h
  by_cases h0 : r.fuse = 0
  · rw [h0] at c3
    have HP := Lib.hid (H.out.poke (r' := { r with no := true }) (i := 4) (u := .bool true) rfl rfl rfl H.out.lasts)
    rw [show r.burnt = { r with no := true } by unfold RS.burnt; rw [if_pos h0], show r.okB = false by unfold RS.okB; rw [h0]; rfl]
    clear h0
    go_enter Try.func35, Try.ntmps35
    go_wp2_with fail
    go_ret
    exact ⟨rfl, HP.out⟩
  · have e0 : (r.fuse == 0) = false := beq_eq_false_iff_ne.2 h0
    rw [show r.okB = true by unfold RS.okB; rw [e0]; rfl]
    by_cases hp : 0 < r.fuse
    · have HP := Lib.hid (H.out.poke (r' := { r with fuse := wrap64 (r.fuse - 1) }) (i := 3) (u := .int .i64 (wrap64 (r.fuse - 1))) rfl rfl rfl H.out.lasts)
      rw [show r.burnt = { r with fuse := wrap64 (r.fuse - 1) } by unfold RS.burnt; rw [if_neg h0, if_pos hp]]
      clear h0
      go_enter Try.func35, Try.ntmps35
      go_wp2_with fail
      go_ret
      exact ⟨rfl, HP.out⟩
    · rw [show r.burnt = r by unfold RS.burnt; rw [if_neg h0, if_neg hp]]
      have hp' : r.fuse ≤ 0 := by omega
      clear h0 hp
      go_enter Try.func35, Try.ntmps35
      go_wp2_with fail
      go_ret
      exact ⟨rfl, H.out, RStays.refl _ _⟩

/-- What a sync leaves of it. -/
def RS.synced (r : RS) : Int × RS := if r.no then (7, r) else if r.okB then (0, { r.burnt with a2 := wrap64 (r.burnt.a2 + 1), lasts := r.burnt.all.length }) else (7, r.burnt)

set_option maxHeartbeats 4000000 in
set_option maxRecDepth 100000 in
theorem rsync_any {B : Nat} {W : World} {rb : Nat} {v : Value} {r : RS} (h : RefAt B W rb v r) : Calls Try.prog 27 #[.pointer (some ⟨rb, 0, none⟩)] W fun e w' => e = .returned (.int .i64 r.synced.1) ∧ RefAt B w' rb v r.synced.2 ∧ RStays B W w' := by
  obtain ⟨c0, c1, c2, c3, c4, c5, c6, c7⟩ := h.cells
  have BURN := Lib.hid (burn_any h)
  have H := Lib.hid h
  clear h
  rcases hn : r.no with _ | _
  · rw [hn] at c4
    rcases ho : r.okB with _ | _
    · rw [show r.synced = (7, r.burnt) by unfold RS.synced; rw [hn, ho]; rfl]
      rw [ho] at BURN
      clear hn ho
      go_enter Try.func27, Try.ntmps27
      go_wp2_with fail
      refine (BURN.out).mono ?_
      rintro e w1 ⟨rfl, h1, h2⟩
      have H1 := Lib.hid h1
      have H2 := Lib.hid h2
      clear h1 h2
      go_wp2_with fail
      go_ret
      exact ⟨rfl, H1.out, H2.out⟩
    · rw [show r.synced = (0, { r.burnt with a2 := wrap64 (r.burnt.a2 + 1), lasts := r.burnt.all.length }) by unfold RS.synced; rw [hn, ho]; rfl]
      rw [ho] at BURN
      clear hn ho c0 c1 c2 c3 c5 c6 c7
      generalize r.burnt = t at *
      go_enter Try.func27, Try.ntmps27
      go_wp2_with fail
      refine (BURN.out).mono ?_
      rintro e w1 ⟨rfl, h1, h2⟩
      have H1 := Lib.hid h1
      have H2 := Lib.hid h2
      clear h1 h2 c4
      obtain ⟨c0, c1, c2, c3, c4, c5, c6, c7⟩ := H1.out.cells
      have f7 := H1.out.free 7
      go_wp2_with fail
      go_still_tail 9, (by kernel_rfl)
      change wpList _ _ _ _ _ w1.drew
      have H3 := Lib.hid (H1.out.below (Below.refl _ _).drew)
      have H4 := Lib.hid H2.out.drew
      clear H1 H2 c0 c1 c2 c3 c4 c5 c6 c7 f7
      generalize w1.drew = w2 at *
      obtain ⟨na, cap, rfl, -, -⟩ := H3.out.slice
      obtain ⟨c0, c1, c2, c3, c4, c5, c6, c7⟩ := H3.out.cells
      have f7 := H3.out.free 7
      have f2 := H3.out.free 2
      obtain ⟨hP1, hR1⟩ := H3.out.poke (r' := { t with a2 := wrap64 (t.a2 + 1) }) (i := 7) (u := .int .i64 (wrap64 (t.a2 + 1))) rfl rfl rfl H3.out.lasts
      obtain ⟨hP2, hR2⟩ := hP1.poke (r' := { t with a2 := wrap64 (t.a2 + 1), lasts := t.all.length }) (i := 2) (u := .int .i64 t.all.length) rfl rfl rfl (Nat.le_refl _)
      have HF := Lib.hid (And.intro hP2 (H4.out.trans (hR1.trans hR2)))
      clear hP1 hR1 hP2 hR2
      go_wp2_with fail
      go_ret
      exact ⟨rfl, HF.out⟩
  · rw [hn] at c4
    rw [show r.synced = (7, r) by unfold RS.synced; rw [hn]; rfl]
    clear hn
    go_enter Try.func27, Try.ntmps27
    go_wp2_with fail
    go_ret
    exact ⟨rfl, H.out, RStays.refl _ _⟩
end Go.Proofs.Ytaaceaojgbicaaa
