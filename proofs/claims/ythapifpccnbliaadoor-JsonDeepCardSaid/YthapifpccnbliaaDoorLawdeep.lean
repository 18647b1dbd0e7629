/- JsonDeep: the program and the document tell every value's depth alike, however often it is laid into an array: the walk of the statement. -/
import Derived.Test.YthapifpccnbliaaDoorAwake
namespace Go.Proofs.YthapifpccnbliaaDoor
open Go.ChangeShapes Go.WideShapes Go.Deep Go.RowKit

/-- The tree lies in whatever world agrees with this one but for the block B. -/
def AV.Safe (t : AV) (w : World) (B : Nat) : Prop := ∀ W : World, (∀ a : Addr, a.block < w.heap.size → a.block ≠ B → W.cell? a = w.cell? a) → t.In W

theorem AV.Safe.inn {t : AV} {w : World} {B : Nat} (h : t.Safe w B) : t.In w := h w fun _ _ _ => rfl

theorem AV.Safe.start {t : AV} {w : World} (h : t.In w) (o : Obj) : t.Safe (w.alloc o) w.heap.size := fun W hW => h.old (fun a ha => by
  rw [hW a (by simp; omega) (by omega), World.cell?_alloc_lt _ _ _ ha]) t

set_option maxHeartbeats 400000 in
set_option maxRecDepth 100000 in
theorem law_few (t : AV) (more : Int) (w : World) (hin : t.In w) (hf : AV.few t = false) :
    Calls Tryd.prog 4 #[t.val, .int .u8 more] w fun e w' => e = .returned (.bool true) ∧ Below w.heap.size w w' := by
  have CALL := Lib.hid (fun W hW => few_any t W hW)
  rw [hf] at CALL
  clear hf
  obtain ⟨k, n, s, na, nc, ns, xa, xc, xs⟩ := t
  simp only [AV.val, AV.row] at CALL ⊢
  go_enter Tryd.func4, Tryd.ntmps4
  go_wp2_with fail
  refine (awake_any _).mono ?_
  rintro e w1 ⟨rfl, hb1⟩
  have hb2 : Below w.heap.size w w1 := ((Below.refl w.heap.size w).alloc (Nat.le_refl _) _).trans (hb1.mono (by simp))
  have hc0 : w1.cell? ⟨w.heap.size, 0, none⟩ = some (.int .i64 k) := cell_later (by simp) hb1
  have hc1 : w1.cell? ⟨w.heap.size, 1, none⟩ = some (.int .i64 n) := cell_later (by simp) hb1
  have hc2 : w1.cell? ⟨w.heap.size, 2, none⟩ = some (.string s) := cell_later (by simp) hb1
  have hc3 : w1.cell? ⟨w.heap.size, 3, none⟩ = some (.slice na ns.length nc) := cell_later (by simp) hb1
  have hc4 : w1.cell? ⟨w.heap.size, 4, none⟩ = some (.slice xa xs.length xc) := cell_later (by simp) hb1
  go_wp2_with fail
  refine (CALL.out _ (hin.below hb2 (Nat.le_refl _))).mono ?_
  rintro e w2 ⟨rfl, hb3⟩
  go_wp2_with fail
  refine (awake_any _).mono ?_
  rintro e w3 ⟨rfl, hb4⟩
  go_wp2_with fail
  go_ret
  exact ⟨rfl, hb2.trans ((hb3.trans (hb4.mono hb3.size)).mono hb2.size)⟩

/-- A block of five cells, stored over, a new block behind. -/
theorem block_set5 {w : World} {b : Nat} {c0 c1 c2 c3 c4 d0 d1 d2 d3 d4 : Value} {t : TypeId} {o : Obj} (h : w.heap[b]? = some (.cells #[c0, c1, c2, c3, c4] t (0, 0))) :
    ((((((w.setCell ⟨b, 0, none⟩ d0).setCell ⟨b, 1, none⟩ d1).setCell ⟨b, 2, none⟩ d2).setCell ⟨b, 3, none⟩ d3).setCell ⟨b, 4, none⟩ d4).alloc o).heap[b]? = some (.cells #[d0, d1, d2, d3, d4] t (0, 0)) := by
  have hb : b < w.heap.size := by
    rcases Nat.lt_or_ge b w.heap.size with h1 | h1
    · exact h1
    · rw [Array.getElem?_eq_none h1] at h; cases h
  rw [Below.heap_alloc _ _ _ (by simpa [World.setCell] using hb)]
  have h1 := heap_setCell_same w b 0 _ t d0 h
  have h2 := heap_setCell_same _ b 1 _ t d1 h1
  have h3 := heap_setCell_same _ b 2 _ t d2 h2
  have h4 := heap_setCell_same _ b 3 _ t d3 h3
  have h5 := heap_setCell_same _ b 4 _ t d4 h4
  rw [h5]
  rfl

theorem cell_set5 {w : World} {b : Nat} {d0 d1 d2 d3 d4 : Value} {o : Obj} {a : Addr} (ha : a.block < w.heap.size) (hne : a.block ≠ b) :
    ((((((w.setCell ⟨b, 0, none⟩ d0).setCell ⟨b, 1, none⟩ d1).setCell ⟨b, 2, none⟩ d2).setCell ⟨b, 3, none⟩ d3).setCell ⟨b, 4, none⟩ d4).alloc o).cell? a = w.cell? a := by
  rw [World.cell?_alloc_lt _ _ _ (by simpa [World.setCell] using ha)]
  have hn : ∀ i, (⟨b, i, none⟩ : Addr) ≠ a := fun i e => hne (by rw [← e])
  rw [World.cell?_setCell_other _ _ _ _ (hn 4), World.cell?_setCell_other _ _ _ _ (hn 3), World.cell?_setCell_other _ _ _ _ (hn 2), World.cell?_setCell_other _ _ _ _ (hn 1), World.cell?_setCell_other _ _ _ _ (hn 0)]

/-- A value laid into an array of its own. -/
theorem AV.Safe.wrap {t : AV} {w : World} {b : Nat} {d0 d1 d2 d3 d4 : Value} (h : t.Safe w b) (hb : b < w.heap.size) :
    (AV.mk 5 0 ⟨#[]⟩ none 0 [] (some ⟨w.heap.size, 0, none⟩) 1 [t]).Safe ((((((w.setCell ⟨b, 0, none⟩ d0).setCell ⟨b, 1, none⟩ d1).setCell ⟨b, 2, none⟩ d2).setCell ⟨b, 3, none⟩ d3).setCell ⟨b, 4, none⟩ d4).alloc (.cells t.row.toArray 25)) b := by
  intro W hW
  have hin : t.In W := h W fun a ha hne => by
    rw [hW a (by simp [World.setCell]; omega) hne, cell_set5 ha hne]
  rw [AV.In]
  refine ⟨by decide, by decide, Nat.zero_le _, by simp, by simp [maxLen], by simp, by simp [maxLen], by simp, .inl rfl, fun b' o' e => ?_, .inr ⟨_, _, rfl⟩⟩
  simp only [Option.some.injEq, Addr.mk.injEq] at e
  obtain ⟨rfl, rfl, _⟩ := e
  rw [AV.InAll, AV.InAll]
  refine ⟨fun j v hv => ?_, hin, trivial⟩
  have hsz : ∀ x0 x1 x2 x3 x4, (((((w.setCell ⟨b, 0, none⟩ x0).setCell ⟨b, 1, none⟩ x1).setCell ⟨b, 2, none⟩ x2).setCell ⟨b, 3, none⟩ x3).setCell ⟨b, 4, none⟩ x4).heap.size = w.heap.size := by intros; simp [World.setCell]
  rw [hW _ (by simp [World.setCell]) (by simp; omega)]
  have hn := heap_alloc_new ((((((w.setCell ⟨b, 0, none⟩ d0).setCell ⟨b, 1, none⟩ d1).setCell ⟨b, 2, none⟩ d2).setCell ⟨b, 3, none⟩ d3).setCell ⟨b, 4, none⟩ d4)) (.cells t.row.toArray 25)
  rw [hsz] at hn
  rw [cell_of_row _ _ _ _ _ _ hn]
  simpa using hv

/-- What stands in a world behind the law's loop. -/
structure Keep (w : World) (t : AV) (W : World) : Prop where
  inn : t.In W
  below : Below w.heap.size w W
  size : w.heap.size < W.heap.size

theorem Keep.drew {w : World} {t : AV} {W : World} (h : Keep w t W) : Keep w t W.drew := ⟨AV.In.old (w := W) (w' := W.drew) (fun _ _ => rfl) t h.1, h.2.drew, h.3⟩
theorem Keep.later {w : World} {t : AV} {W W' : World} (h : Keep w t W) (hb : Below W.heap.size W W') : Keep w t W' := ⟨h.1.below hb (Nat.le_refl _), h.2.trans (hb.mono h.2.size), Nat.lt_of_lt_of_le h.3 hb.size⟩

/-- A contract that gives five cells anew. -/
theorem five {w : World} {t : AV} {f : FuncId} {args : Array Value} {r : Value} {c0 c1 c2 c3 c4 : Value} {W : World} (hk : Keep w t W)
    (h0 : W.cell? ⟨w.heap.size, 0, none⟩ = some c0) (h1 : W.cell? ⟨w.heap.size, 1, none⟩ = some c1) (h2 : W.cell? ⟨w.heap.size, 2, none⟩ = some c2) (h3 : W.cell? ⟨w.heap.size, 3, none⟩ = some c3) (h4 : W.cell? ⟨w.heap.size, 4, none⟩ = some c4)
    (h : Calls Tryd.prog f args W fun e w' => e = .returned r ∧ Below W.heap.size W w') :
    Calls Tryd.prog f args W fun e W' => e = .returned r ∧ W'.cell? ⟨w.heap.size, 0, none⟩ = some c0 ∧ W'.cell? ⟨w.heap.size, 1, none⟩ = some c1 ∧ W'.cell? ⟨w.heap.size, 2, none⟩ = some c2 ∧ W'.cell? ⟨w.heap.size, 3, none⟩ = some c3 ∧ W'.cell? ⟨w.heap.size, 4, none⟩ = some c4 ∧ Keep w t W' :=
  h.mono fun _ _ ⟨he, hb⟩ => ⟨he, cell_later h0 hb, cell_later h1 hb, cell_later h2 hb, cell_later h3 hb, cell_later h4 hb, hk.later hb⟩

set_option maxHeartbeats 800000 in
set_option maxRecDepth 100000 in
theorem law_yes (t : AV) (more : Int) (w : World) (hin : t.In w) (hm : 0 ≤ more ∧ more ≤ 255) (hf : AV.few t = true) :
    Calls Tryd.prog 4 #[t.val, .int .u8 more] w fun e w' => e = .returned (.bool true) ∧ Below w.heap.size w w' := by
  have CALL := Lib.hid (fun W hW => few_any t W hW)
  rw [hf] at CALL
  clear hf
  have SAFE : ∀ o, t.Safe (w.alloc o) w.heap.size := fun o => AV.Safe.start hin o
  obtain ⟨k, n, s, na, nc, ns, xa, xc, xs⟩ := t
  simp only [AV.val, AV.row] at CALL ⊢
  obtain ⟨hm1, hm2⟩ := hm
  go_enter Tryd.func4, Tryd.ntmps4
  go_wp2_with fail
  refine (awake_any _).mono ?_
  rintro e w1 ⟨rfl, hb1⟩
  have hb2 : Below w.heap.size w w1 := ((Below.refl w.heap.size w).alloc (Nat.le_refl _) _).trans (hb1.mono (by simp))
  have hc0 : w1.cell? ⟨w.heap.size, 0, none⟩ = some (.int .i64 k) := cell_later (by simp) hb1
  have hc1 : w1.cell? ⟨w.heap.size, 1, none⟩ = some (.int .i64 n) := cell_later (by simp) hb1
  have hc2 : w1.cell? ⟨w.heap.size, 2, none⟩ = some (.string s) := cell_later (by simp) hb1
  have hc3 : w1.cell? ⟨w.heap.size, 3, none⟩ = some (.slice na ns.length nc) := cell_later (by simp) hb1
  have hc4 : w1.cell? ⟨w.heap.size, 4, none⟩ = some (.slice xa xs.length xc) := cell_later (by simp) hb1
  go_wp2_with fail
  refine (CALL.out _ (hin.below hb2 (Nat.le_refl _))).mono ?_
  rintro e w2 ⟨rfl, hb3⟩
  go_wp2_with fail
  go_loopg [5] (more % 9).toNat (fun g i wr => ∃ (j : Nat) (T : AV), j + g = (more % 9).toNat ∧ i = .int .i64 (j : Int) ∧ T.Safe wr w.heap.size ∧ Below w.heap.size w wr ∧ wr.heap[w.heap.size]? = some (.cells T.row.toArray 25 (0, 0)))
  case atStart =>
    refine ⟨0, AV.mk k n s na nc ns xa xc xs, by omega, rfl, ?_, hb2.trans (hb3.mono hb2.size), ?_⟩
    rotate_left
    · have h1 := heap_alloc_new w (.cells (AV.mk k n s na nc ns xa xc xs).row.toArray 25)
      rw [hb3.block _ (by have := hb1.size; simp at this; omega), hb1.block _ (by simp)]
      exact h1
    · intro W hW
      refine SAFE (.cells #[] 25) W fun a ha hne => ?_
      simp only [World.size_alloc] at ha
      rw [hW a (by have := hb1.size; have := hb3.size; simp at *; omega) hne, hb3.cell (by have := hb1.size; simp at *; omega), hb1.cell (by simpa using ha), World.cell?_alloc_lt _ _ _ (by omega), World.cell?_alloc_lt _ _ _ (by omega)]
  case round =>
    obtain ⟨j, T, hj, rfl, hsafe, hb, hblk⟩ := hrel
    have HJ := Lib.hid hj
    clear hj
    obtain ⟨k', n', s', na', nc', ns', xa', xc', xs'⟩ := T
    have HBLK := Lib.hid hblk
    simp only [AV.row] at hblk
    have hd0 : wr.cell? ⟨w.heap.size, 0, none⟩ = some (.int .i64 k') := by rw [cell_of_row _ _ _ _ _ _ hblk]; rfl
    have hd1 : wr.cell? ⟨w.heap.size, 1, none⟩ = some (.int .i64 n') := by rw [cell_of_row _ _ _ _ _ _ hblk]; rfl
    have hd2 : wr.cell? ⟨w.heap.size, 2, none⟩ = some (.string s') := by rw [cell_of_row _ _ _ _ _ _ hblk]; rfl
    have hd3 : wr.cell? ⟨w.heap.size, 3, none⟩ = some (.slice na' ns'.length nc') := by rw [cell_of_row _ _ _ _ _ _ hblk]; rfl
    have hd4 : wr.cell? ⟨w.heap.size, 4, none⟩ = some (.slice xa' xs'.length xc') := by rw [cell_of_row _ _ _ _ _ _ hblk]; rfl
    have hfr : ∀ i, wr.frozen? ⟨w.heap.size, i, none⟩ = false := fun i => frozen_of_row _ _ _ _ _ hblk
    have hsz : w.heap.size < wr.heap.size := by
      have := World.block_lt_of_cell? wr _ hd0
      exact this
    clear hblk
    by_cases hlt : (j : Int) < more % 9
    · go_wp2_with fail
      go_roundg (gk - 1)
      case measure => have := HJ.out; omega
      case rel =>
        refine ⟨j + 1, .mk 5 0 ⟨#[]⟩ none 0 [] (some ⟨wr.heap.size, 0, none⟩) 1 [.mk k' n' s' na' nc' ns' xa' xc' xs'], by have := HJ.out; omega, by go_num, hsafe.wrap hsz, ?_, block_set5 HBLK.out⟩
        have h0 := Nat.le_refl w.heap.size
        exact (((((hb.setCell h0 _).setCell h0 _).setCell h0 _).setCell h0 _).setCell h0 _).alloc (by simp [World.setCell]; omega) _
    · have hin1 : AV.In wr (.mk k' n' s' na' nc' ns' xa' xc' xs') := hsafe.inn
      have hk : Keep w (.mk k' n' s' na' nc' ns' xa' xc' xs') wr := ⟨hin1, hb, hsz⟩
      obtain ⟨D, hD⟩ : ∃ D, AV.dep (.mk k' n' s' na' nc' ns' xa' xc' xs') 7 = D := ⟨_, rfl⟩
      have H13 := Lib.hid (fun W (hW : Keep w (.mk k' n' s' na' nc' ns' xa' xc' xs') W) h0 h1 h2 h3 h4 => five hW (c0 := .int .i64 k') (c1 := .int .i64 n') (c2 := .string s') (c3 := .slice na' ns'.length nc') (c4 := .slice xa' xs'.length xc') h0 h1 h2 h3 h4 (Depth_any (.mk k' n' s' na' nc' ns' xa' xc' xs') W hW.1))
      have H14 := Lib.hid (fun W (hW : Keep w (.mk k' n' s' na' nc' ns' xa' xc' xs') W) h0 h1 h2 h3 h4 => five hW (c0 := .int .i64 k') (c1 := .int .i64 n') (c2 := .string s') (c3 := .slice na' ns'.length nc') (c4 := .slice xa' xs'.length xc') h0 h1 h2 h3 h4 (rDepth_any (.mk k' n' s' na' nc' ns' xa' xc' xs') W hW.1))
      rw [hD] at H13 H14
      simp only [AV.val, AV.row] at H13 H14
      generalize hT : AV.mk k' n' s' na' nc' ns' xa' xc' xs' = T at *
      clear hT hD
      go_wp2_with fail
      go_region_held3 (fun W => W.cell? ⟨w.heap.size, 0, none⟩ = some (.int .i64 k') ∧ W.cell? ⟨w.heap.size, 1, none⟩ = some (.int .i64 n') ∧ W.cell? ⟨w.heap.size, 2, none⟩ = some (.string s') ∧ W.cell? ⟨w.heap.size, 3, none⟩ = some (.slice na' ns'.length nc') ∧ W.cell? ⟨w.heap.size, 4, none⟩ = some (.slice xa' xs'.length xc') ∧ Keep w T W)
        (refine ⟨?_, ?_, ?_, ?_, ?_, ?_⟩ <;> first | assumption | exact Keep.drew (by assumption))
        (first | (go_at_call 13; refine (H13.out _ (by first | assumption | exact Keep.drew (by assumption)) (by assumption) (by assumption) (by assumption) (by assumption) (by assumption)).mono ?_; rintro e w' ⟨rfl, h0', h1', h2', h3', h4', hk'⟩) | (go_at_call 14; refine (H14.out _ (by first | assumption | exact Keep.drew (by assumption)) (by assumption) (by assumption) (by assumption) (by assumption) (by assumption)).mono ?_; rintro e w' ⟨rfl, h0', h1', h2', h3', h4', hk'⟩))
      rename_i hS
      obtain ⟨_, _, _, _, _, hK⟩ := hS
      have hB := hK.below
      clear hK
      go_wp2_with fail
      go_ret
      exact ⟨ret_bool (by simp), hB⟩

theorem law_any (t : AV) (more : Int) (w : World) (hin : t.In w) (hm : 0 ≤ more ∧ more ≤ 255) :
    Calls Tryd.prog 4 #[t.val, .int .u8 more] w fun e w' => e = .returned (.bool true) ∧ Below w.heap.size w w' := by
  cases hf : AV.few t
  · exact law_few t more w hin hf
  · exact law_yes t more w hin hm hf
end Go.Proofs.YthapifpccnbliaaDoor
