/- PathGets: the program and the document tell every value's value at every path alike (300 nodes, 2000 bytes): the walk of the statement. -/
import Derived.Test.YtijibjdgnaphiaaDoorRget
namespace Go.Proofs.YtijibjdgnaphiaaDoor
open Go.ChangeShapes Go.WideShapes Go.Deep Go.RowKit Go.Lib

theorem eqvAll_get : ∀ {xs ys : List AV}, xs.length = ys.length → AV.eqvAll xs ys = true → ∀ i (h : i < xs.length) (h' : i < ys.length), AV.eqv xs[i] ys[i] = true
  | x :: xs, y :: ys, hl, h, i, h1, h2 => by
    rw [AV.eqvAll, Bool.and_eq_true] at h
    cases i with
    | zero => exact h.1
    | succ i => exact eqvAll_get (by simpa using hl) h.2 i (by simpa using h1) (by simpa using h2)

theorem eqv_iff {k n k' n' : Int} {s s' : ByteArray} {na na' : Option Addr} {nc nc' : Nat} {ns ns' : List ByteArray} {xa xa' : Option Addr} {xc xc' : Nat} {xs xs' : List AV} :
    AV.eqv (.mk k n s na nc ns xa xc xs) (.mk k' n' s' na' nc' ns' xa' xc' xs') = true ↔ (k = k' ∧ n = n' ∧ s = s' ∧ ns = ns' ∧ xs.length = xs'.length) ∧ AV.eqvAll xs xs' = true := by
  rw [AV.eqv]
  simp only [Bool.and_eq_true, decide_eq_true_eq]
  constructor
  · rintro ⟨⟨h1, h2, h3, _, h5⟩, h6, h7⟩
    exact ⟨⟨h1, h2, h3, h6, h5⟩, h7⟩
  · rintro ⟨⟨h1, h2, h3, h4, h5⟩, h6⟩
    exact ⟨⟨h1, h2, h3, by rw [h4], h5⟩, h4, h6⟩

/-- Two values that are alike a third one are alike. -/
theorem eqv_join : ∀ (x y z : AV), AV.eqv x z = true → AV.eqv y z = true → AV.eqv x y = true := by
  intro x
  induction x using AV.ind with
  | h k n s na nc ns xa xc xs ih =>
    intro y z hx hy
    obtain ⟨k1, n1, s1, na1, nc1, ns1, xa1, xc1, ys⟩ := y
    obtain ⟨k2, n2, s2, na2, nc2, ns2, xa2, xc2, zs⟩ := z
    rw [eqv_iff] at hx hy ⊢
    obtain ⟨⟨a1, a2, a3, a4, a5⟩, a6⟩ := hx
    obtain ⟨⟨b1, b2, b3, b4, b5⟩, b6⟩ := hy
    refine ⟨⟨a1.trans b1.symm, a2.trans b2.symm, a3.trans b3.symm, a4.trans b4.symm, a5.trans b5.symm⟩, eqvAll_of (a5.trans b5.symm) fun i h1 h2 => ?_⟩
    exact ih xs[i] (List.getElem_mem h1) ys[i] (zs[i]'(by omega)) (eqvAll_get a5 a6 i h1 (by omega)) (eqvAll_get b5 b6 i h2 (by omega))

theorem answers_join {r : Option AV} {x y : AV} (hx : Answers r x) (hy : Answers r y) : AV.eqv x y = true := by
  cases r with
  | none => rw [show x = AV.zero from hx, show y = AV.zero from hy]; exact AV.eqv_refl _
  | some z => exact eqv_join x y z hx hy

set_option maxHeartbeats 1600000 in
set_option maxRecDepth 100000 in
theorem lawgets_any (t : AV) (s : ByteArray) (w : World) (hin : t.In w) (hs : s.size ≤ maxLen) (hT : Tabs w) (hM : MaxL w) (hE : ErrV w) : Calls Tryd.prog 10 #[t.val, .string s] w fun e w' => e = .returned (.bool true) ∧ Below w.heap.size w w' := by
  unfold maxLen at hs
  have AW := Lib.hid (fun W (h : Below w.heap.size w W) => awakep_any W (hT.later h) (hM.later h))
  have FEW := Lib.hid (fun W (h : Below w.heap.size w W) => few_any t W (hin.below h (Nat.le_refl _)))
  obtain ⟨F, hF⟩ : ∃ F, AV.few t = F := ⟨_, rfl⟩
  rw [hF] at FEW
  by_cases hgo : F = true ∧ s.size ≤ 2000
  · obtain ⟨rfl, h2⟩ := hgo
    have PG := Lib.hid (fun W (h : Below w.heap.size w W) => Get_any t s W (hin.below h (Nat.le_refl _)) h2 (hT.later h) (hM.later h) (hE.later h))
    have RG := Lib.hid (fun W (h : Below w.heap.size w W) => rGet_any t s W (hin.below h (Nat.le_refl _)) h2)
    obtain ⟨R, hR⟩ : ∃ R, getSpec t s.data.toList = R := ⟨_, rfl⟩
    rw [hR] at PG RG
    clear hF hin hT hM hE hR
    obtain ⟨k, n, str, na, nc, ns, xa, xc, xs⟩ := t
    simp only [AV.val, AV.row] at FEW PG RG ⊢
    go_enter Tryd.func10, Tryd.ntmps10
    go_wp2_with fail
    refine (AW.out _ ((Below.refl _ _).alloc (Nat.le_refl _) _)).mono ?_
    rintro e w1 ⟨rfl, hq1⟩
    have hb1 : Below w.heap.size w w1 := ((Below.refl w.heap.size w).alloc (Nat.le_refl _) _).trans (hq1.mono (by simp))
    have HB := Lib.hid (show w1.heap[w.heap.size]? = some (.cells #[.int .i64 k, .int .i64 n, .string str, .slice na ns.length nc, .slice xa xs.length xc] 25 (0, 0)) from by
      rw [hq1.block _ (by simp)]; exact heap_alloc_new w _)
    obtain ⟨c0, c1, c2, c3, c4⟩ := bx5 HB.out
    clear hq1
    go_wp2_with fail
    refine (FEW.out _ hb1).mono ?_
    rintro e w2 ⟨rfl, hq2⟩
    have hb2 := hb1.trans (hq2.mono hb1.size)
    have HB2 := Lib.hid ((hq2.block _ (block_lt HB.out)).trans HB.out)
    clear c0 c1 c2 c3 c4 HB hq2
    obtain ⟨c0, c1, c2, c3, c4⟩ := bx5 HB2.out
    go_wp2_with fail
    refine (PG.out _ hb2).mono ?_
    rintro e w3 ⟨hq3, x, rfl, hxin, hxa⟩
    have hb3 := hb2.trans (hq3.mono hb2.size)
    have HB3 := Lib.hid ((hq3.block _ (block_lt HB2.out)).trans HB2.out)
    clear c0 c1 c2 c3 c4 HB2 hq3
    obtain ⟨c0, c1, c2, c3, c4⟩ := bx5 HB3.out
    have g0 := fun o => cell_later c0 ((Below.refl w3.heap.size w3).alloc (Nat.le_refl _) o)
    have g1 := fun o => cell_later c1 ((Below.refl w3.heap.size w3).alloc (Nat.le_refl _) o)
    have g2 := fun o => cell_later c2 ((Below.refl w3.heap.size w3).alloc (Nat.le_refl _) o)
    have g3 := fun o => cell_later c3 ((Below.refl w3.heap.size w3).alloc (Nat.le_refl _) o)
    have g4 := fun o => cell_later c4 ((Below.refl w3.heap.size w3).alloc (Nat.le_refl _) o)
    have HXA := Lib.hid hxa
    have HXIN := Lib.hid hxin
    clear hxa hxin
    obtain ⟨kx, nx, sx, nax, ncx, nsx, xax, xcx, xsx⟩ := x
    simp only [AV.val, AV.row]
    go_wp2_with fail
    have hb3a := hb3.alloc hb3.size (.cells #[.int .i64 kx, .int .i64 nx, .string sx, .slice nax nsx.length ncx, .slice xax xsx.length xcx] 25)
    refine (RG.out _ hb3a).mono ?_
    rintro e w4 ⟨hq4, y, rfl, hyin, hya⟩
    have hb4 := hb3a.trans (hq4.mono hb3a.size)
    have HX4 := Lib.hid (show w4.heap[w3.heap.size]? = some (.cells #[.int .i64 kx, .int .i64 nx, .string sx, .slice nax nsx.length ncx, .slice xax xsx.length xcx] 25 (0, 0)) from by
      rw [hq4.block _ (by simp)]; exact heap_alloc_new w3 _)
    have HXI4 := Lib.hid ((HXIN.out.below ((Below.refl _ _).alloc (Nat.le_refl _) _) (Nat.le_refl _)).below hq4 (by simp))
    have HJ := Lib.hid (answers_join HXA.out hya)
    have HYIN := Lib.hid hyin
    clear hya hyin hq4 c0 c1 c2 c3 c4 g0 g1 g2 g3 g4
    obtain ⟨x0, x1, x2, x3, x4⟩ := bx5 HX4.out
    have y0 := fun o => cell_later x0 ((Below.refl w4.heap.size w4).alloc (Nat.le_refl _) o)
    have y1 := fun o => cell_later x1 ((Below.refl w4.heap.size w4).alloc (Nat.le_refl _) o)
    have y2 := fun o => cell_later x2 ((Below.refl w4.heap.size w4).alloc (Nat.le_refl _) o)
    have y3 := fun o => cell_later x3 ((Below.refl w4.heap.size w4).alloc (Nat.le_refl _) o)
    have y4 := fun o => cell_later x4 ((Below.refl w4.heap.size w4).alloc (Nat.le_refl _) o)
    obtain ⟨ky, ny, sy, nay, ncy, nsy, xay, xcy, xsy⟩ := y
    simp only [AV.val, AV.row]
    have hbb : ∀ b : Bool, (b == b) = true := fun b => by cases b <;> rfl
    have SAME := Lib.hid (fun W (h : Below w4.heap.size w4 W) => rsame_any (.mk kx nx sx nax ncx nsx xax xcx xsx) (.mk ky ny sy nay ncy nsy xay xcy xsy) W (HXI4.out.below h (Nat.le_refl _)) (HYIN.out.below h (Nat.le_refl _)))
    rw [HJ.out] at SAME
    simp only [AV.val, AV.row] at SAME
    obtain ⟨RS, hRS⟩ : ∃ RS, R.isSome = RS := ⟨_, rfl⟩
    simp only [hRS]
    clear hRS HB3
    go_wp2_with fail
    refine (SAME.out _ ((Below.refl _ _).alloc (Nat.le_refl _) _)).mono ?_
    rintro e w5 ⟨rfl, hq5⟩
    have hb5 := (hb4.alloc hb4.size _).trans (hq5.mono (by have := hb4.size; simp; omega))
    go_wp2_with fail
    go_ret
    exact ⟨by simp, hb5⟩
  · have hends : F = false ∨ (F = true ∧ ¬ (s.size : Int) ≤ 2000) := by
      cases F
      · exact .inl rfl
      · exact .inr ⟨rfl, fun h => hgo ⟨rfl, by omega⟩⟩
    clear hF hin hT hM hE hgo
    obtain ⟨k, n, str, na, nc, ns, xa, xc, xs⟩ := t
    simp only [AV.val, AV.row] at FEW ⊢
    rcases hends with rfl | ⟨rfl, h2⟩
    all_goals
      go_enter Tryd.func10, Tryd.ntmps10
      go_wp2_with fail
      refine (AW.out _ ((Below.refl _ _).alloc (Nat.le_refl _) _)).mono ?_
      rintro e w1 ⟨rfl, hq1⟩
      have hb1 : Below w.heap.size w w1 := ((Below.refl w.heap.size w).alloc (Nat.le_refl _) _).trans (hq1.mono (by simp))
      have HB := Lib.hid (show w1.heap[w.heap.size]? = some (.cells #[.int .i64 k, .int .i64 n, .string str, .slice na ns.length nc, .slice xa xs.length xc] 25 (0, 0)) from by
        rw [hq1.block _ (by simp)]; exact heap_alloc_new w _)
      obtain ⟨c0, c1, c2, c3, c4⟩ := bx5 HB.out
      clear hq1
      go_wp2_with fail
      refine (FEW.out _ hb1).mono ?_
      rintro e w2 ⟨rfl, hq2⟩
      have hb2 := hb1.trans (hq2.mono hb1.size)
      clear c0 c1 c2 c3 c4 HB hq2
      go_wp2_with fail
      refine (AW.out _ hb2).mono ?_
      rintro e w3 ⟨rfl, hq3⟩
      go_wp2_with fail
      go_ret
      exact ⟨rfl, hb2.trans (hq3.mono hb2.size)⟩
end Go.Proofs.YtijibjdgnaphiaaDoor
