/- PathGets: the program and the document tell every value's value at every path alike (300 nodes, 2000 bytes): the walk of the statement. -/
import Derived.Test.YtijibjdgnaphiabDoorRget
namespace Go.Proofs.YtijibjdgnaphiabDoor
open Go.ChangeShapes Go.WideShapes Go.Deep Go.RowKit Go.Lib

theorem eqvAll_get : ∀ {xs ys : List AV}, xs.length = ys.length → AV.eqvAll xs ys = true → ∀ i (h : i < xs.length) (h' : i < ys.length), AV.eqv xs[i] ys[i] = true
  | x :: xs, y :: ys, hl, h, i, h1, h2 => by
    rw [AV.eqvAll, Bool.and_eq_true] at h
    cases i with
    | zero => exact h.1
    | succ i => exact eqvAll_get (by simpa using hl) h.2 i (by simpa using h1) (by simpa using h2)

theorem eqv_iff {k n k' n' : Int} {s s' : ByteArray} {na na' : Option Addr} {nc nc' : Nat} {ns ns' : List ByteArray} {xa xa' : Option Addr} {xc xc' : Nat} {xs xs' : List AV} :
    AV.eqv (.mk k n s na nc ns xa xc xs) (.mk k' n' s' na' nc' ns' xa' xc' xs') = true ↔ (k = k' ∧ n = n' ∧ s = s' ∧ ns = ns' ∧ xs.length = xs'.length) ∧ AV.eqvAll xs xs' = true := by
  rw [AV.eqv]
  simp only [Bool.and_eq_true, decide_eq_true_eq]
  constructor
  · rintro ⟨⟨h1, h2, h3, _, h5⟩, h6, h7⟩
    exact ⟨⟨h1, h2, h3, h6, h5⟩, h7⟩
  · rintro ⟨⟨h1, h2, h3, h4, h5⟩, h6⟩
    exact ⟨⟨h1, h2, h3, by rw [h4], h5⟩, h4, h6⟩

/-- Two values that are alike a third one are alike. -/
theorem eqv_join : ∀ (x y z : AV), AV.eqv x z = true → AV.eqv y z = true → AV.eqv x y = true := by
  intro x
  induction x using AV.ind with
  | h k n s na nc ns xa xc xs ih =>
    intro y z hx hy
    obtain ⟨k1, n1, s1, na1, nc1, ns1, xa1, xc1, ys⟩ := y
    obtain ⟨k2, n2, s2, na2, nc2, ns2, xa2, xc2, zs⟩ := z
    rw [eqv_iff] at hx hy ⊢
    obtain ⟨⟨a1, a2, a3, a4, a5⟩, a6⟩ := hx
    obtain ⟨⟨b1, b2, b3, b4, b5⟩, b6⟩ := hy
    refine ⟨⟨a1.trans b1.symm, a2.trans b2.symm, a3.trans b3.symm, a4.trans b4.symm, a5.trans b5.symm⟩, eqvAll_of (a5.trans b5.symm) fun i h1 h2 => ?_⟩
    exact ih xs[i] (List.getElem_mem h1) ys[i] (zs[i]'(by omega)) (eqvAll_get a5 a6 i h1 (by omega)) (eqvAll_get b5 b6 i h2 (by omega))

theorem answers_join {r : Option AV} {x y : AV} (hx : Answers r x) (hy : Answers r y) : AV.eqv x y = true := by
  cases r with
  | none => rw [show x = AV.zero from hx, show y = AV.zero from hy]; exact AV.eqv_refl _
  | some z => exact eqv_join x y z hx hy

end Go.Proofs.YtijibjdgnaphiabDoor
