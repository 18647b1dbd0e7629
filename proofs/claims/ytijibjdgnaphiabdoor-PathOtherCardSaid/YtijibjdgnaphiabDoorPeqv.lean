/- What is formed does not hang on addresses; what Put answers, as a plain function. -/
import Derived.Test.YtijibjdgnaphiabDoorLawgets
import Derived.Test.YtijibjdgnaphiabDoorPmoren
namespace Go.Proofs.YtijibjdgnaphiabDoor
open Go.ChangeShapes Go.WideShapes Go.Deep Go.RowKit Go.Lib

theorem allJ_eqv (m : Nat) : ∀ {xs ys : List AV}, (∀ x ∈ xs, ∀ y, AV.eqv x y = true → AV.formedJ x m = AV.formedJ y m) → xs.length = ys.length → AV.eqvAll xs ys = true → AV.allJ xs m = AV.allJ ys m
  | [], [], _, _, _ => rfl
  | [], _ :: _, _, h, _ => by simp at h
  | _ :: _, [], _, h, _ => by simp at h
  | x :: xs, y :: ys, ih, hl, h => by
    rw [AV.eqvAll, Bool.and_eq_true] at h
    rw [AV.allJ, AV.allJ, ih x (by simp) y h.1, allJ_eqv m (fun z hz => ih z (List.mem_cons_of_mem _ hz)) (by simpa using hl) h.2]

theorem formed_eqv : ∀ (x y : AV) (lv : Nat), AV.eqv x y = true → AV.formedJ x lv = AV.formedJ y lv := by
  intro x
  induction x using AV.ind with
  | h k n s na nc ns xa xc xs ih =>
    intro y lv h
    obtain ⟨k1, n1, s1, na1, nc1, ns1, xa1, xc1, ys⟩ := y
    rw [eqv_iff] at h
    obtain ⟨⟨rfl, rfl, rfl, rfl, hl⟩, ha⟩ := h
    have hall : ∀ m, AV.allJ xs m = AV.allJ ys m := fun m => allJ_eqv m (fun x hx y he => ih x hx y m he) hl ha
    have hnil : xs = [] ↔ ys = [] := by rw [← List.length_eq_zero_iff, ← List.length_eq_zero_iff, hl]
    rw [AV.formedJ, AV.formedJ]
    simp only [hl, hall, hnil]

theorem eqv_trans : ∀ {x y z : AV}, AV.eqv x y = true → AV.eqv y z = true → AV.eqv x z = true := by
  intro x
  induction x using AV.ind with
  | h k n s na nc ns xa xc xs ih =>
    intro y z hx hy
    obtain ⟨k1, n1, s1, na1, nc1, ns1, xa1, xc1, ys⟩ := y
    obtain ⟨k2, n2, s2, na2, nc2, ns2, xa2, xc2, zs⟩ := z
    rw [eqv_iff] at hx hy ⊢
    obtain ⟨⟨a1, a2, a3, a4, a5⟩, a6⟩ := hx
    obtain ⟨⟨b1, b2, b3, b4, b5⟩, b6⟩ := hy
    refine ⟨⟨a1.trans b1, a2.trans b2, a3.trans b3, a4.trans b4, a5.trans b5⟩, eqvAll_of (a5.trans b5) fun i h1 h2 => ?_⟩
    exact ih xs[i] (List.getElem_mem h1) (eqvAll_get a5 a6 i h1 (by omega)) (eqvAll_get b5 b6 i (by omega) h2)

def AV.knd : AV → Int
  | AV.mk k _ _ _ _ _ _ _ _ => k

/-- What Put answers: a value, or an error's number. -/
def putSpec (t : AV) (l : List UInt8) (x : AV) : Except Int AV :=
  if stepErr l = 0 ∧ t.knd = 6 ∧ AV.formedJ t 6 = true ∧ AV.formedJ x 6 = true then
    match AV.putAt (stepNames l) t x with
    | none => .error 4
    | some z => if AV.formedJ z 6 = true then .ok z else .error 3
  else .error 2

/-- What a call of Put leaves. -/
def PutsEnd (r : Except Int AV) (w : World) (e : Ending) (w' : World) : Prop :=
  Below w.heap.size w w' ∧ match r with
    | .ok z => ∃ z' : AV, e = .returned (.tuple #[z'.val, .int .i64 0]) ∧ z'.In w' ∧ AV.eqv z' z = true
    | .error c => e = .returned (.tuple #[AV.zero.val, .int .i64 c])
end Go.Proofs.YtijibjdgnaphiabDoor
