/- The order of values, as a plain function on them: what turns round, what passes on, and which formed values are alike in it; no condition of ours. -/
import Derived.Test.YtcbfbmidekmboaaDoorLex
import Derived.Test.YtcbfbmidekmboaaDoorRsame
namespace Go.Proofs.YtcbfbmidekmboaaDoor
open Go.ChangeShapes Go.WideShapes Go.Deep Go.RowKit Go.Lib

/-- Texts, byte by byte. -/
def cmpT (s t : ByteArray) : Int := compareBytes s.data.toList t.data.toList

theorem cmpT_zero {s t : ByteArray} : cmpT s t = 0 ↔ s = t := by
  unfold cmpT
  rw [cmpB_zero]
  exact ⟨fun h => ByteArray.ext (Array.ext' h), fun h => by rw [h]⟩

namespace AV
mutual
/-- -1, 0, 1, as the one is less than the other, alike, greater. -/
def ord : AV → AV → Int
  | mk k n s _ _ ns _ _ xs, mk k' n' s' _ _ ns' _ _ xs' =>
    lexI (compareInt k k') (if k = 3 then compareInt n n' else if k = 4 then cmpT s s' else if k = 5 ∨ k = 6 then ordAll (decide (k = 6)) ns ns' xs xs' else 0)
/-- Members: with names, or without. -/
def ordAll (o : Bool) : List ByteArray → List ByteArray → List AV → List AV → Int
  | _, _, [], ys => compareInt 0 ys.length
  | _, _, _ :: _, [] => 1
  | ns, ns', x :: xs, y :: ys => lexI (if o then cmpT (ns.headD ⟨#[]⟩) (ns'.headD ⟨#[]⟩) else 0) (lexI (ord x y) (ordAll o ns.tail ns'.tail xs ys))
end

theorem ordAll_sig (o : Bool) : ∀ (xs : List AV), (∀ x ∈ xs, ∀ y, Sig (ord x y)) → ∀ ns ns' ys, Sig (ordAll o ns ns' xs ys)
  | [], _, ns, ns', ys => by rw [ordAll]; exact cmpI_sig _ _
  | x :: xs, _, ns, ns', [] => by rw [ordAll]; exact .inr (.inr rfl)
  | x :: xs, ih, ns, ns', y :: ys => by
    rw [ordAll]
    refine Sig.lexI ?_ (Sig.lexI (ih x (by simp) y) (ordAll_sig o xs (fun z hz => ih z (by simp [hz])) _ _ _))
    cases o
    · exact .inr (.inl rfl)
    · exact cmpB_sig _ _

theorem ord_sig : ∀ x y : AV, Sig (ord x y) := by
  intro x
  induction x using AV.ind with
  | h k n s na nc ns xa xc xs ih =>
    intro y
    obtain ⟨k', n', s', na', nc', ns', xa', xc', xs'⟩ := y
    rw [ord]
    refine Sig.lexI (cmpI_sig _ _) ?_
    repeat' split
    · exact cmpI_sig _ _
    · exact cmpB_sig _ _
    · exact ordAll_sig _ _ ih _ _ _
    · exact .inr (.inl rfl)

theorem ordAll_neg (o : Bool) : ∀ (xs : List AV), (∀ x ∈ xs, ∀ y, ord y x = -ord x y) → ∀ ns ns' ys, ordAll o ns' ns ys xs = -ordAll o ns ns' xs ys
  | [], _, ns, ns', [] => by simp [ordAll, compareInt]
  | [], _, ns, ns', y :: ys => by
    rw [ordAll, ordAll]
    unfold compareInt
    rw [if_pos (by simp)]
    rfl
  | x :: xs, _, ns, ns', [] => by
    rw [ordAll, ordAll]
    unfold compareInt
    rw [if_pos (by simp)]
  | x :: xs, ih, ns, ns', y :: ys => by
    rw [ordAll, ordAll]
    refine lexI_neg ?_ fun _ => lexI_neg (ih x (by simp) y) fun _ => ordAll_neg o xs (fun z hz => ih z (by simp [hz])) _ _ _
    cases o
    · rfl
    · exact cmpB_neg _ _

theorem ord_neg : ∀ x y : AV, ord y x = -ord x y := by
  intro x
  induction x using AV.ind with
  | h k n s na nc ns xa xc xs ih =>
    intro y
    obtain ⟨k', n', s', na', nc', ns', xa', xc', xs'⟩ := y
    rw [ord, ord]
    refine lexI_neg (cmpI_neg _ _) fun h => ?_
    rw [cmpI_zero] at h
    subst h
    repeat' split
    · exact cmpI_neg _ _
    · exact cmpB_neg _ _
    · exact ordAll_neg _ _ ih _ _ _
    · rfl

theorem ordAll_fit (o : Bool) : ∀ (xs : List AV), (∀ x ∈ xs, ∀ y z, Fit (ord x y) (ord y z) (ord x z)) → ∀ ns ns' ns'' ys zs, Fit (ordAll o ns ns' xs ys) (ordAll o ns' ns'' ys zs) (ordAll o ns ns'' xs zs)
  | [], _, ns, ns', ns'', [], zs => by
    simp only [ordAll]
    exact ⟨fun _ => rfl, fun h => by simpa [compareInt] using h, fun h => by simpa using h.symm⟩
  | [], _, ns, ns', ns'', y :: ys, [] => by
    simp only [ordAll]
    have : compareInt 0 ((y :: ys).length : Int) = -1 := by unfold compareInt; rw [if_pos (by simp)]
    rw [this]
    exact ⟨fun h => absurd h (by decide), fun h => absurd h (by decide), fun h => absurd h (by decide)⟩
  | [], _, ns, ns', ns'', y :: ys, z :: zs => by
    simp only [ordAll]
    have h1 : compareInt 0 ((y :: ys).length : Int) = -1 := by unfold compareInt; rw [if_pos (by simp)]
    have h2 : compareInt 0 ((z :: zs).length : Int) = -1 := by unfold compareInt; rw [if_pos (by simp)]
    rw [h1, h2]
    exact ⟨fun h => absurd h (by decide), fun _ => rfl, fun _ => rfl⟩
  | x :: xs, _, ns, ns', ns'', [], [] => by
    simp only [ordAll]
    exact ⟨fun h => absurd h (by decide), fun _ => rfl, fun _ => rfl⟩
  | x :: xs, _, ns, ns', ns'', [], z :: zs => by
    have h2 : compareInt 0 ((z :: zs).length : Int) = -1 := by unfold compareInt; rw [if_pos (by simp)]
    rw [ordAll, ordAll, h2]
    exact ⟨fun h => absurd h (by decide), fun h => absurd h (by decide), fun h => absurd h (by decide)⟩
  | x :: xs, _, ns, ns', ns'', y :: ys, [] => by
    rw [show ordAll o ns' ns'' (y :: ys) [] = 1 by rw [ordAll], show ordAll o ns ns'' (x :: xs) [] = 1 by rw [ordAll]]
    exact ⟨fun _ => rfl, fun h => absurd h (by decide), fun h => h.symm⟩
  | x :: xs, ih, ns, ns', ns'', y :: ys, z :: zs => by
    rw [ordAll, ordAll, ordAll]
    refine Fit.lexI ?_ fun _ _ => Fit.lexI (ih x (by simp) y z) fun _ _ => ordAll_fit o xs (fun z hz => ih z (by simp [hz])) _ _ _ _ _
    cases o
    · exact ⟨fun _ => rfl, fun _ => rfl, fun _ => rfl⟩
    · exact cmpB_fit _ _ _

theorem ord_fit : ∀ x y z : AV, Fit (ord x y) (ord y z) (ord x z) := by
  intro x
  induction x using AV.ind with
  | h k n s na nc ns xa xc xs ih =>
    intro y z
    obtain ⟨k', n', s', na', nc', ns', xa', xc', xs'⟩ := y
    obtain ⟨k'', n'', s'', na'', nc'', ns'', xa'', xc'', xs''⟩ := z
    rw [ord, ord, ord]
    refine Fit.lexI (cmpI_fit _ _ _) fun h h' => ?_
    rw [cmpI_zero] at h h'
    subst h
    subst h'
    repeat' split
    · exact cmpI_fit _ _ _
    · exact cmpB_fit _ _ _
    · exact ordAll_fit _ _ ih _ _ _ _ _
    · exact ⟨fun _ => rfl, fun _ => rfl, fun _ => rfl⟩

theorem ordAll_zero (o : Bool) : ∀ (xs : List AV), (∀ x ∈ xs, ∀ y, (∃ lv, formedJ y lv = true) → (ord x y = 0 ↔ eqv x y = true)) → ∀ ns ns' ys, (∀ y ∈ ys, ∃ lv, formedJ y lv = true) → (o = true → ns.length = xs.length ∧ ns'.length = ys.length) →
    (ordAll o ns ns' xs ys = 0 ↔ xs.length = ys.length ∧ (o = true → ns = ns') ∧ eqvAll xs ys = true)
  | [], _, ns, ns', [], _, hl => by
    simp only [ordAll, eqvAll, and_true, List.length_nil, true_and]
    refine ⟨fun _ ho => ?_, fun _ => by simp [compareInt]⟩
    obtain ⟨h1, h2⟩ := hl ho
    rw [List.length_eq_zero_iff.1 h1, List.length_eq_zero_iff.1 h2]
  | [], _, ns, ns', y :: ys, _, _ => by
    rw [ordAll, cmpI_zero]
    simp only [List.length_cons, List.length_nil]
    omega
  | x :: xs, _, ns, ns', [], _, _ => by
    rw [ordAll]
    simp
  | x :: xs, ih, ns, ns', y :: ys, hf, hl => by
    rw [ordAll, lexI_zero, lexI_zero, ih x (by simp) y (hf y (by simp)), eqvAll, Bool.and_eq_true]
    have hl' : o = true → ns.tail.length = xs.length ∧ ns'.tail.length = ys.length := fun ho => by
      obtain ⟨h1, h2⟩ := hl ho
      simp only [List.length_cons] at h1 h2
      simp [h1, h2]
    rw [ordAll_zero o xs (fun z hz => ih z (by simp [hz])) ns.tail ns'.tail ys (fun z hz => hf z (by simp [hz])) hl']
    simp only [List.length_cons, Nat.add_right_cancel_iff]
    cases o
    · simp only [Bool.false_eq_true, if_false, true_and, false_implies]
      exact ⟨fun ⟨a, b, c⟩ => ⟨b, a, c⟩, fun ⟨b, a, c⟩ => ⟨a, b, c⟩⟩
    · obtain ⟨h1, h2⟩ := hl rfl
      match ns, ns', h1, h2 with
      | m :: ms, m' :: ms', _, _ =>
        simp only [if_true, List.headD_cons, List.tail_cons, true_implies, cmpT_zero, List.cons.injEq]
        exact ⟨fun ⟨a, b, c, d, e⟩ => ⟨c, ⟨a, d⟩, b, e⟩, fun ⟨c, ⟨a, d⟩, b, e⟩ => ⟨a, b, c, d, e⟩⟩

theorem parts {k n : Int} {s : ByteArray} {na : Option Addr} {nc : Nat} {ns : List ByteArray} {xa : Option Addr} {xc : Nat} {xs : List AV} {lv : Nat} (h : formedJ (mk k n s na nc ns xa xc xs) lv = true) :
    ((k = 0 ∨ k = 1 ∨ k = 2) ∧ n = 0 ∧ s.toList = [] ∧ ns = [] ∧ xs = []) ∨ (k = 3 ∧ s.toList = [] ∧ ns = [] ∧ xs = []) ∨ (k = 4 ∧ n = 0 ∧ ns = [] ∧ xs = []) ∨
    (k = 5 ∧ n = 0 ∧ s.toList = [] ∧ ns = [] ∧ allJ xs (lv - 1) = true) ∨ (k = 6 ∧ n = 0 ∧ s.toList = [] ∧ ns.length = xs.length ∧ allJ xs (lv - 1) = true) := by
  rw [formedJ] at h
  by_cases h0 : lv = 0
  · rw [if_pos h0] at h; cases h
  rw [if_neg h0] at h
  by_cases k012 : k = 0 ∨ k = 1 ∨ k = 2
  · rw [if_pos k012] at h
    simp only [Bool.and_eq_true, decide_eq_true_eq] at h
    exact .inl ⟨k012, h⟩
  rw [if_neg k012] at h
  by_cases k3 : k = 3
  · rw [if_pos k3] at h
    simp only [Bool.and_eq_true, decide_eq_true_eq] at h
    exact .inr (.inl ⟨k3, h⟩)
  rw [if_neg k3] at h
  by_cases k4 : k = 4
  · rw [if_pos k4] at h
    simp only [Bool.and_eq_true, decide_eq_true_eq] at h
    exact .inr (.inr (.inl ⟨k4, h.1, h.2.2⟩))
  rw [if_neg k4] at h
  by_cases k5 : k = 5
  · rw [if_pos k5] at h
    simp only [Bool.and_eq_true, decide_eq_true_eq] at h
    exact .inr (.inr (.inr (.inl ⟨k5, h.1, h.2.1, h.2.2.1, h.2.2.2.2⟩)))
  rw [if_neg k5] at h
  by_cases k6 : k = 6
  · rw [if_pos k6] at h
    simp only [Bool.and_eq_true, decide_eq_true_eq] at h
    exact .inr (.inr (.inr (.inr ⟨k6, h.1, h.2.1, h.2.2.1, h.2.2.2.1.2⟩)))
  · rw [if_neg k6] at h; cases h

theorem allJ_all : ∀ {xs : List AV} {lv : Nat}, allJ xs lv = true → ∀ x ∈ xs, formedJ x lv = true
  | _ :: _, lv, h, x, hx => by
    rw [allJ, Bool.and_eq_true] at h
    rcases List.mem_cons.1 hx with rfl | hx
    · exact h.1
    · exact allJ_all h.2 x hx

/-- Formed values are alike in the order just if they are the same. -/
theorem ord_zero : ∀ x y : AV, (∃ lv, formedJ x lv = true) → (∃ lv, formedJ y lv = true) → (ord x y = 0 ↔ eqv x y = true) := by
  intro x
  induction x using AV.ind with
  | h k n s na nc ns xa xc xs ih =>
    intro y ⟨lv, hx⟩ ⟨lv', hy⟩
    obtain ⟨k', n', s', na', nc', ns', xa', xc', xs'⟩ := y
    have px := parts hx
    have py := parts hy
    rw [ord, lexI_zero, cmpI_zero, eqv]
    simp only [Bool.and_eq_true, decide_eq_true_eq]
    by_cases hk : k = k'
    rotate_left
    · exact ⟨fun h => absurd h.1 hk, fun h => absurd h.1.1 hk⟩
    subst hk
    have nil_eq : ∀ {s t : ByteArray}, s.toList = [] → t.toList = [] → s = t := fun h h' => toList_inj (h.trans h'.symm)
    rcases px with ⟨hk, rfl, hs, rfl, rfl⟩ | ⟨rfl, hs, rfl, rfl⟩ | ⟨rfl, rfl, rfl, rfl⟩ | ⟨rfl, rfl, hs, rfl, hxs⟩ | ⟨rfl, rfl, hs, hl, hxs⟩
    · rcases py with ⟨_, rfl, hs', rfl, rfl⟩ | ⟨rfl, _⟩ | ⟨rfl, _⟩ | ⟨rfl, _⟩ | ⟨rfl, _⟩
      rotate_left
      iterate 4 omega
      rw [if_neg (by omega), if_neg (by omega), if_neg (by omega)]
      simp [eqvAll, nil_eq hs hs']
    · rcases py with ⟨h, _⟩ | ⟨_, hs', rfl, rfl⟩ | ⟨h, _⟩ | ⟨h, _⟩ | ⟨h, _⟩
      · omega
      · simp [eqvAll, nil_eq hs hs', cmpI_zero]
      iterate 3 omega
    · rcases py with ⟨h, _⟩ | ⟨h, _⟩ | ⟨_, rfl, rfl, rfl⟩ | ⟨h, _⟩ | ⟨h, _⟩
      iterate 2 omega
      · simp [eqvAll, cmpT_zero]
      iterate 2 omega
    · rcases py with ⟨h, _⟩ | ⟨h, _⟩ | ⟨h, _⟩ | ⟨_, rfl, hs', rfl, hys⟩ | ⟨h, _⟩
      iterate 3 omega
      · have h := ordAll_zero (decide ((5 : Int) = 6)) xs (fun x hx y hy => ih x hx y ⟨_, allJ_all hxs x hx⟩ hy) [] [] xs' (fun y hy => ⟨_, allJ_all hys y hy⟩) (fun h => by simp at h)
        simp only [show ¬ ((5 : Int) = 3) by omega, show ¬ ((5 : Int) = 4) by omega, true_or, if_true, if_false, h, nil_eq hs hs', true_and, List.length_nil]
        simp
      · omega
    · rcases py with ⟨h, _⟩ | ⟨h, _⟩ | ⟨h, _⟩ | ⟨h, _⟩ | ⟨_, rfl, hs', hl', hys⟩
      iterate 4 omega
      · have h := ordAll_zero (decide ((6 : Int) = 6)) xs (fun x hx y hy => ih x hx y ⟨_, allJ_all hxs x hx⟩ hy) ns ns' xs' (fun y hy => ⟨_, allJ_all hys y hy⟩) (fun _ => ⟨hl, hl'⟩)
        simp only [show ¬ ((6 : Int) = 3) by omega, show ¬ ((6 : Int) = 4) by omega, or_true, if_true, if_false, nil_eq hs hs', true_and, decide_true] at h ⊢
        simp only [true_implies] at h
        rw [h]
        constructor
        · rintro ⟨a, b, c⟩
          exact ⟨⟨by rw [b], a⟩, b, c⟩
        · rintro ⟨⟨_, a⟩, b, c⟩
          exact ⟨a, b, c⟩
end AV
end Go.Proofs.YtcbfbmidekmboaaDoor
