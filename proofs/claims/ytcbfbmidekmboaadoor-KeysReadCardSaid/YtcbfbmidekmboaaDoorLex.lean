/- Comparing one thing behind the other: what passes on, and what turns round; plain numbers and bytes; no condition. -/
import Derived.Lib.Bytealg
import Derived.Lib.Small
namespace Go.Proofs.YtcbfbmidekmboaaDoor
open Go.Lib

/-- First the one, then the other. -/
def lexI (a b : Int) : Int := if a = 0 then b else a

/-- Three comparisons fit: what is between the first and the third goes by the other two. -/
structure Fit (p q r : Int) : Prop where
  left : p = 0 → r = q
  right : q = 0 → r = p
  both : p = q → r = p

theorem Fit.lexI {p q r p' q' r' : Int} (h : Fit p q r) (h' : p = 0 → q = 0 → Fit p' q' r') : Fit (lexI p p') (lexI q q') (lexI r r') := by
  unfold YtcbfbmidekmboaaDoor.lexI
  obtain ⟨h1, h2, h3⟩ := h
  by_cases hp : p = 0
  · have e := h1 hp
    subst e
    by_cases hq : r = 0
    · obtain ⟨g1, g2, g3⟩ := h' hp hq
      simp only [if_pos hp, if_pos hq]
      exact ⟨g1, g2, g3⟩
    · simp only [if_pos hp, if_neg hq]
      exact ⟨fun _ => rfl, fun e => absurd e hq, fun e => e.symm⟩
  · by_cases hq : q = 0
    · have e := h2 hq
      subst e
      simp only [if_neg hp, if_pos hq]
      exact ⟨fun e => absurd e hp, fun _ => rfl, fun _ => rfl⟩
    · simp only [if_neg hp, if_neg hq]
      refine ⟨fun e => absurd e hp, fun e => absurd e hq, fun e => ?_⟩
      have := h3 e
      subst this
      rw [if_neg hp]

theorem lexI_neg {a b a' b' : Int} (h : a' = -a) (h' : a = 0 → b' = -b) : lexI a' b' = -lexI a b := by
  unfold lexI
  by_cases ha : a = 0
  · rw [if_pos ha, if_pos (by omega), h' ha]
  · rw [if_neg ha, if_neg (by omega), h]

theorem lexI_zero {a b : Int} : lexI a b = 0 ↔ a = 0 ∧ b = 0 := by
  unfold lexI
  by_cases ha : a = 0
  · simp [ha]
  · simp [ha]

/-- -1, 0 or 1. -/
def Sig (a : Int) : Prop := a = -1 ∨ a = 0 ∨ a = 1

theorem Sig.lexI {a b : Int} (h : Sig a) (h' : Sig b) : Sig (lexI a b) := by
  unfold YtcbfbmidekmboaaDoor.lexI
  split
  · exact h'
  · exact h

theorem Sig.neg {a : Int} (h : Sig a) : Sig (-a) := by unfold Sig at *; omega

/-- What passes on passes on for 'at most' and for 'at least'. -/
theorem Fit.le {p q r : Int} (h : Fit p q r) (hp : Sig p) (hq : Sig q) : (p ≤ 0 → q ≤ 0 → r ≤ 0) ∧ (0 ≤ p → 0 ≤ q → 0 ≤ r) := by
  obtain ⟨h1, h2, h3⟩ := h
  unfold Sig at *
  refine ⟨fun a b => ?_, fun a b => ?_⟩
  · by_cases e : p = 0
    · have := h1 e; omega
    · by_cases e' : q = 0
      · have := h2 e'; omega
      · have := h3 (by omega); omega
  · by_cases e : p = 0
    · have := h1 e; omega
    · by_cases e' : q = 0
      · have := h2 e'; omega
      · have := h3 (by omega); omega

theorem cmpI_sig (a b : Int) : Sig (compareInt a b) := by unfold Sig compareInt; split <;> (try split) <;> omega
theorem cmpI_neg (a b : Int) : compareInt b a = -compareInt a b := by unfold compareInt; split <;> split <;> (try split) <;> omega
theorem cmpI_zero {a b : Int} : compareInt a b = 0 ↔ a = b := by unfold compareInt; split <;> (try split) <;> omega
theorem cmpI_fit (a b c : Int) : Fit (compareInt a b) (compareInt b c) (compareInt a c) := by
  unfold compareInt
  refine ⟨?_, ?_, ?_⟩ <;> (repeat' split) <;> omega

theorem cmpB_sig : ∀ a b : List UInt8, Sig (compareBytes a b)
  | [], [] => .inr (.inl rfl)
  | [], _ :: _ => .inl rfl
  | _ :: _, [] => .inr (.inr rfl)
  | a :: as, b :: bs => by
    unfold compareBytes
    split
    · exact .inl rfl
    · split
      · exact .inr (.inr rfl)
      · exact cmpB_sig as bs

theorem cmpB_cons (a b : UInt8) (as bs : List UInt8) : compareBytes (a :: as) (b :: bs) = lexI (compareInt a.toNat b.toNat) (compareBytes as bs) := by
  rw [compareBytes]
  unfold lexI compareInt
  simp only [UInt8.lt_iff_toNat_lt]
  by_cases h : a.toNat < b.toNat
  · simp [h]
  · by_cases h' : b.toNat < a.toNat
    · simp [h, h']
    · simp [h, h']

theorem cmpB_neg : ∀ a b : List UInt8, compareBytes b a = -compareBytes a b
  | [], [] => rfl
  | [], _ :: _ => rfl
  | _ :: _, [] => rfl
  | a :: as, b :: bs => by rw [cmpB_cons, cmpB_cons]; exact lexI_neg (cmpI_neg _ _) fun _ => cmpB_neg as bs

theorem cmpB_zero : ∀ {a b : List UInt8}, compareBytes a b = 0 ↔ a = b
  | [], [] => by simp [compareBytes]
  | [], _ :: _ => by simp [compareBytes]
  | _ :: _, [] => by simp [compareBytes]
  | a :: as, b :: bs => by
    rw [cmpB_cons, lexI_zero, cmpI_zero, cmpB_zero (a := as) (b := bs), List.cons.injEq]
    refine and_congr_left fun _ => ⟨fun h => UInt8.toNat_inj.1 (by omega), fun h => by rw [h]⟩

theorem cmpB_fit : ∀ a b c : List UInt8, Fit (compareBytes a b) (compareBytes b c) (compareBytes a c)
  | [], [], [] => ⟨fun _ => rfl, fun _ => rfl, fun _ => rfl⟩
  | [], [], _ :: _ => ⟨fun _ => rfl, fun h => absurd h (by simp [compareBytes]), fun h => absurd h (by simp [compareBytes])⟩
  | [], _ :: _, [] => ⟨fun h => absurd h (by simp [compareBytes]), fun h => absurd h (by simp [compareBytes]), fun h => absurd h (by simp [compareBytes])⟩
  | [], _ :: _, _ :: _ => ⟨fun h => absurd h (by simp [compareBytes]), fun _ => rfl, fun _ => rfl⟩
  | _ :: _, [], [] => ⟨fun h => absurd h (by simp [compareBytes]), fun _ => rfl, fun h => absurd h (by simp [compareBytes])⟩
  | _ :: _, [], _ :: _ => ⟨fun h => absurd h (by simp [compareBytes]), fun h => absurd h (by simp [compareBytes]), fun h => absurd h (by simp [compareBytes])⟩
  | _ :: _, _ :: _, [] => ⟨fun _ => rfl, fun h => absurd h (by simp [compareBytes]), fun h => by rw [h]; rfl⟩
  | a :: as, b :: bs, c :: cs => by
    rw [cmpB_cons, cmpB_cons, cmpB_cons]
    exact (cmpI_fit _ _ _).lexI fun _ _ => cmpB_fit as bs cs
end Go.Proofs.YtcbfbmidekmboaaDoor
