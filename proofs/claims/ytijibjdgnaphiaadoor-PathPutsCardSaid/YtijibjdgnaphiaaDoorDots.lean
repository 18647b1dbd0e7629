/- A path's steps, by the document, of plain lists of bytes: cut at its points. No condition. -/
import Derived.Lib.Split
import Derived.Lib.ValidLaws
namespace Go.Proofs.YtijibjdgnaphiaaDoor
open Go.Lib

/-- A text, cut at its points. -/
def dots : List UInt8 → List (List UInt8)
  | [] => [[]]
  | c :: l => if c = 46 then [] :: dots l else match dots l with
    | p :: ps => (c :: p) :: ps
    | [] => [[c]]

theorem dots_ne : ∀ l : List UInt8, dots l ≠ []
  | [] => by simp [dots]
  | c :: l => by
    rw [dots]
    split
    · simp
    · split <;> simp

/-- What stands ahead of the first point belongs to the first piece. -/
theorem dots_front : ∀ (a b : List UInt8), (∀ c ∈ a, c ≠ 46) → dots (a ++ 46 :: b) = a :: dots b
  | [], b, _ => by simp [dots]
  | c :: a, b, h => by
    have ih := dots_front a b fun d hd => h d (List.mem_cons_of_mem _ hd)
    rw [List.cons_append, dots, if_neg (h c (by simp)), ih]

theorem dots_none : ∀ (a : List UInt8), (∀ c ∈ a, c ≠ 46) → dots a = [a]
  | [], _ => rfl
  | c :: a, h => by
    have ih := dots_none a fun d hd => h d (List.mem_cons_of_mem _ hd)
    rw [dots, if_neg (h c (by simp)), ih]

/-- One piece of a path. -/
def stepOk (p : List UInt8) : Bool := !p.isEmpty && decide (p.length ≤ 60) && validD p

/-- A path's steps; none: it is no path. -/
def stepsOf (l : List UInt8) : Option (List (List UInt8)) := if (dots l).length ≤ 4 ∧ (dots l).all stepOk = true then some (dots l) else none

theorem steps_bad {l : List UInt8} {out rest : List (List UInt8)} {p : List UInt8} (h : dots l = out ++ p :: rest) (hp : stepOk p = false) : stepsOf l = none := by
  unfold stepsOf
  rw [if_neg]
  rintro ⟨_, h2⟩
  rw [h, List.all_append, List.all_cons, hp] at h2
  simp at h2

theorem steps_many {l : List UInt8} {out rest : List (List UInt8)} {p : List UInt8} (h : dots l = out ++ p :: rest) (hp : out.length = 4) : stepsOf l = none := by
  unfold stepsOf
  rw [if_neg]
  rintro ⟨h1, _⟩
  rw [h] at h1
  simp at h1
  omega

theorem steps_good {l : List UInt8} {out : List (List UInt8)} (h : dots l = out) (h1 : out.length ≤ 4) (h2 : out.all stepOk = true) : stepsOf l = some out := by
  unfold stepsOf
  rw [h, if_pos ⟨h1, h2⟩]

/-- The place of the first point. -/
theorem index_dot : ∀ l : List UInt8, (index l [46] = -1 ∧ ∀ c ∈ l, c ≠ 46) ∨ ∃ a b, l = a ++ 46 :: b ∧ index l [46] = (a.length : Int) ∧ ∀ c ∈ a, c ≠ 46
  | [] => .inl ⟨rfl, by simp⟩
  | c :: l => by
    rw [index]
    by_cases hc : c = 46
    · subst hc
      exact .inr ⟨[], l, rfl, by simp, by simp⟩
    · have hn : ([46] : List UInt8).isPrefixOf (c :: l) = false := by simp [List.isPrefixOf]; exact fun e => hc e.symm
      rw [hn, if_neg (by simp)]
      rcases index_dot l with ⟨h1, h2⟩ | ⟨a, b, rfl, h1, h2⟩
      · left
        rw [h1]
        exact ⟨rfl, fun d hd => by rcases List.mem_cons.1 hd with rfl | hd; exact hc; exact h2 d hd⟩
      · right
        refine ⟨c :: a, b, rfl, ?_, fun d hd => by rcases List.mem_cons.1 hd with rfl | hd; exact hc; exact h2 d hd⟩
        rw [h1, if_neg (by simp)]
        simp

/-- Cut at the first k points at most: where there are no more, that is all pieces; else k + 1 of them, and there are more. -/
theorem splitK_dots : ∀ (k : Nat) (l : List UInt8), (splitK [46] 0 k l = dots l ∧ (dots l).length ≤ k + 1) ∨ ((splitK [46] 0 k l).length = k + 1 ∧ k + 1 < (dots l).length)
  | 0, l => by
    rcases index_dot l with ⟨_, h⟩ | ⟨a, b, rfl, _, h⟩
    · left
      rw [dots_none l h]
      exact ⟨rfl, by simp⟩
    · right
      rw [dots_front a b h]
      refine ⟨rfl, ?_⟩
      have := dots_ne b
      cases hb : dots b with
      | nil => exact absurd hb this
      | cons => simp
  | k + 1, l => by
    rcases index_dot l with ⟨hi, h⟩ | ⟨a, b, rfl, hi, h⟩
    · left
      rw [dots_none l h, splitK, hi]
      exact ⟨rfl, by simp⟩
    · have e : splitK [46] 0 (k + 1) (a ++ 46 :: b) = a :: splitK [46] 0 k b := by
        rw [splitK, hi, if_neg (by simp)]
        simp
      rw [e, dots_front a b h]
      rcases splitK_dots k b with ⟨h1, h2⟩ | ⟨h1, h2⟩
      · left
        rw [h1]
        exact ⟨rfl, by simp; omega⟩
      · right
        simp only [List.length_cons]
        omega

theorem dots_length_le : ∀ l : List UInt8, (dots l).length ≤ l.length + 1
  | [] => by simp [dots]
  | c :: l => by
    have ih := dots_length_le l
    rw [dots]
    split
    · simp; omega
    · split
      · rename_i h; rw [h] at ih; simp at ih ⊢; omega
      · simp


theorem at_dot {l : List UInt8} {a i : Nat} (ha : a ≤ i) (hi : l[i]? = some 46) (hno : ∀ c ∈ (l.drop a).take (i - a), c ≠ 46) : dots (l.drop a) = (l.drop a).take (i - a) :: dots (l.drop (i + 1)) := by
  have e : l.drop a = (l.drop a).take (i - a) ++ 46 :: l.drop (i + 1) := by
    have hlt : i < l.length := (List.getElem?_eq_some_iff.1 hi).1
    have h1 : (l.drop a).drop (i - a) = 46 :: l.drop (i + 1) := by
      rw [List.drop_drop, show a + (i - a) = i by omega, List.drop_eq_getElem_cons hlt]
      congr 1
      exact (List.getElem?_eq_some_iff.1 hi).2
    rw [← h1, List.take_append_drop]
  conv => lhs; rw [e]
  exact dots_front _ _ hno

theorem at_end {l : List UInt8} {a i : Nat} (hi : l.length ≤ i) (hno : ∀ c ∈ (l.drop a).take (i - a), c ≠ 46) : dots (l.drop a) = [(l.drop a).take (i - a)] := by
  rw [List.take_of_length_le (by simp; omega)] at hno ⊢
  exact dots_none _ hno

theorem no_next {l : List UInt8} {a i : Nat} (ha : a ≤ i) {c : UInt8} (hi : l[i]? = some c) (hc : c ≠ 46) (hno : ∀ c ∈ (l.drop a).take (i - a), c ≠ 46) : ∀ c ∈ (l.drop a).take (i + 1 - a), c ≠ 46 := by
  intro d hd
  have hlt : i < l.length := (List.getElem?_eq_some_iff.1 hi).1
  rw [show i + 1 - a = (i - a) + 1 by omega, List.take_add_one, List.mem_append] at hd
  rcases hd with hd | hd
  · exact hno d hd
  · rw [List.getElem?_drop, show a + (i - a) = i by omega, hi] at hd
    simp at hd
    rw [hd]; exact hc

theorem no_start (l : List UInt8) (a : Nat) : ∀ c ∈ (l.drop a).take (a - a), c ≠ 46 := by simp
end Go.Proofs.YtijibjdgnaphiaaDoor
