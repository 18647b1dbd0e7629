/- Whether a value is formed: the program and the document answer alike, for every value. -/
import Derived.Test.YtijibjdgnaphiabDoorFormo
namespace Go.Proofs.YtijibjdgnaphiabDoor
open Go.ChangeShapes Go.WideShapes Go.Deep Go.RowKit Go.Lib

theorem allJ_eq {xs : List AV} (ih : ∀ x ∈ xs, ∀ lv : Nat, AV.formedJ x lv = (decide (AV.dep x (lv + 1) ≤ lv) && AV.formedR x)) : ∀ lv : Nat, AV.allJ xs lv = (decide (AV.depAll xs (lv + 1) ≤ lv) && AV.allR xs) := by
  induction xs with
  | nil => intro lv; simp [AV.allJ, AV.depAll, AV.allR]
  | cons x xs hx =>
    intro lv
    rw [AV.allJ, AV.depAll, AV.allR, ih x (by simp), hx (fun y hy => ih y (by simp [hy]))]
    have : decide (max (AV.dep x (lv + 1)) (AV.depAll xs (lv + 1)) ≤ lv) = (decide (AV.dep x (lv + 1) ≤ lv) && decide (AV.depAll xs (lv + 1) ≤ lv)) := by
      rw [← Bool.decide_and, decide_eq_decide]; exact Nat.max_le
    rw [this]
    cases decide (AV.dep x (lv + 1) ≤ lv) <;> cases decide (AV.depAll xs (lv + 1) ≤ lv) <;> cases AV.formedR x <;> simp

/-- The one is the other, and depth. -/
theorem formed_eq : ∀ (t : AV) (lv : Nat), AV.formedJ t lv = (decide (AV.dep t (lv + 1) ≤ lv) && AV.formedR t) := by
  intro t
  induction t using AV.ind with
  | h k n s na nc ns xa xc xs ih =>
    intro lv
    have hall := allJ_eq ih
    by_cases h0 : lv = 0
    · subst h0
      have h1 : 1 ≤ AV.dep (.mk k n s na nc ns xa xc xs) (0 + 1) := by rw [AV.dep, if_pos (.inr rfl)]; exact Nat.le_refl _
      rw [AV.formedJ, if_pos rfl, decide_eq_false (by omega), Bool.false_and]
    · have hempty : s.toList = [] → textOk s = true := fun h => by
        have hz : s.data.toList = [] := by rw [← ByteArray.toList_eq]; exact h
        have hsz : s.size = 0 := by
          have := congrArg List.length hz
          simpa using this
        unfold textOk
        rw [hz, hsz]
        rfl
      have hd1 : decide (1 ≤ lv) = true := decide_eq_true (by omega)
      rw [AV.formedJ, if_neg h0, AV.dep, AV.formedR]
      by_cases k012 : k = 0 ∨ k = 1 ∨ k = 2
      · rw [if_pos k012, if_pos (.inl ⟨by omega, by omega⟩), hd1, Bool.true_and]
        by_cases hg : n = 0 ∧ s.toList = [] ∧ ns = [] ∧ xs = []
        · obtain ⟨rfl, hs, rfl, rfl⟩ := hg
          rw [if_pos ⟨by omega, by omega, .inr rfl, .inr hs, .inr (by simp), .inr (by simp), by simp, fun h => by omega⟩]
          simp [hs, hempty hs, namesOk, AV.allR]
        · rw [if_neg (fun h => hg ⟨h.2.2.1.resolve_left (by omega), h.2.2.2.1.resolve_left (by omega), List.length_eq_zero_iff.1 (by have := h.2.2.2.2.1.resolve_left (by omega); omega), List.length_eq_zero_iff.1 (by have := h.2.2.2.2.2.1.resolve_left (by omega); omega)⟩)]
          by_cases a : n = 0
          · by_cases b : s.toList = []
            · by_cases c : ns = []
              · have d : ¬ xs = [] := fun d => hg ⟨a, b, c, d⟩
                simp [d]
              · simp [c]
            · simp [b]
          · simp [a]
      · rw [if_neg k012]
        by_cases k3 : k = 3
        · subst k3
          rw [if_pos rfl, if_pos (.inl ⟨by omega, by omega⟩), hd1, Bool.true_and]
          by_cases hg : s.toList = [] ∧ ns = [] ∧ xs = []
          · obtain ⟨hs, rfl, rfl⟩ := hg
            rw [if_pos ⟨by omega, by omega, .inl rfl, .inr hs, .inr (by simp), .inr (by simp), by simp, fun h => by omega⟩]
            simp [hs, hempty hs, namesOk, AV.allR]
          · rw [if_neg (fun h => hg ⟨h.2.2.2.1.resolve_left (by omega), List.length_eq_zero_iff.1 (by have := h.2.2.2.2.1.resolve_left (by omega); omega), List.length_eq_zero_iff.1 (by have := h.2.2.2.2.2.1.resolve_left (by omega); omega)⟩)]
            by_cases b : s.toList = []
            · by_cases c : ns = []
              · have d : ¬ xs = [] := fun d => hg ⟨b, c, d⟩
                simp [d]
              · simp [c]
            · simp [b]
        · rw [if_neg k3]
          by_cases k4 : k = 4
          · subst k4
            rw [if_pos rfl, if_pos (.inl ⟨by omega, by omega⟩), hd1, Bool.true_and]
            by_cases hg : n = 0 ∧ ns = [] ∧ xs = []
            · obtain ⟨rfl, rfl, rfl⟩ := hg
              rw [if_pos ⟨by omega, by omega, .inr rfl, .inl rfl, .inr (by simp), .inr (by simp), by simp, fun h => by omega⟩]
              simp [namesOk, AV.allR]
            · rw [if_neg (fun h => hg ⟨h.2.2.1.resolve_left (by omega), List.length_eq_zero_iff.1 (by have := h.2.2.2.2.1.resolve_left (by omega); omega), List.length_eq_zero_iff.1 (by have := h.2.2.2.2.2.1.resolve_left (by omega); omega)⟩)]
              by_cases a : n = 0
              · by_cases c : ns = []
                · have d : ¬ xs = [] := fun d => hg ⟨a, c, d⟩
                  simp [d]
                · simp [c]
              · simp [a]
          · rw [if_neg k4]
            have hdep : ∀ b : Bool, (decide (AV.depAll xs (lv + 1 - 1) + 1 ≤ lv) && b) = (decide (AV.depAll xs (lv - 1 + 1) ≤ lv - 1) && b) := fun b => by
              rw [show lv + 1 - 1 = lv - 1 + 1 by omega]
              congr 1
              rw [decide_eq_decide]
              omega
            by_cases k5 : k = 5
            · subst k5
              rw [if_pos rfl, if_neg (fun h => by omega), hdep, hall (lv - 1)]
              by_cases hg : n = 0 ∧ s.toList = [] ∧ ns = [] ∧ xs.length ≤ 24
              · obtain ⟨rfl, hs, rfl, hx⟩ := hg
                rw [if_pos ⟨by omega, by omega, .inr rfl, .inr hs, .inr (by simp), .inl (by omega), hx, fun h => by omega⟩]
                simp [hs, hempty hs, namesOk, hx]
              · rw [if_neg (fun h => hg ⟨h.2.2.1.resolve_left (by omega), h.2.2.2.1.resolve_left (by omega), List.length_eq_zero_iff.1 (by have := h.2.2.2.2.1.resolve_left (by omega); omega), h.2.2.2.2.2.2.1⟩), Bool.and_false]
                by_cases a : n = 0
                · by_cases b : s.toList = []
                  · by_cases c : ns = []
                    · have d : ¬ xs.length ≤ 24 := fun d => hg ⟨a, b, c, d⟩
                      simp [d]
                    · simp [c]
                  · simp [b]
                · simp [a]
            · rw [if_neg k5]
              by_cases k6 : k = 6
              · subst k6
                rw [if_pos rfl, if_neg (fun h => by omega), hdep, hall (lv - 1)]
                by_cases hg : n = 0 ∧ s.toList = [] ∧ ns.length = xs.length ∧ xs.length ≤ 24
                · obtain ⟨rfl, hs, hl, hx⟩ := hg
                  rw [if_pos ⟨by omega, by omega, .inr rfl, .inr hs, .inl rfl, .inl (by omega), hx, fun _ => hl⟩]
                  rw [hempty hs, decide_eq_true hs, decide_eq_true hl, decide_eq_true hx, decide_eq_true rfl]
                  cases decide (AV.depAll xs (lv - 1 + 1) ≤ lv - 1) <;> cases AV.allR xs <;> simp
                · rw [if_neg (fun h => hg ⟨h.2.2.1.resolve_left (by omega), h.2.2.2.1.resolve_left (by omega), h.2.2.2.2.2.2.2 rfl, h.2.2.2.2.2.2.1⟩), Bool.and_false]
                  by_cases a : n = 0
                  · by_cases b : s.toList = []
                    · by_cases c : ns.length = xs.length
                      · have d : ¬ xs.length ≤ 24 := fun d => hg ⟨a, b, c, d⟩
                        simp [d]
                      · simp [c]
                    · simp [b]
                  · simp [a]
              · rw [if_neg k6, if_pos (.inl ⟨k5, k6⟩), if_neg (fun h => by omega), Bool.and_false]

end Go.Proofs.YtijibjdgnaphiabDoor
