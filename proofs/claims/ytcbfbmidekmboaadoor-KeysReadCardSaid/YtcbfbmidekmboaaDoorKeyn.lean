/- How many bytes a formed value's key has at most; no condition. -/
import Derived.Test.YtcbfbmidekmboaaDoorKeyl
import Derived.Test.YtcbfbmidekmboaaDoorOrd
namespace Go.Proofs.YtcbfbmidekmboaaDoor
open Go.ChangeShapes Go.WideShapes Go.Deep Go.RowKit Go.Lib

theorem names_short : ∀ {ns : List ByteArray} {p : Option ByteArray}, namesOk p ns = true → ∀ y ∈ ns, y.size ≤ 60
  | [], _, _, y, hy => by cases hy
  | n :: r, p, h, y, hy => by
    rw [namesOk] at h
    simp only [Bool.and_eq_true] at h
    rcases List.mem_cons.1 hy with rfl | hy
    · have := h.1; unfold textOk at this; simp only [Bool.and_eq_true, decide_eq_true_eq] at this; exact this.1
    · exact names_short h.2.2 y hy

theorem textL_short {s : ByteArray} (h : s.size ≤ 60) : (textL s.data.toList).length ≤ 122 := by
  have := (textL_length s.data.toList).2
  have e : s.data.toList.length = s.size := by simp
  omega

theorem keyAll_length {K : Nat} {o : Bool} : ∀ {xs : List AV} {ns : List ByteArray}, (∀ y ∈ ns, y.size ≤ 60) → (∀ x ∈ xs, (AV.key x).length ≤ K) → (AV.keyAll o ns xs).length ≤ xs.length * (K + 123)
  | [], _, _, _ => by simp [AV.keyAll]
  | x :: xs, ns, hs, h => by
    have h1 := h x (by simp)
    have h2 := keyAll_length (o := o) (xs := xs) (ns := ns.tail) (fun y hy => hs y (List.mem_of_mem_tail hy)) (fun y hy => h y (List.mem_cons_of_mem _ hy))
    have h3 : (textL (ns.headD ⟨#[]⟩).data.toList).length ≤ 122 := by
      cases ns with
      | nil => exact textL_short (by show (0 : Nat) ≤ 60; omega)
      | cons y ns => exact textL_short (hs y (by simp))
    rw [AV.keyAll]
    cases o
    · simp only [Bool.false_eq_true, if_false, List.nil_append, List.length_append, List.length_cons, Nat.add_mul] at *
      omega
    · simp only [if_true, List.cons_append, List.length_append, List.length_cons, Nat.add_mul] at *
      omega

theorem key_bound : ∀ (t : AV) (lv : Nat), AV.formedJ t lv = true → (AV.key t).length ≤ 200 * 40 ^ lv := by
  intro t
  induction t using AV.ind with
  | h k n s na nc ns xa xc xs ih =>
    intro lv hf
    rw [AV.formedJ] at hf
    by_cases h0 : lv = 0
    · rw [if_pos h0] at hf; cases hf
    rw [if_neg h0] at hf
    obtain ⟨m, rfl⟩ : ∃ m, lv = m + 1 := ⟨lv - 1, by omega⟩
    have hp : 1 ≤ 40 ^ m := Nat.one_le_pow _ _ (by decide)
    rw [Nat.pow_succ, AV.key]
    by_cases k012 : k = 0 ∨ k = 1 ∨ k = 2
    · rw [if_neg (by omega), if_neg (by omega), if_neg (by omega)]
      simp only [List.length_cons, List.length_nil]
      omega
    rw [if_neg k012] at hf
    by_cases k3 : k = 3
    · rw [if_pos k3, List.length_cons, bigL_length]
      omega
    rw [if_neg k3] at hf ⊢
    by_cases k4 : k = 4
    · rw [if_pos k4] at hf ⊢
      simp only [Bool.and_eq_true, decide_eq_true_eq] at hf
      have h1 : s.size ≤ 60 := by have := hf.2.1; unfold textOk at this; simp only [Bool.and_eq_true, decide_eq_true_eq] at this; exact this.1
      have := textL_short h1
      rw [List.length_cons]
      omega
    rw [if_neg k4] at hf ⊢
    by_cases k5 : k = 5
    · rw [if_pos k5] at hf
      rw [if_pos (.inl k5)]
      simp only [Bool.and_eq_true, decide_eq_true_eq, Nat.add_sub_cancel] at hf
      obtain ⟨_, _, hns, hx, ha⟩ := hf
      have h1 := keyAll_length (K := 200 * 40 ^ m) (o := decide (k = 6)) (xs := xs) (ns := ns) (by rw [hns]; simp) (fun x hx => ih x hx m (AV.allJ_all ha x hx))
      have h2 : xs.length * (200 * 40 ^ m + 123) ≤ 24 * (200 * 40 ^ m + 123) := Nat.mul_le_mul_right _ hx
      simp only [List.length_cons, List.length_append, List.length_nil]
      omega
    rw [if_neg k5] at hf
    by_cases k6 : k = 6
    · rw [if_pos k6] at hf
      rw [if_pos (.inr k6)]
      simp only [Bool.and_eq_true, decide_eq_true_eq, Nat.add_sub_cancel] at hf
      obtain ⟨_, _, _, ⟨hx, ha⟩, hn⟩ := hf
      have h1 := keyAll_length (K := 200 * 40 ^ m) (o := decide (k = 6)) (xs := xs) (ns := ns) (names_short hn) (fun x hx => ih x hx m (AV.allJ_all ha x hx))
      have h2 : xs.length * (200 * 40 ^ m + 123) ≤ 24 * (200 * 40 ^ m + 123) := Nat.mul_le_mul_right _ hx
      simp only [List.length_cons, List.length_append, List.length_nil]
      omega
    · rw [if_neg k6] at hf
      cases hf
end Go.Proofs.YtcbfbmidekmboaaDoor
