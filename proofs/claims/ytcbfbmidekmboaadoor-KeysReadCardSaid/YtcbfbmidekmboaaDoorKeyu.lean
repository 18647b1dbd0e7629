/- A key tells its value and where it ends, formed or not. -/
import Derived.Test.YtcbfbmidekmboaaDoorRfg
import Derived.Test.YtcbfbmidekmboaaDoorRgi
namespace Go.Proofs.YtcbfbmidekmboaaDoor
open Go.ChangeShapes Go.WideShapes Go.Deep Go.RowKit Go.Lib

theorem text_once {s t r r' : List UInt8} (h : textL s ++ r = textL t ++ r') : s = t ∧ r = r' := by
  have h2 : escsL s ++ ([0, 0] ++ r) = textL t ++ r' := by rw [← h]; simp [textL, escsL]
  obtain ⟨s', rfl, h3⟩ := text_split h2
  cases s' with
  | nil =>
    refine ⟨(List.append_nil _).symm, ?_⟩
    have h4 : (0 : UInt8) :: 0 :: r = 0 :: 0 :: r' := h3
    simpa using h4
  | cons x s =>
    rw [textL_cons, List.append_assoc] at h3
    unfold escL at h3
    by_cases hx : x = 0
    · rw [if_pos hx] at h3
      simp only [List.cons_append, List.nil_append, List.cons.injEq, true_and] at h3
      exact absurd h3.1 (by decide)
    · rw [if_neg hx] at h3
      simp only [List.cons_append, List.nil_append, List.cons.injEq] at h3
      exact absurd h3.1.symm hx

theorem big_once {n m : Nat} {r r' : List UInt8} (hn : n < 18446744073709551616) (hm : m < 18446744073709551616) (h : bigL n ++ r = bigL m ++ r') : n = m ∧ r = r' := by
  obtain ⟨h1, h2⟩ := List.append_inj h (by rw [bigL_length, bigL_length])
  refine ⟨?_, h2⟩
  have h3 := cmpP_big [] [] hn hm
  rw [h1, cmpP_same] at h3
  have h4 : lexI (compareInt (n : Int) (m : Int)) 0 = 0 := h3.symm
  rw [lexI_nil] at h4
  have := cmpI_zero.1 h4
  omega

namespace AV
mutual
/-- A value such as a reader builds: formed or not. -/
def Made : AV → Prop
  | mk k n s _ _ ns _ _ xs => (0 ≤ k ∧ k ≤ 6) ∧ (if k = 3 then -9223372036854775808 ≤ n ∧ n < 9223372036854775808 else n = 0) ∧ (k = 4 ∨ s = ⟨#[]⟩) ∧ (if k = 6 then ns.length = xs.length else ns = []) ∧ (k = 5 ∨ k = 6 ∨ xs = []) ∧ MadeAll xs
def MadeAll : List AV → Prop
  | [] => True
  | x :: xs => Made x ∧ MadeAll xs
end

theorem Made.head {x : AV} (h : Made x) : ∃ c l, key x = c :: l ∧ c ≠ 0 := by
  obtain ⟨k, n, s, na, nc, ns, xa, xc, xs⟩ := x
  refine ⟨_, _, by rw [key], ?_⟩
  intro e
  have h2 := congrArg UInt8.toNat e
  rw [toNat_byte] at h2
  rw [Made] at h
  have e0 : (0 : UInt8).toNat = 0 := rfl
  have := h.1
  omega

theorem all_once (o : Bool) : ∀ (xs : List AV), (∀ x ∈ xs, ∀ (y : AV) (r r' : List UInt8), Made x → Made y → key x ++ r = key y ++ r' → eqv x y = true ∧ r = r') →
    ∀ (ns ns' : List ByteArray) (ys : List AV) (r r' : List UInt8), MadeAll xs → MadeAll ys → (if o then ns.length = xs.length else ns = []) → (if o then ns'.length = ys.length else ns' = []) →
      keyAll o ns xs ++ ([0] ++ r) = keyAll o ns' ys ++ ([0] ++ r') → xs.length = ys.length ∧ eqvAll xs ys = true ∧ ns = ns' ∧ r = r'
  | [], _, ns, ns', [], r, r', _, _, hl, hl', h => by
    refine ⟨rfl, rfl, ?_, by simpa [keyAll] using h⟩
    cases o
    · rw [if_neg (by decide)] at hl hl'
      rw [hl, hl']
    · rw [if_pos rfl] at hl hl'
      rw [List.length_eq_zero_iff.1 hl, List.length_eq_zero_iff.1 hl']
  | [], _, ns, ns', y :: ys, r, r', _, h', _, _, h => by
    rw [MadeAll] at h'
    obtain ⟨c, l, e, hc⟩ := h'.1.head
    rw [keyAll, keyAll, e] at h
    cases o
    · simp only [Bool.false_eq_true, if_false, List.nil_append, List.cons_append, List.cons.injEq] at h
      exact absurd h.1.symm hc
    · simp only [if_true, List.nil_append, List.cons_append, List.cons.injEq] at h
      exact absurd h.1 (by decide)
  | x :: xs, _, ns, ns', [], r, r', h1, _, _, _, h => by
    rw [MadeAll] at h1
    obtain ⟨c, l, e, hc⟩ := h1.1.head
    rw [keyAll, keyAll, e] at h
    cases o
    · simp only [Bool.false_eq_true, if_false, List.nil_append, List.cons_append, List.cons.injEq] at h
      exact absurd h.1 hc
    · simp only [if_true, List.nil_append, List.cons_append, List.cons.injEq] at h
      exact absurd h.1 (by decide)
  | x :: xs, ih, ns, ns', y :: ys, r, r', h1, h1', hl, hl', h => by
    rw [MadeAll] at h1 h1'
    rw [keyAll, keyAll] at h
    cases o
    · rw [if_neg (by decide)] at hl hl'
      subst hl hl'
      simp only [Bool.false_eq_true, if_false, List.nil_append, List.append_assoc] at h
      obtain ⟨e1, h2⟩ := ih x (by simp) y _ _ h1.1 h1'.1 h
      obtain ⟨e2, e3, _, e4⟩ := all_once false xs (fun z hz => ih z (by simp [hz])) [] [] ys r r' h1.2 h1'.2 (by simp) (by simp) (by simpa using h2)
      exact ⟨by simp [e2], by rw [eqvAll, e1, e3]; rfl, rfl, e4⟩
    · rw [if_pos rfl] at hl hl'
      match ns, ns', hl, hl', h with
      | a :: ns, b :: ns', hl, hl', h =>
        simp only [if_true, List.headD_cons, List.tail_cons, List.cons_append, List.append_assoc, List.cons.injEq, true_and] at h
        obtain ⟨ea, h2⟩ := text_once h
        obtain ⟨e1, h3⟩ := ih x (by simp) y _ _ h1.1 h1'.1 h2
        obtain ⟨e2, e3, e4, e5⟩ := all_once true xs (fun z hz => ih z (by simp [hz])) ns ns' ys r r' h1.2 h1'.2 (by rw [if_pos rfl]; simpa using hl) (by rw [if_pos rfl]; simpa using hl') (by simpa using h3)
        have eab : a = b := ByteArray.ext (by rw [← Array.toList_inj]; exact ea)
        exact ⟨by simp [e2], by rw [eqvAll, e1, e3]; rfl, by rw [eab, e4], e5⟩

/-- A key tells its value, and what stands behind it. -/
theorem key_once : ∀ (x y : AV) (r r' : List UInt8), Made x → Made y → key x ++ r = key y ++ r' → eqv x y = true ∧ r = r' := by
  intro x
  induction x using AV.ind with
  | h k n s na nc ns xa xc xs ih =>
    intro y r r' hm hm' h
    obtain ⟨k', n', s', na', nc', ns', xa', xc', xs'⟩ := y
    rw [Made] at hm hm'
    obtain ⟨hk, hn, hs, hns, hxs, ha⟩ := hm
    obtain ⟨hk', hn', hs', hns', hxs', ha'⟩ := hm'
    rw [key, key, List.cons_append, List.cons_append, List.cons.injEq] at h
    obtain ⟨h0, h⟩ := h
    have e0 := congrArg UInt8.toNat h0
    rw [toNat_byte, toNat_byte] at e0
    obtain rfl : k = k' := by omega
    clear h0 e0
    by_cases h3 : k = 3
    · rw [if_pos h3, if_pos h3] at h
      rw [if_pos h3] at hn hn'
      obtain ⟨e1, e2⟩ := big_once (by omega) (by omega) h
      have e3 : n = n' := by omega
      rw [if_neg (by omega)] at hns hns'
      have es : s = s' := (hs.resolve_left (by omega)).trans (hs'.resolve_left (by omega)).symm
      have ex : xs = [] := (hxs.resolve_left (by omega)).resolve_left (by omega)
      have ex' : xs' = [] := (hxs'.resolve_left (by omega)).resolve_left (by omega)
      subst e3 es ex ex' hns hns'
      exact ⟨by simp [eqv, eqvAll], e2⟩
    rw [if_neg h3, if_neg h3] at h
    rw [if_neg h3] at hn hn'
    by_cases h4 : k = 4
    · rw [if_pos h4, if_pos h4] at h
      obtain ⟨e1, e2⟩ := text_once h
      have es : s = s' := ByteArray.ext (by rw [← Array.toList_inj]; exact e1)
      rw [if_neg (by omega)] at hns hns'
      have ex : xs = [] := (hxs.resolve_left (by omega)).resolve_left (by omega)
      have ex' : xs' = [] := (hxs'.resolve_left (by omega)).resolve_left (by omega)
      subst es ex ex' hns hns' hn hn'
      exact ⟨by simp [eqv, eqvAll], e2⟩
    rw [if_neg h4, if_neg h4] at h
    have es : s = s' := (hs.resolve_left h4).trans (hs'.resolve_left h4).symm
    by_cases h56 : k = 5 ∨ k = 6
    · rw [if_pos h56, if_pos h56, List.append_assoc, List.append_assoc] at h
      obtain ⟨e1, e2, e3, e4⟩ := all_once (decide (k = 6)) xs ih ns ns' xs' r r' ha ha' (by simpa using hns) (by simpa using hns') h
      subst es e3 hn hn'
      exact ⟨by simp [eqv, e1, e2], e4⟩
    · rw [if_neg h56, if_neg h56, List.nil_append, List.nil_append] at h
      rw [if_neg (by omega)] at hns hns'
      have ex : xs = [] := (hxs.resolve_left (by omega)).resolve_left (by omega)
      have ex' : xs' = [] := (hxs'.resolve_left (by omega)).resolve_left (by omega)
      subst es ex ex' hns hns' hn hn'
      exact ⟨by simp [eqv, eqvAll], h⟩
theorem bytes_none {s : ByteArray} (h : s.toList = []) : s = ⟨#[]⟩ := by
  rw [ByteArray.toList_eq] at h
  exact ByteArray.ext (Array.ext' h)

theorem madeAll_of {lv : Nat} {w : World} : ∀ (xs : List AV), (∀ x ∈ xs, ∀ (lv : Nat) (w : World), formedJ x lv = true → x.In w → Made x) → allJ xs lv = true → (∀ x ∈ xs, In w x) → MadeAll xs
  | [], _, _, _ => by rw [MadeAll]; trivial
  | x :: xs, ih, h, hi => by
    rw [allJ, Bool.and_eq_true] at h
    rw [MadeAll]
    exact ⟨ih x (by simp) lv w h.1 (hi x (by simp)), madeAll_of xs (fun z hz => ih z (by simp [hz])) h.2 (fun z hz => hi z (by simp [hz]))⟩

/-- What is formed is such as a reader builds. -/
theorem made_of : ∀ (x : AV) (lv : Nat) (w : World), formedJ x lv = true → x.In w → Made x := by
  intro x
  induction x using AV.ind with
  | h k n s na nc ns xa xc xs ih =>
    intro lv w hf hi
    have hn := hi.num
    have he := hi.each
    rw [Made]
    rcases parts hf with ⟨hk, h1, h2, h3, h4⟩ | ⟨hk, h2, h3, h4⟩ | ⟨hk, h1, h3, h4⟩ | ⟨hk, h1, h2, h3, h4⟩ | ⟨hk, h1, h2, h3, h4⟩
    · exact ⟨by omega, by rw [if_neg (by omega)]; exact h1, .inr (bytes_none h2), by rw [if_neg (by omega)]; exact h3, .inr (.inr h4), by rw [h4, MadeAll]; trivial⟩
    · exact ⟨by omega, by rw [if_pos hk]; exact hn, .inr (bytes_none h2), by rw [if_neg (by omega)]; exact h3, .inr (.inr h4), by rw [h4, MadeAll]; trivial⟩
    · exact ⟨by omega, by rw [if_neg (by omega)]; exact h1, .inl hk, by rw [if_neg (by omega)]; exact h3, .inr (.inr h4), by rw [h4, MadeAll]; trivial⟩
    · exact ⟨by omega, by rw [if_neg (by omega)]; exact h1, .inr (bytes_none h2), by rw [if_neg (by omega)]; exact h3, .inl hk, madeAll_of xs ih h4 he⟩
    · exact ⟨by omega, by rw [if_neg (by omega)]; exact h1, .inr (bytes_none h2), by rw [if_pos hk]; exact h3, .inr (.inl hk), madeAll_of xs ih h4 he⟩
end AV
end Go.Proofs.YtcbfbmidekmboaaDoor
