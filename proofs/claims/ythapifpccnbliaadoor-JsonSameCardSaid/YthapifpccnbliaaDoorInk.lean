/- Formed values with one text are alike; no condition. -/
import Derived.Test.YthapifpccnbliaaDoorInj
namespace Go.Proofs.YthapifpccnbliaaDoor
open Go.ChangeShapes Go.WideShapes Go.Deep Go.RowKit Go.Lib

/-- The first byte of a value of each kind. -/
def firstOk (k : Int) (c : UInt8) : Prop :=
  (k = 0 ∧ c = 110) ∨ (k = 1 ∧ c = 102) ∨ (k = 2 ∧ c = 116) ∨ (k = 3 ∧ (c = 45 ∨ isDigit c = true)) ∨ (k = 4 ∧ c = 34) ∨ (k = 5 ∧ c = 91) ∨ (k = 6 ∧ c = 123)

theorem firstOk_same {k m : Int} {c : UInt8} (h : firstOk k c) (h' : firstOk m c) : k = m := by
  have dig : isDigit c = true → 48 ≤ c.toNat ∧ c.toNat ≤ 57 := fun h => by simpa [isDigit] using h
  have nd : ∀ d : UInt8, isDigit d = false → isDigit c = true → c ≠ d := fun d hd hc e => by rw [e, hd] at hc; cases hc
  rcases h with ⟨rfl, rfl⟩ | ⟨rfl, rfl⟩ | ⟨rfl, rfl⟩ | ⟨rfl, h⟩ | ⟨rfl, rfl⟩ | ⟨rfl, rfl⟩ | ⟨rfl, rfl⟩ <;>
    rcases h' with ⟨rfl, h'⟩ | ⟨rfl, h'⟩ | ⟨rfl, h'⟩ | ⟨rfl, h'⟩ | ⟨rfl, h'⟩ | ⟨rfl, h'⟩ | ⟨rfl, h'⟩ <;>
    first
      | rfl
      | (exact absurd h' (by decide))
      | (rcases h with h | h <;> rw [h'] at h <;> exact absurd h (by decide))

theorem firstOk_not {k : Int} {c d : UInt8} (h : firstOk k c) (hd : d = 93 ∨ d = 125 ∨ d = 44 ∨ d = 58) : c ≠ d := by
  rintro rfl
  rcases hd with rfl | rfl | rfl | rfl <;>
    rcases h with ⟨_, h⟩ | ⟨_, h⟩ | ⟨_, h⟩ | ⟨_, h⟩ | ⟨_, h⟩ | ⟨_, h⟩ | ⟨_, h⟩ <;>
    first
      | (exact absurd h (by decide))

namespace AV
def kind : AV → Int
  | mk k _ _ _ _ _ _ _ _ => k

/-- What is known of a formed value, one level down. -/
theorem formed_parts {k n : Int} {s : ByteArray} {na : Option Addr} {nc : Nat} {ns : List ByteArray} {xa : Option Addr} {xc : Nat} {xs : List AV} {lv : Nat} (h : formedJ (mk k n s na nc ns xa xc xs) lv = true) :
    (k = 0 ∧ n = 0 ∧ s.toList = [] ∧ ns = [] ∧ xs = []) ∨ (k = 1 ∧ n = 0 ∧ s.toList = [] ∧ ns = [] ∧ xs = []) ∨ (k = 2 ∧ n = 0 ∧ s.toList = [] ∧ ns = [] ∧ xs = []) ∨ (k = 3 ∧ s.toList = [] ∧ ns = [] ∧ xs = []) ∨ (k = 4 ∧ n = 0 ∧ ns = [] ∧ xs = []) ∨
    (k = 5 ∧ n = 0 ∧ s.toList = [] ∧ ns = [] ∧ ∀ x ∈ xs, formedJ x (lv - 1) = true) ∨ (k = 6 ∧ n = 0 ∧ s.toList = [] ∧ ns.length = xs.length ∧ ∀ x ∈ xs, formedJ x (lv - 1) = true) := by
  rw [formedJ] at h
  by_cases h0 : lv = 0
  · rw [if_pos h0] at h; cases h
  rw [if_neg h0] at h
  by_cases k012 : k = 0 ∨ k = 1 ∨ k = 2
  · rw [if_pos k012] at h
    simp only [Bool.and_eq_true, decide_eq_true_eq] at h
    rcases k012 with rfl | rfl | rfl
    · exact .inl ⟨rfl, h⟩
    · exact .inr (.inl ⟨rfl, h⟩)
    · exact .inr (.inr (.inl ⟨rfl, h⟩))
  rw [if_neg k012] at h
  by_cases k3 : k = 3
  · rw [if_pos k3] at h
    simp only [Bool.and_eq_true, decide_eq_true_eq] at h
    exact .inr (.inr (.inr (.inl ⟨k3, h⟩)))
  rw [if_neg k3] at h
  by_cases k4 : k = 4
  · rw [if_pos k4] at h
    simp only [Bool.and_eq_true, decide_eq_true_eq] at h
    exact .inr (.inr (.inr (.inr (.inl ⟨k4, h.1, h.2.2⟩))))
  rw [if_neg k4] at h
  by_cases k5 : k = 5
  · rw [if_pos k5] at h
    simp only [Bool.and_eq_true, decide_eq_true_eq] at h
    exact .inr (.inr (.inr (.inr (.inr (.inl ⟨k5, h.1, h.2.1, h.2.2.1, allJ_mem h.2.2.2.2⟩)))))
  rw [if_neg k5] at h
  by_cases k6 : k = 6
  · rw [if_pos k6] at h
    simp only [Bool.and_eq_true, decide_eq_true_eq] at h
    exact .inr (.inr (.inr (.inr (.inr (.inr ⟨k6, h.1, h.2.1, h.2.2.1, allJ_mem h.2.2.2.1.2⟩)))))
  · rw [if_neg k6] at h; cases h

theorem text_first {t : AV} {lv : Nat} (h : formedJ t lv = true) : ∃ c l, t.text = c :: l ∧ firstOk t.kind c := by
  obtain ⟨k, n, s, na, nc, ns, xa, xc, xs⟩ := t
  rw [text, kind]
  rcases formed_parts h with ⟨rfl, _⟩ | ⟨rfl, _⟩ | ⟨rfl, _⟩ | ⟨rfl, _⟩ | ⟨rfl, _⟩ | ⟨rfl, _⟩ | ⟨rfl, _⟩
  · exact ⟨_, _, rfl, .inl ⟨rfl, rfl⟩⟩
  · exact ⟨_, _, rfl, .inr (.inl ⟨rfl, rfl⟩)⟩
  · exact ⟨_, _, rfl, .inr (.inr (.inl ⟨rfl, rfl⟩))⟩
  · simp only [show ¬ ((3 : Int) = 0) by omega, show ¬ ((3 : Int) = 1) by omega, show ¬ ((3 : Int) = 2) by omega, if_true, if_false]
    unfold Lib.itoa
    split
    · exact ⟨_, _, rfl, .inr (.inr (.inr (.inl ⟨rfl, .inl rfl⟩)))⟩
    · obtain ⟨c, l, hc, hd⟩ := decDigits_head n.toNat
      exact ⟨c, l, hc, .inr (.inr (.inr (.inl ⟨rfl, .inr hd⟩)))⟩
  · exact ⟨34, _, rfl, .inr (.inr (.inr (.inr (.inl ⟨rfl, rfl⟩))))⟩
  · exact ⟨91, _, rfl, .inr (.inr (.inr (.inr (.inr (.inl ⟨rfl, rfl⟩)))))⟩
  · exact ⟨123, _, rfl, .inr (.inr (.inr (.inr (.inr (.inr ⟨rfl, rfl⟩)))))⟩

/-- What is shown of each value. -/
def Tells (t : AV) : Prop := ∀ (y : AV) (lv lv' : Nat) (r r' : List UInt8), formedJ t lv = true → formedJ y lv' = true → Stops r → Stops r' → t.text ++ r = y.text ++ r' → eqv t y = true ∧ r = r'

theorem stops_cons {c : UInt8} {l : List UInt8} (h : isDigit c = false) : Stops (c :: l) := fun d hd => by
  obtain rfl : c = d := by simpa using hd
  exact h

theorem commaL_stops (i : Nat) (l : List UInt8) : Stops (commaL (i + 1) ++ l) := by
  unfold commaL
  rw [if_neg (by omega)]
  exact stops_cons (by decide)

theorem items_stops (i : Nat) (xs : List AV) (r : List UInt8) : Stops (itemsL (i + 1) xs ++ 93 :: r) := by
  cases xs with
  | nil => rw [itemsL]; exact stops_cons (by decide)
  | cons x xs => rw [itemsL, List.append_assoc]; exact commaL_stops i _

theorem members_stops (i : Nat) (ns : List ByteArray) (xs : List AV) (r : List UInt8) : Stops (membersL (i + 1) ns xs ++ 125 :: r) := by
  cases xs with
  | nil => rw [membersL]; exact stops_cons (by decide)
  | cons x xs => rw [membersL, List.append_assoc]; exact commaL_stops i _

/-- Not at the end, where an item follows. -/
theorem items_more {i : Nat} {x : AV} {lv : Nat} {l r : List UInt8} (h : formedJ x lv = true) (e : 93 :: r = commaL i ++ (x.text ++ l)) : False := by
  obtain ⟨c, t, hc, hf⟩ := text_first h
  unfold commaL at e
  by_cases hi : i = 0
  · rw [if_pos hi, hc] at e
    simp only [List.nil_append, List.cons_append, List.cons.injEq] at e
    exact firstOk_not hf (.inl rfl) e.1.symm
  · rw [if_neg hi] at e
    simp only [List.cons_append, List.cons.injEq] at e
    exact absurd e.1 (by decide)

theorem items_tell : ∀ {xs ys : List AV} {lv lv' i : Nat} {r r' : List UInt8}, (∀ x ∈ xs, Tells x) → (∀ x ∈ xs, formedJ x lv = true) → (∀ y ∈ ys, formedJ y lv' = true) → itemsL i xs ++ 93 :: r = itemsL i ys ++ 93 :: r' →
    xs.length = ys.length ∧ eqvAll xs ys = true ∧ r = r'
  | [], [], _, _, _, r, r', _, _, _, e => by
    simp only [itemsL, List.nil_append, List.cons.injEq, true_and] at e
    exact ⟨rfl, by simp [eqvAll], e⟩
  | [], y :: ys, _, _, i, r, r', _, _, hy, e => by
    rw [itemsL, itemsL, List.nil_append, List.append_assoc, List.append_assoc] at e
    exact absurd (items_more (hy y (by simp)) e) id
  | x :: xs, [], _, _, i, r, r', _, hx, _, e => by
    rw [itemsL, itemsL, List.nil_append, List.append_assoc, List.append_assoc] at e
    exact absurd (items_more (hx x (by simp)) e.symm) id
  | x :: xs, y :: ys, lv, lv', i, r, r', h, hx, hy, e => by
    rw [itemsL, itemsL, List.append_assoc, List.append_assoc, List.append_assoc, List.append_assoc] at e
    obtain ⟨h1, h2⟩ := h x (by simp) y lv lv' _ _ (hx x (by simp)) (hy y (by simp)) (items_stops i xs r) (items_stops i ys r') (List.append_cancel_left e)
    obtain ⟨h3, h4, h5⟩ := items_tell (fun z hz => h z (List.mem_cons_of_mem _ hz)) (fun z hz => hx z (List.mem_cons_of_mem _ hz)) (fun z hz => hy z (List.mem_cons_of_mem _ hz)) h2
    exact ⟨by simp [h3], by rw [eqvAll, h1, h4]; rfl, h5⟩

theorem members_more {i : Nat} {y : ByteArray} {l r : List UInt8} (e : 125 :: r = commaL i ++ (quotedL y ++ l)) : False := by
  unfold commaL at e
  by_cases hi : i = 0
  · rw [if_pos hi] at e
    simp only [quotedL, List.nil_append, List.cons_append, List.cons.injEq] at e
    exact absurd e.1 (by decide)
  · rw [if_neg hi] at e
    simp only [List.cons_append, List.cons.injEq] at e
    exact absurd e.1 (by decide)

theorem members_tell : ∀ {xs ys : List AV} {ns ms : List ByteArray} {lv lv' i : Nat} {r r' : List UInt8}, ns.length = xs.length → ms.length = ys.length → (∀ x ∈ xs, Tells x) → (∀ x ∈ xs, formedJ x lv = true) → (∀ y ∈ ys, formedJ y lv' = true) →
    membersL i ns xs ++ 125 :: r = membersL i ms ys ++ 125 :: r' → xs.length = ys.length ∧ ns = ms ∧ eqvAll xs ys = true ∧ r = r'
  | [], [], [], [], _, _, _, r, r', _, _, _, _, _, e => by
    simp only [membersL, List.nil_append, List.cons.injEq, true_and] at e
    exact ⟨rfl, rfl, by simp [eqvAll], e⟩
  | [], y :: ys, ns, m :: ms, _, _, i, r, r', _, _, _, _, hy, e => by
    rw [membersL, membersL, List.nil_append, List.append_assoc, List.append_assoc] at e
    exact absurd (members_more e) id
  | x :: xs, [], n :: ns, ms, _, _, i, r, r', _, _, _, hx, _, e => by
    rw [membersL, membersL, List.nil_append, List.append_assoc, List.append_assoc] at e
    exact absurd (members_more e.symm) id
  | x :: xs, y :: ys, n :: ns, m :: ms, lv, lv', i, r, r', hl, hl', h, hx, hy, e => by
    rw [membersL, membersL, List.headD_cons, List.headD_cons, List.tail_cons, List.tail_cons, List.append_assoc, List.append_assoc, List.append_assoc, List.append_assoc] at e
    obtain ⟨h0, e⟩ := quotedL_cancel (List.append_cancel_left e)
    simp only [List.cons_append, List.cons.injEq, true_and, List.append_assoc] at e
    obtain ⟨h1, h2⟩ := h x (by simp) y lv lv' _ _ (hx x (by simp)) (hy y (by simp)) (members_stops i ns xs r) (members_stops i ms ys r') e
    obtain ⟨h3, h4, h5, h6⟩ := members_tell (by simpa using hl) (by simpa using hl') (fun z hz => h z (List.mem_cons_of_mem _ hz)) (fun z hz => hx z (List.mem_cons_of_mem _ hz)) (fun z hz => hy z (List.mem_cons_of_mem _ hz)) h2
    exact ⟨by simp [h3], by rw [h0, h4], by rw [eqvAll, h1, h5]; rfl, h6⟩

theorem empty_eq {s t : ByteArray} (h : s.toList = []) (h' : t.toList = []) : s = t := toList_inj (h.trans h'.symm)

/-- Formed values with one text are alike, whatever stands behind. -/
theorem tells : ∀ t : AV, Tells t := by
  intro t
  induction t using AV.ind with
  | h k n s na nc ns xa xc xs ih =>
    intro y lv lv' r r' hf hf' hr hr' e
    have hk : k = y.kind := by
      obtain ⟨c, l, hc, h1⟩ := text_first hf
      obtain ⟨d, l', hd, h2⟩ := text_first hf'
      rw [hc, hd] at e
      simp only [List.cons_append, List.cons.injEq] at e
      rw [← e.1] at h2
      exact firstOk_same h1 h2
    obtain ⟨k', n', s', na', nc', ns', xa', xc', xs'⟩ := y
    rw [kind] at hk
    subst hk
    have P := formed_parts hf
    have P' := formed_parts hf'
    rw [eqv]
    rcases P with ⟨rfl, rfl, hs, rfl, rfl⟩ | ⟨rfl, rfl, hs, rfl, rfl⟩ | ⟨rfl, rfl, hs, rfl, rfl⟩ | ⟨rfl, hs, rfl, rfl⟩ | ⟨rfl, rfl, rfl, rfl⟩ | ⟨rfl, rfl, hs, rfl, hx⟩ | ⟨rfl, rfl, hs, hl, hx⟩
    · obtain ⟨_, rfl, hs', rfl, rfl⟩ | ⟨h, _⟩ | ⟨h, _⟩ | ⟨h, _⟩ | ⟨h, _⟩ | ⟨h, _⟩ | ⟨h, _⟩ := P'
      all_goals first | omega | skip
      rw [text, text] at e
      obtain rfl := empty_eq hs hs'
      exact ⟨by simp [eqvAll], List.append_cancel_left e⟩
    · obtain ⟨h, _⟩ | ⟨_, rfl, hs', rfl, rfl⟩ | ⟨h, _⟩ | ⟨h, _⟩ | ⟨h, _⟩ | ⟨h, _⟩ | ⟨h, _⟩ := P'
      all_goals first | omega | skip
      rw [text, text] at e
      obtain rfl := empty_eq hs hs'
      exact ⟨by simp [eqvAll], List.append_cancel_left e⟩
    · obtain ⟨h, _⟩ | ⟨h, _⟩ | ⟨_, rfl, hs', rfl, rfl⟩ | ⟨h, _⟩ | ⟨h, _⟩ | ⟨h, _⟩ | ⟨h, _⟩ := P'
      all_goals first | omega | skip
      rw [text, text] at e
      obtain rfl := empty_eq hs hs'
      exact ⟨by simp [eqvAll], List.append_cancel_left e⟩
    · obtain ⟨h, _⟩ | ⟨h, _⟩ | ⟨h, _⟩ | ⟨_, hs', rfl, rfl⟩ | ⟨h, _⟩ | ⟨h, _⟩ | ⟨h, _⟩ := P'
      all_goals first | omega | skip
      rw [text, text] at e
      obtain rfl := empty_eq hs hs'
      obtain ⟨rfl, h2⟩ := itoa_cancel hr hr' e
      exact ⟨by simp [eqvAll], h2⟩
    · obtain ⟨h, _⟩ | ⟨h, _⟩ | ⟨h, _⟩ | ⟨h, _⟩ | ⟨_, rfl, rfl, rfl⟩ | ⟨h, _⟩ | ⟨h, _⟩ := P'
      all_goals first | omega | skip
      rw [text, text] at e
      obtain ⟨rfl, h2⟩ := quotedL_cancel e
      exact ⟨by simp [eqvAll], h2⟩
    · obtain ⟨h, _⟩ | ⟨h, _⟩ | ⟨h, _⟩ | ⟨h, _⟩ | ⟨h, _⟩ | ⟨_, rfl, hs', rfl, hy⟩ | ⟨h, _⟩ := P'
      all_goals first | omega | skip
      obtain rfl := empty_eq hs hs'
      have e1 : ∀ (na : Option Addr) (nc : Nat) (xa : Option Addr) (xc : Nat) (zs : List AV) (q : List UInt8), (mk 5 0 s na nc [] xa xc zs).text ++ q = 91 :: (itemsL 0 zs ++ 93 :: q) := fun _ _ _ _ zs q => by rw [text]; simp
      rw [e1, e1, List.cons.injEq] at e
      obtain ⟨h3, h4, h5⟩ := items_tell ih hx hy e.2
      exact ⟨by simp [h3, h4], h5⟩
    · obtain ⟨h, _⟩ | ⟨h, _⟩ | ⟨h, _⟩ | ⟨h, _⟩ | ⟨h, _⟩ | ⟨h, _⟩ | ⟨_, rfl, hs', hl', hy⟩ := P'
      all_goals first | omega | skip
      obtain rfl := empty_eq hs hs'
      have e1 : ∀ (na : Option Addr) (nc : Nat) (ms : List ByteArray) (xa : Option Addr) (xc : Nat) (zs : List AV) (q : List UInt8), (mk 6 0 s na nc ms xa xc zs).text ++ q = 123 :: (membersL 0 ms zs ++ 125 :: q) := fun _ _ _ _ _ zs q => by rw [text]; simp
      rw [e1, e1, List.cons.injEq] at e
      obtain ⟨h3, h4, h5, h6⟩ := members_tell hl hl' ih hx hy e.2
      subst h4
      exact ⟨by simp [h3, h5], h6⟩

theorem text_iff {t y : AV} {lv lv' : Nat} (h : formedJ t lv = true) (h' : formedJ y lv' = true) : t.text = y.text ↔ eqv t y = true :=
  ⟨fun e => (tells t y lv lv' [] [] h h' (fun _ e => by cases e) (fun _ e => by cases e) (by rw [e])).1, text_eqv t y⟩
end AV
end Go.Proofs.YthapifpccnbliaaDoor
