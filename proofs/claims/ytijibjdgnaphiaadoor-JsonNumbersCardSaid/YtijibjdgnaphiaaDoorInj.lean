/- Formed values with one text are alike, and alike values have one text; no condition. -/
import Derived.Test.YtijibjdgnaphiaaDoorRprint
import Derived.Test.YtijibjdgnaphiaaDoorRsame
namespace Go.Proofs.YtijibjdgnaphiaaDoor
open Go.ChangeShapes Go.WideShapes Go.Deep Go.RowKit Go.Lib

/-! ### As far as the levels go -/
namespace AV
theorem nodesAll_ge : ∀ {l : List AV} {left acc : Nat}, acc ≤ nodesAll l left acc
  | [], _, _ => Nat.le_refl _
  | t :: ts, left, acc => by
    rw [nodesAll]
    split
    · exact Nat.le_trans (Nat.le_add_right _ _) nodesAll_ge
    · exact Nat.le_refl _

theorem nodes_mem : ∀ {l : List AV} {left acc : Nat}, acc ≤ 1000 → nodesAll l left acc ≤ 1000 → ∀ x ∈ l, nodes x left ≤ 1000
  | t :: ts, left, acc, ha, h, x, hx => by
    rw [nodesAll, if_pos ha] at h
    have h1 : acc + nodes t left ≤ 1000 := Nat.le_trans nodesAll_ge h
    rcases List.mem_cons.1 hx with rfl | hx
    · omega
    · exact nodes_mem h1 h x hx

theorem sameAll_eq {l m : Nat} : ∀ {xs ys : List AV}, (∀ x ∈ xs, ∀ y, sameJ x y m = eqv x y) → sameAll xs ys m = eqvAll xs ys
  | [], ys, _ => by simp [sameAll, eqvAll]
  | x :: xs, [], _ => by simp [sameAll, eqvAll]
  | x :: xs, y :: ys, h => by
    rw [sameAll, eqvAll, h x (by simp) y, sameAll_eq (l := l) (fun z hz => h z (List.mem_cons_of_mem _ hz))]

theorem same_eq : ∀ (t : AV) (left : Nat), nodes t left ≤ 1000 → ∀ (y : AV) (m : Nat), left ≤ m → sameJ t y m = eqv t y := by
  intro t
  induction t using AV.ind with
  | h k n s na nc ns xa xc xs ih =>
    intro left hn y m hm
    obtain ⟨k', n', s', na', nc', ns', xa', xc', xs'⟩ := y
    rw [nodes] at hn
    by_cases h0 : left = 0
    · rw [if_pos h0] at hn; omega
    rw [if_neg h0] at hn
    have h1 : nodesAll xs (left - 1) 1 ≤ 1000 := by omega
    have h2 := nodes_mem (by omega) h1
    rw [sameJ, eqv, sameAll_eq (l := 0) (fun x hx y => ih x hx (left - 1) (h2 x hx) y (m - 1) (by omega))]
    by_cases hk : k = k' ∧ n = n' ∧ s = s' ∧ xs.length = xs'.length ∧ ns = ns'
    · obtain ⟨rfl, rfl, rfl, hl, rfl⟩ := hk
      rw [decide_eq_true ⟨by omega, rfl, rfl, rfl, hl, rfl⟩, decide_eq_true ⟨rfl, rfl, rfl, rfl, hl⟩]
      simp
    · rw [decide_eq_false (fun h => hk h.2), Bool.false_and]
      by_cases hg : k = k' ∧ n = n' ∧ s = s' ∧ ns.length = ns'.length ∧ xs.length = xs'.length
      · rw [decide_eq_false (fun e : ns = ns' => hk ⟨hg.1, hg.2.1, hg.2.2.1, hg.2.2.2.2, e⟩)]; simp
      · rw [decide_eq_false hg, Bool.false_and]

theorem few_nodes {t : AV} (h : few t = true) : nodes t 40 ≤ 1000 := by
  obtain ⟨k, n, s, na, nc, ns, xa, xc, xs⟩ := t
  rw [few] at h
  simp only [Bool.and_eq_true, decide_eq_true_eq] at h
  omega

theorem eqvAll_of : ∀ {xs ys : List AV}, xs.length = ys.length → (∀ (i : Nat) (h : i < xs.length) (h' : i < ys.length), eqv xs[i] ys[i] = true) → eqvAll xs ys = true
  | [], _, _, _ => by simp [eqvAll]
  | x :: xs, y :: ys, hl, h => by
    have h0 : eqv x y = true := h 0 (by simp) (by simp)
    rw [eqvAll, h0, eqvAll_of (by simpa using hl) (fun i hi hi' => h (i + 1) (by simpa using hi) (by simpa using hi'))]
    rfl

theorem eqv_refl : ∀ t : AV, eqv t t = true := by
  intro t
  induction t using AV.ind with
  | h k n s na nc ns xa xc xs ih =>
    rw [eqv, decide_eq_true ⟨rfl, rfl, rfl, rfl, rfl⟩, decide_eq_true rfl, eqvAll_of rfl (fun i hi _ => ih _ (List.getElem_mem hi))]
    rfl

theorem itemsL_eqv : ∀ {xs ys : List AV} (i : Nat), xs.length = ys.length → (∀ x ∈ xs, ∀ y, eqv x y = true → x.text = y.text) → eqvAll xs ys = true → itemsL i xs = itemsL i ys
  | [], [], _, _, _, _ => rfl
  | x :: xs, y :: ys, i, hl, h, he => by
    rw [eqvAll, Bool.and_eq_true] at he
    rw [itemsL, itemsL, h x (by simp) y he.1, itemsL_eqv (i + 1) (by simpa using hl) (fun z hz => h z (List.mem_cons_of_mem _ hz)) he.2]

theorem membersL_eqv : ∀ {xs ys : List AV} (ns : List ByteArray) (i : Nat), xs.length = ys.length → (∀ x ∈ xs, ∀ y, eqv x y = true → x.text = y.text) → eqvAll xs ys = true → membersL i ns xs = membersL i ns ys
  | [], [], _, _, _, _, _ => rfl
  | x :: xs, y :: ys, ns, i, hl, h, he => by
    rw [eqvAll, Bool.and_eq_true] at he
    rw [membersL, membersL, h x (by simp) y he.1, membersL_eqv ns.tail (i + 1) (by simpa using hl) (fun z hz => h z (List.mem_cons_of_mem _ hz)) he.2]

/-- Alike values have one text. -/
theorem text_eqv : ∀ (t y : AV), eqv t y = true → t.text = y.text := by
  intro t
  induction t using AV.ind with
  | h k n s na nc ns xa xc xs ih =>
    intro y he
    obtain ⟨k', n', s', na', nc', ns', xa', xc', xs'⟩ := y
    rw [eqv] at he
    simp only [Bool.and_eq_true, decide_eq_true_eq] at he
    obtain ⟨⟨rfl, rfl, rfl, _, hl⟩, rfl, he⟩ := he
    rw [text, text, itemsL_eqv 0 hl (fun x hx y => ih x hx y) he, membersL_eqv ns 0 hl (fun x hx y => ih x hx y) he]
end AV

/-! ### One text, one value -/
theorem esc_prefix : ∀ c d : Fin 256, (esc (UInt8.ofNat c.1)).isPrefixOf (esc (UInt8.ofNat d.1)) = true → c = d := by decide +kernel
theorem esc_head : ∀ c : Fin 256, (esc (UInt8.ofNat c.1)).head? ≠ some 34 ∧ esc (UInt8.ofNat c.1) ≠ [] := by decide +kernel

theorem esc_cancel {c d : UInt8} {x y : List UInt8} (h : esc c ++ x = esc d ++ y) : c = d ∧ x = y := by
  have key : ∀ c d : UInt8, esc c <+: esc d → c = d := fun c d hp => by
    have := esc_prefix ⟨c.toNat, c.toNat_lt⟩ ⟨d.toNat, d.toNat_lt⟩ (by simpa using hp)
    exact UInt8.toNat_inj.1 (by simpa using congrArg Fin.val this)
  have hcd : c = d := by
    rcases Nat.le_total (esc c).length (esc d).length with hl | hl
    · exact key c d (List.prefix_of_prefix_length_le ⟨x, h⟩ ⟨y, rfl⟩ hl)
    · exact (key d c (List.prefix_of_prefix_length_le ⟨y, rfl⟩ ⟨x, h⟩ hl)).symm
  subst hcd
  exact ⟨rfl, List.append_cancel_left h⟩

theorem esc_not_quote {c : UInt8} {x y : List UInt8} (h : esc c ++ x = 34 :: y) : False := by
  have := esc_head ⟨c.toNat, c.toNat_lt⟩
  simp only [UInt8.ofNat_toNat] at this
  cases he : esc c with
  | nil => exact this.2 he
  | cons a l =>
    rw [he] at h this
    simp at h
    exact this.1 (by simp [h.1])

theorem escs_cancel : ∀ {l m x y : List UInt8}, escs l ++ 34 :: x = escs m ++ 34 :: y → l = m ∧ x = y
  | [], [], x, y, h => by simpa [escs] using h
  | [], d :: m, x, y, h => by
    exfalso
    simp only [escs, List.flatMap_nil, List.flatMap_cons, List.nil_append, List.append_assoc] at h
    exact esc_not_quote h.symm
  | c :: l, [], x, y, h => by
    exfalso
    simp only [escs, List.flatMap_nil, List.flatMap_cons, List.nil_append, List.append_assoc] at h
    exact esc_not_quote h
  | c :: l, d :: m, x, y, h => by
    simp only [escs, List.flatMap_cons, List.append_assoc] at h
    obtain ⟨rfl, h⟩ := esc_cancel h
    obtain ⟨h1, h2⟩ := escs_cancel (l := l) (m := m) (by simpa [escs] using h)
    exact ⟨by rw [h1], h2⟩

theorem quotedL_cancel {s t : ByteArray} {x y : List UInt8} (h : quotedL s ++ x = quotedL t ++ y) : s = t ∧ x = y := by
  simp only [quotedL, List.cons_append, List.append_assoc, List.nil_append, List.cons.injEq, true_and] at h
  obtain ⟨h1, h2⟩ := escs_cancel h
  exact ⟨ByteArray.ext (Array.ext' h1), h2⟩

/-- A digit's byte. -/
def isDigit (c : UInt8) : Bool := decide (48 ≤ c.toNat ∧ c.toNat ≤ 57)

/-- What may stand behind a value. -/
def Stops (l : List UInt8) : Prop := ∀ c, l.head? = some c → isDigit c = false

def numVal (l : List UInt8) : Nat := l.foldl (fun a c => 10 * a + (c.toNat - 48)) 0

theorem digit_byte {u : Nat} (h : u < 10) : (UInt8.ofNat (48 + u)).toNat = 48 + u := by simp; omega

theorem decDigits_digits : ∀ u : Nat, ∀ c ∈ Lib.decDigits u, isDigit c = true := by
  intro u
  induction u using Nat.strongRecOn with
  | _ u ih =>
    intro c hc
    by_cases h : u < 10
    · rw [Lib.decDigits_one h] at hc
      obtain rfl := List.mem_singleton.1 hc
      unfold isDigit
      rw [digit_byte h]
      exact decide_eq_true (by omega)
    · rw [Lib.decDigits, dif_neg h] at hc
      rcases List.mem_append.1 hc with hc | hc
      · exact ih (u / 10) (by omega) c hc
      · obtain rfl := List.mem_singleton.1 hc
        unfold isDigit
        rw [digit_byte (by omega)]
        exact decide_eq_true (by omega)

theorem numVal_digits : ∀ u : Nat, numVal (Lib.decDigits u) = u := by
  intro u
  induction u using Nat.strongRecOn with
  | _ u ih =>
    by_cases h : u < 10
    · rw [Lib.decDigits_one h]
      simp only [numVal, List.foldl_cons, List.foldl_nil, digit_byte h]
      omega
    · rw [Lib.decDigits, dif_neg h]
      have := ih (u / 10) (by omega)
      unfold numVal at this ⊢
      rw [List.foldl_append, this]
      simp only [List.foldl_cons, List.foldl_nil, digit_byte (show u % 10 < 10 by omega)]
      omega

theorem takeWhile_stop : ∀ {l x : List UInt8}, (∀ c ∈ l, isDigit c = true) → Stops x → (l ++ x).takeWhile isDigit = l
  | [], x, _, hx => by
    cases x with
    | nil => rfl
    | cons c x =>
      have := hx c rfl
      simp [this]
  | c :: l, x, h, hx => by
    rw [List.cons_append, List.takeWhile_cons, h c (by simp), takeWhile_stop (fun d hd => h d (List.mem_cons_of_mem _ hd)) hx]
    rfl

theorem decDigits_cancel {u v : Nat} {x y : List UInt8} (hx : Stops x) (hy : Stops y) (h : Lib.decDigits u ++ x = Lib.decDigits v ++ y) : u = v ∧ x = y := by
  have h1 := congrArg (List.takeWhile isDigit) h
  rw [takeWhile_stop (decDigits_digits u) hx, takeWhile_stop (decDigits_digits v) hy] at h1
  have h2 : u = v := by rw [← numVal_digits u, h1, numVal_digits]
  subst h2
  exact ⟨rfl, List.append_cancel_left h⟩

theorem decDigits_head (u : Nat) : ∃ c l, Lib.decDigits u = c :: l ∧ isDigit c = true := by
  cases h : Lib.decDigits u with
  | nil =>
    have := congrArg List.length h
    rw [Lib.decDigits_length] at this
    have := Lib.nDigits_pos u
    simp at *
    omega
  | cons c l => exact ⟨c, l, rfl, decDigits_digits u c (by rw [h]; simp)⟩

theorem itoa_cancel {n m : Int} {x y : List UInt8} (hx : Stops x) (hy : Stops y) (h : Lib.itoa n ++ x = Lib.itoa m ++ y) : n = m ∧ x = y := by
  unfold Lib.itoa at h
  have no : ∀ (u : Nat) (z w : List UInt8), 45 :: z = Lib.decDigits u ++ w → False := fun u z w e => by
    obtain ⟨c, l, hc, hd⟩ := decDigits_head u
    rw [hc] at e
    simp only [List.cons_append, List.cons.injEq] at e
    rw [← e.1] at hd
    exact absurd hd (by decide)
  by_cases hn : n < 0 <;> by_cases hm : m < 0
  · rw [if_pos hn, if_pos hm] at h
    simp only [List.cons_append, List.cons.injEq, true_and] at h
    obtain ⟨h1, h2⟩ := decDigits_cancel hx hy h
    exact ⟨by omega, h2⟩
  · rw [if_pos hn, if_neg hm] at h
    exact absurd (no _ _ _ h) id
  · rw [if_neg hn, if_pos hm] at h
    exact absurd (no _ _ _ h.symm) id
  · rw [if_neg hn, if_neg hm] at h
    obtain ⟨h1, h2⟩ := decDigits_cancel hx hy h
    exact ⟨by omega, h2⟩
end Go.Proofs.YtijibjdgnaphiaaDoor
