/- Keys of formed values are ordered, byte by byte, as the values are, and none is another one's beginning: plain facts on lists of bytes; no condition of ours. -/
/- Alike values: formed alike; values that lie in blocks of their own; what a reader keeps; plain facts; no condition. -/
/- One byte read, and whether a list ends: what the program's calls answer; no condition of ours. -/
import Derived.Test.YtcbfbmidekmboaaDoorKeyl
import Derived.Test.YtcbfbmidekmboaaDoorOrd
import Derived.Test.YtcbfbmidekmboaaDoorRsame
import Derived.Test.YtcbfbmidekmboaaDoorRtext
namespace Go.Proofs.YtcbfbmidekmboaaDoor
open Go.ChangeShapes Go.WideShapes Go.Deep Go.RowKit Go.Lib

/-- -1, 1, as the first unlike bytes are; 0, if there are none before one of the two ends. -/
def cmpP : List UInt8 → List UInt8 → Int
  | [], _ => 0
  | _ :: _, [] => 0
  | a :: l, b :: r => lexI (compareInt a.toNat b.toNat) (cmpP l r)

theorem lexI_assoc (a b c : Int) : lexI (lexI a b) c = lexI a (lexI b c) := by
  unfold lexI
  by_cases h : a = 0 <;> simp [h]

theorem lexI_nil (a : Int) : lexI a 0 = a := by
  unfold lexI
  by_cases h : a = 0 <;> simp [h]

theorem lexI_of {a b : Int} (h : a = 0) : lexI a b = b := by unfold lexI; rw [if_pos h]
theorem lexI_at {a b : Int} (h : a ≠ 0) : lexI a b = a := by unfold lexI; rw [if_neg h]

theorem cmpI_self (a : Int) : compareInt a a = 0 := cmpI_zero.2 rfl
theorem cmpI_lt {a b : Int} (h : a < b) : compareInt a b = -1 := by unfold compareInt; rw [if_pos h]
theorem cmpI_gt {a b : Int} (h : b < a) : compareInt a b = 1 := by unfold compareInt; rw [if_neg (by omega), if_pos h]

theorem cmpP_cons (a b : UInt8) (l r : List UInt8) : cmpP (a :: l) (b :: r) = lexI (compareInt a.toNat b.toNat) (cmpP l r) := rfl

theorem cmpP_same : ∀ (p l r : List UInt8), cmpP (p ++ l) (p ++ r) = cmpP l r
  | [], _, _ => rfl
  | a :: p, l, r => by
    rw [List.cons_append, List.cons_append, cmpP_cons, lexI_of (cmpI_self _)]
    exact cmpP_same p l r

/-- So many bytes of a number, the most significant first. -/
def bigK : Nat → Nat → List UInt8
  | 0, _ => []
  | k + 1, n => bigK k (n / 256) ++ [UInt8.ofNat n]

theorem bigK_eight (n : Nat) : bigL n = bigK 8 n := by
  simp only [bigL, bigK, List.nil_append, List.cons_append, Nat.div_div_eq_div_mul]

theorem toNat_byte (n : Nat) : (UInt8.ofNat n).toNat = n % 256 := by simp [UInt8.toNat_ofNat']

theorem cmpI_digits (n m : Nat) : lexI (compareInt ((n / 256 : Nat) : Int) ((m / 256 : Nat) : Int)) (compareInt ((n % 256 : Nat) : Int) ((m % 256 : Nat) : Int)) = compareInt (n : Int) (m : Int) := by
  by_cases h : n / 256 = m / 256
  · rw [lexI_of (cmpI_zero.2 (by omega))]
    unfold compareInt
    split <;> split <;> (try split) <;> (try split) <;> omega
  · rw [lexI_at (fun e => h (by have := cmpI_zero.1 e; omega))]
    unfold compareInt
    split <;> split <;> (try split) <;> (try split) <;> omega

theorem cmpP_bigK : ∀ (k n m : Nat) (r r' : List UInt8), n < 256 ^ k → m < 256 ^ k → cmpP (bigK k n ++ r) (bigK k m ++ r') = lexI (compareInt (n : Int) (m : Int)) (cmpP r r')
  | 0, n, m, r, r', hn, hm => by
    rw [lexI_of (cmpI_zero.2 (by simp at hn hm; omega))]
    rfl
  | k + 1, n, m, r, r', hn, hm => by
    rw [bigK, bigK, List.append_assoc, List.append_assoc, cmpP_bigK k (n / 256) (m / 256) _ _ (by rw [Nat.pow_succ] at hn; omega) (by rw [Nat.pow_succ] at hm; omega), List.singleton_append, List.singleton_append, cmpP_cons,
      toNat_byte, toNat_byte, ← lexI_assoc, cmpI_digits]

theorem cmpP_big {n m : Nat} (r r' : List UInt8) (hn : n < 18446744073709551616) (hm : m < 18446744073709551616) : cmpP (bigL n ++ r) (bigL m ++ r') = lexI (compareInt (n : Int) (m : Int)) (cmpP r r') := by
  rw [bigK_eight, bigK_eight]
  exact cmpP_bigK 8 n m r r' hn hm

theorem zero_byte {c : UInt8} (h : c ≠ 0) : 0 < c.toNat := by
  rcases Nat.eq_zero_or_pos c.toNat with h' | h'
  · exact absurd (UInt8.toNat_inj.1 (by rw [h']; rfl)) h
  · exact h'

/-- Texts. -/
theorem cmpP_text : ∀ (s t r r' : List UInt8), cmpP (textL s ++ r) (textL t ++ r') = lexI (compareBytes s t) (cmpP r r')
  | [], [], r, r' => by
    rw [show compareBytes [] [] = 0 by simp [compareBytes], lexI_of rfl]
    exact cmpP_same [0, 0] r r'
  | [], b :: t, r, r' => by
    rw [show compareBytes [] (b :: t) = -1 by simp [compareBytes], lexI_at (by decide), textL_cons, show textL ([] : List UInt8) = [0, 0] from rfl]
    unfold escL
    by_cases hb : b = 0
    · rw [if_pos hb]
      simp only [List.cons_append, List.nil_append, cmpP_cons]
      rw [lexI_of (cmpI_self _), lexI_at (by decide)]
      rfl
    · rw [if_neg hb]
      simp only [List.cons_append, List.nil_append, cmpP_cons]
      have := zero_byte hb
      rw [cmpI_lt (by show ((0 : UInt8).toNat : Int) < _; simp; omega), lexI_at (by decide)]
  | a :: s, [], r, r' => by
    rw [show compareBytes (a :: s) [] = 1 by simp [compareBytes], lexI_at (by decide), textL_cons, show textL ([] : List UInt8) = [0, 0] from rfl]
    unfold escL
    by_cases hb : a = 0
    · rw [if_pos hb]
      simp only [List.cons_append, List.nil_append, cmpP_cons]
      rw [lexI_of (cmpI_self _), lexI_at (by decide)]
      rfl
    · rw [if_neg hb]
      simp only [List.cons_append, List.nil_append, cmpP_cons]
      have := zero_byte hb
      rw [cmpI_gt (by show ((0 : UInt8).toNat : Int) < _; simp; omega), lexI_at (by decide)]
  | a :: s, b :: t, r, r' => by
    rw [cmpB_cons, lexI_assoc, ← cmpP_text s t r r', textL_cons, textL_cons, List.append_assoc, List.append_assoc]
    by_cases hab : a = b
    · subst hab
      rw [cmpP_same, lexI_of (cmpI_self _)]
    · have hn : a.toNat ≠ b.toNat := fun e => hab (UInt8.toNat_inj.1 e)
      have hc : compareInt (a.toNat : Int) (b.toNat : Int) ≠ 0 := fun e => hn (by have := cmpI_zero.1 e; omega)
      rw [lexI_at hc]
      unfold escL
      by_cases ha : a = 0
      · subst ha
        rw [if_pos rfl, if_neg (fun e => hab e.symm)]
        simp only [List.cons_append, List.nil_append, cmpP_cons]
        rw [lexI_at hc]
      · by_cases hb : b = 0
        · subst hb
          rw [if_neg ha, if_pos rfl]
          simp only [List.cons_append, List.nil_append, cmpP_cons]
          rw [lexI_at hc]
        · rw [if_neg ha, if_neg hb]
          simp only [List.cons_append, List.nil_append, cmpP_cons]
          rw [lexI_at hc]

namespace AV
/-- The number is one of the language's. -/
theorem In.num {w : World} {k n : Int} {s : ByteArray} {na : Option Addr} {nc : Nat} {ns : List ByteArray} {xa : Option Addr} {xc : Nat} {xs : List AV} (h : In w (mk k n s na nc ns xa xc xs)) : -9223372036854775808 ≤ n ∧ n < 9223372036854775808 := by
  have hnum : (Lit.int .i64 n).wf = true := by rw [In] at h; exact h.2.1
  have hw : IntKind.i64.min ≤ n ∧ n ≤ IntKind.i64.max := by simpa [Lit.wf] using hnum
  have h1 := hw.1
  have h2 := hw.2
  rw [show IntKind.i64.min = -9223372036854775808 from rfl] at h1
  rw [show IntKind.i64.max = 9223372036854775807 from rfl] at h2
  omega

theorem In.each {w : World} {k n : Int} {s : ByteArray} {na : Option Addr} {nc : Nat} {ns : List ByteArray} {xa : Option Addr} {xc : Nat} {xs : List AV} (h : In w (mk k n s na nc ns xa xc xs)) : ∀ x ∈ xs, In w x := by
  intro x hx
  obtain ⟨b, o, _, hi⟩ := h.item (by intro e; rw [e] at hx; cases hx)
  obtain ⟨i, hi', rfl⟩ := List.getElem_of_mem hx
  exact (hi i hi').2

theorem key_head {x : AV} {lv : Nat} (hf : formedJ x lv = true) : ∃ c l, key x = c :: l ∧ 0 < c.toNat := by
  obtain ⟨k, n, s, na, nc, ns, xa, xc, xs⟩ := x
  refine ⟨_, _, by rw [key], ?_⟩
  rw [toNat_byte]
  rcases parts hf with ⟨hk, _⟩ | ⟨hk, _⟩ | ⟨hk, _⟩ | ⟨hk, _⟩ | ⟨hk, _⟩ <;> omega

theorem cmpP_end (o : Bool) (ns : List ByteArray) (x : AV) (xs : List AV) (r r' : List UInt8) {lv : Nat} (hf : formedJ x lv = true) : cmpP ([0] ++ r) (keyAll o ns (x :: xs) ++ r') = -1 ∧ cmpP (keyAll o ns (x :: xs) ++ r) ([0] ++ r') = 1 := by
  obtain ⟨c, l, e, hc⟩ := key_head hf
  rw [keyAll, e]
  cases o
  · simp only [Bool.false_eq_true, if_false, List.nil_append, List.cons_append, cmpP_cons]
    rw [cmpI_lt (by show ((0 : UInt8).toNat : Int) < _; simp; omega), cmpI_gt (by show ((0 : UInt8).toNat : Int) < _; simp; omega)]
    exact ⟨lexI_at (by decide), lexI_at (by decide)⟩
  · simp only [if_true, List.cons_append, List.nil_append, cmpP_cons]
    exact ⟨lexI_at (by decide), lexI_at (by decide)⟩

theorem cmpP_all (o : Bool) : ∀ (xs : List AV), (∀ x ∈ xs, ∀ (y : AV) (lv lv' : Nat) (w : World) (r r' : List UInt8), formedJ x lv = true → formedJ y lv' = true → x.In w → y.In w → cmpP (key x ++ r) (key y ++ r') = lexI (ord x y) (cmpP r r')) →
    ∀ (ns ns' : List ByteArray) (ys : List AV) (lv lv' : Nat) (w : World) (r r' : List UInt8), allJ xs lv = true → allJ ys lv' = true → (∀ x ∈ xs, In w x) → (∀ y ∈ ys, In w y) → cmpP (keyAll o ns xs ++ ([0] ++ r)) (keyAll o ns' ys ++ ([0] ++ r')) = lexI (ordAll o ns ns' xs ys) (cmpP r r')
  | [], _, ns, ns', [], lv, lv', w, r, r', _, _, _, _ => by
    rw [ordAll, lexI_of (by simp [compareInt])]
    exact cmpP_same [0] r r'
  | [], _, ns, ns', y :: ys, lv, lv', w, r, r', _, h', _, _ => by
    rw [allJ, Bool.and_eq_true] at h'
    rw [ordAll, lexI_at (by rw [cmpI_lt (by simp)]; decide), cmpI_lt (by simp), keyAll, List.nil_append]
    exact (cmpP_end o ns' y ys r _ h'.1).1
  | x :: xs, _, ns, ns', [], lv, lv', w, r, r', h, _, _, _ => by
    rw [allJ, Bool.and_eq_true] at h
    rw [ordAll, lexI_at (by decide)]
    exact (cmpP_end o ns x xs _ r' h.1).2
  | x :: xs, ih, ns, ns', y :: ys, lv, lv', w, r, r', h, h', hi, hi' => by
    rw [allJ, Bool.and_eq_true] at h h'
    have hx := fun r r' => ih x (by simp) y lv lv' w r r' h.1 h'.1 (hi x (by simp)) (hi' y (by simp))
    have hxs := cmpP_all o xs (fun z hz => ih z (by simp [hz])) ns.tail ns'.tail ys lv lv' w r r' h.2 h'.2 (fun z hz => hi z (by simp [hz])) (fun z hz => hi' z (by simp [hz]))
    rw [ordAll, keyAll, keyAll, List.append_assoc, List.append_assoc, List.append_assoc, List.append_assoc, lexI_assoc, lexI_assoc, ← hxs, ← hx]
    cases o
    · simp only [Bool.false_eq_true, if_false, List.nil_append]
      rw [lexI_of rfl]
    · simp only [if_true]
      show cmpP (1 :: (textL (ns.headD ⟨#[]⟩).data.toList ++ (key x ++ (keyAll true ns.tail xs ++ ([0] ++ r))))) (1 :: (textL (ns'.headD ⟨#[]⟩).data.toList ++ (key y ++ (keyAll true ns'.tail ys ++ ([0] ++ r'))))) = _
      rw [cmpP_cons, lexI_of (cmpI_self _)]
      exact cmpP_text _ _ _ _

/-- KEYS ARE ORDERED AS VALUES ARE, whatever stands behind. -/
theorem cmpP_key : ∀ (x y : AV) (lv lv' : Nat) (w : World) (r r' : List UInt8), formedJ x lv = true → formedJ y lv' = true → x.In w → y.In w → cmpP (key x ++ r) (key y ++ r') = lexI (ord x y) (cmpP r r') := by
  intro x
  induction x using AV.ind with
  | h k n s na nc ns xa xc xs ih =>
    intro y lv lv' w r r' hf hf' hi hi'
    obtain ⟨k', n', s', na', nc', ns', xa', xc', xs'⟩ := y
    have hp := parts hf
    have hp' := parts hf'
    have hk : 0 ≤ k ∧ k ≤ 6 := by rcases hp with ⟨hk, _⟩ | ⟨hk, _⟩ | ⟨hk, _⟩ | ⟨hk, _⟩ | ⟨hk, _⟩ <;> omega
    have hk' : 0 ≤ k' ∧ k' ≤ 6 := by rcases hp' with ⟨hk, _⟩ | ⟨hk, _⟩ | ⟨hk, _⟩ | ⟨hk, _⟩ | ⟨hk, _⟩ <;> omega
    rw [key, key, ord, List.cons_append, List.cons_append, cmpP_cons, toNat_byte, toNat_byte, lexI_assoc]
    have e1 : compareInt (((k + 1).toNat % 256 : Nat) : Int) (((k' + 1).toNat % 256 : Nat) : Int) = compareInt k k' := by
      unfold compareInt
      split <;> split <;> (try split) <;> (try split) <;> omega
    rw [e1]
    by_cases hkk : k = k'
    rotate_left
    · rw [lexI_at (fun e => hkk (cmpI_zero.1 e)), lexI_at (fun e => hkk (cmpI_zero.1 e))]
    subst hkk
    rw [lexI_of (cmpI_self _), lexI_of (cmpI_self _)]
    by_cases h3 : k = 3
    · rw [if_pos h3, if_pos h3, if_pos h3]
      have hn := hi.num
      have hn' := hi'.num
      rw [cmpP_big _ _ (by omega) (by omega)]
      congr 1
      unfold compareInt
      split <;> split <;> (try split) <;> (try split) <;> omega
    rw [if_neg h3, if_neg h3, if_neg h3]
    by_cases h4 : k = 4
    · rw [if_pos h4, if_pos h4, if_pos h4]
      exact cmpP_text _ _ _ _
    rw [if_neg h4, if_neg h4, if_neg h4]
    by_cases h56 : k = 5 ∨ k = 6
    · rw [if_pos h56, if_pos h56, if_pos h56, List.append_assoc, List.append_assoc]
      have ha : ∃ m, allJ xs m = true := by
        rcases hp with ⟨hk, _⟩ | ⟨hk, _⟩ | ⟨hk, _⟩ | ⟨_, _, _, _, h⟩ | ⟨_, _, _, _, h⟩
        · omega
        · omega
        · omega
        · exact ⟨_, h⟩
        · exact ⟨_, h⟩
      have ha' : ∃ m, allJ xs' m = true := by
        rcases hp' with ⟨hk, _⟩ | ⟨hk, _⟩ | ⟨hk, _⟩ | ⟨_, _, _, _, h⟩ | ⟨_, _, _, _, h⟩
        · omega
        · omega
        · omega
        · exact ⟨_, h⟩
        · exact ⟨_, h⟩
      obtain ⟨m, hm⟩ := ha
      obtain ⟨m', hm'⟩ := ha'
      exact cmpP_all _ xs ih ns ns' xs' m m' w r r' hm hm' hi.each hi'.each
    · rw [if_neg h56, if_neg h56, if_neg h56, lexI_of rfl]
      rfl
end AV

theorem succ_ne (c : UInt8) : c + 1 ≠ c := by
  intro h
  have h1 := congrArg UInt8.toNat h
  rw [UInt8.toNat_add] at h1
  have h2 := c.toNat_lt
  have h3 : (1 : UInt8).toNat = 1 := rfl
  omega

/-- What goes on behind alike, however it goes on, is alike. -/
theorem cmpP_alike : ∀ {a b : List UInt8}, (∀ r r', cmpP (a ++ r) (b ++ r') = cmpP r r') → a = b
  | [], [], _ => rfl
  | [], c :: b, h => by
    exfalso
    have h1 := h [c, 0] [1]
    have h2 := h [0] [1]
    have h3 := h [255] [0]
    simp only [List.nil_append, List.cons_append, cmpP_cons] at h1 h2 h3
    have e1 : compareInt ((0 : UInt8).toNat : Int) ((1 : UInt8).toNat : Int) = -1 := by decide
    have e2 : compareInt ((255 : UInt8).toNat : Int) ((0 : UInt8).toNat : Int) = 1 := by decide
    have h4 := h [c] [c + 1]
    simp only [List.nil_append, List.cons_append, cmpP_cons, cmpP] at h4
    rw [lexI_of (cmpI_self _), lexI_nil] at h4
    have := cmpI_zero.1 h4.symm
    exact succ_ne c (UInt8.toNat_inj.1 (by omega))
  | c :: a, [], h => by
    exfalso
    have h4 := h [c + 1] [c]
    simp only [List.nil_append, List.cons_append, cmpP_cons, cmpP] at h4
    rw [lexI_of (cmpI_self _), lexI_nil] at h4
    cases a with
    | nil =>
      simp only [List.nil_append, cmpP] at h4
      have := cmpI_zero.1 h4.symm
      exact succ_ne c (UInt8.toNat_inj.1 (by omega))
    | cons d a =>
      simp only [List.cons_append, cmpP] at h4
      have := cmpI_zero.1 h4.symm
      exact succ_ne c (UInt8.toNat_inj.1 (by omega))
  | c :: a, d :: b, h => by
    have h0 := h [] []
    have e : c = d := by
      by_cases hcd : c = d
      · exact hcd
      · exfalso
        have hc : compareInt (c.toNat : Int) (d.toNat : Int) ≠ 0 := fun e => hcd (UInt8.toNat_inj.1 (by have := cmpI_zero.1 e; omega))
        rw [List.cons_append, List.cons_append, cmpP_cons, lexI_at hc] at h0
        exact hc (by rw [h0]; rfl)
    subst e
    rw [cmpP_alike (a := a) (b := b) fun r r' => by
      have := h r r'
      rw [List.cons_append, List.cons_append, cmpP_cons, lexI_of (cmpI_self _)] at this
      exact this]

theorem key_alike {x y : AV} {lv lv' : Nat} {w : World} (hf : AV.formedJ x lv = true) (hf' : AV.formedJ y lv' = true) (hi : x.In w) (hi' : y.In w) (h : AV.ord x y = 0) : AV.key x = AV.key y :=
  cmpP_alike fun r r' => by rw [AV.cmpP_key x y lv lv' w r r' hf hf' hi hi', lexI_of h]
end Go.Proofs.YtcbfbmidekmboaaDoor

namespace Go.Proofs.YtcbfbmidekmboaaDoor
open Go.ChangeShapes Go.WideShapes Go.Deep Go.RowKit Go.Lib

namespace AV
theorem eqv_parts {k n k' n' : Int} {s s' : ByteArray} {na na' : Option Addr} {nc nc' : Nat} {ns ns' : List ByteArray} {xa xa' : Option Addr} {xc xc' : Nat} {xs xs' : List AV} (h : eqv (mk k n s na nc ns xa xc xs) (mk k' n' s' na' nc' ns' xa' xc' xs') = true) :
    k = k' ∧ n = n' ∧ s = s' ∧ ns = ns' ∧ xs.length = xs'.length ∧ eqvAll xs xs' = true := by
  rw [eqv] at h
  simp only [Bool.and_eq_true, decide_eq_true_eq] at h
  exact ⟨h.1.1, h.1.2.1, h.1.2.2.1, h.2.1, h.1.2.2.2.2, h.2.2⟩

theorem eqv_mk {k n : Int} {s : ByteArray} {na na' : Option Addr} {nc nc' : Nat} {ns : List ByteArray} {xa xa' : Option Addr} {xc xc' : Nat} {xs xs' : List AV} (hl : xs.length = xs'.length) (h : eqvAll xs xs' = true) :
    eqv (mk k n s na nc ns xa xc xs) (mk k n s na' nc' ns xa' xc' xs') = true := by
  rw [eqv]
  simp [hl, h]

theorem allJ_alike : ∀ {xs ys : List AV}, (∀ x ∈ xs, ∀ (y : AV) (lv : Nat), eqv x y = true → formedJ x lv = formedJ y lv) → xs.length = ys.length → eqvAll xs ys = true → ∀ lv, allJ xs lv = allJ ys lv
  | [], [], _, _, _, _ => rfl
  | x :: xs, y :: ys, ih, hl, h, lv => by
    rw [eqvAll, Bool.and_eq_true] at h
    rw [allJ, allJ, ih x (by simp) y lv h.1, allJ_alike (fun z hz => ih z (by simp [hz])) (by simpa using hl) h.2 lv]

theorem formed_alike : ∀ (x y : AV) (lv : Nat), eqv x y = true → formedJ x lv = formedJ y lv := by
  intro x
  induction x using AV.ind with
  | h k n s na nc ns xa xc xs ih =>
    intro y lv h
    obtain ⟨k', n', s', na', nc', ns', xa', xc', xs'⟩ := y
    obtain ⟨rfl, rfl, rfl, rfl, hl, hx⟩ := eqv_parts h
    have h0 : (xs = []) = (xs' = []) := by
      rw [← List.length_eq_zero_iff, ← List.length_eq_zero_iff, hl]
    rw [formedJ, formedJ, allJ_alike ih hl hx (lv - 1)]
    simp only [h0, hl]

theorem eqvAll_append : ∀ {xs ys xs' ys' : List AV}, xs.length = xs'.length → eqvAll xs xs' = true → eqvAll ys ys' = true → eqvAll (xs ++ ys) (xs' ++ ys') = true
  | [], _, [], _, _, _, h => h
  | x :: xs, ys, x' :: xs', ys', hl, h, h' => by
    rw [eqvAll, Bool.and_eq_true] at h
    rw [List.cons_append, List.cons_append, eqvAll, Bool.and_eq_true]
    exact ⟨h.1, eqvAll_append (by simpa using hl) h.2 h'⟩

/-- It lies in every world that is as w is from block C to block D. -/
def Lies (C D : Nat) (u : AV) (w : World) : Prop := ∀ w' : World, (∀ k, C ≤ k → k < D → w'.heap[k]? = w.heap[k]?) → u.In w'

theorem Lies.here {C D : Nat} {u : AV} {w : World} (h : u.Lies C D w) : u.In w := h w fun _ _ _ => rfl
theorem Lies.later {C D : Nat} {u : AV} {w w' : World} (h : u.Lies C D w) (hk : ∀ k, C ≤ k → k < D → w'.heap[k]? = w.heap[k]?) : u.Lies C D w' := fun w2 h2 => h w2 fun k h1 h3 => (h2 k h1 h3).trans (hk k h1 h3)
theorem Lies.wider {C D C' D' : Nat} {u : AV} {w : World} (h : u.Lies C D w) (hC : C' ≤ C) (hD : D ≤ D') : u.Lies C' D' w := fun w2 h2 => h w2 fun k h1 h3 => h2 k (by omega) (by omega)
end AV

/-- But for block p, all that was there is as it was. -/
structure Kept (p : Nat) (w w' : World) : Prop where
  os : w'.os = w.os
  tape : w'.tape = w.tape
  output : w'.output = w.output
  size : w.heap.size ≤ w'.heap.size
  block : ∀ k, k < w.heap.size → k ≠ p → w'.heap[k]? = w.heap[k]?

theorem Kept.refl (p : Nat) (w : World) : Kept p w w := ⟨rfl, rfl, rfl, Nat.le_refl _, fun _ _ _ => rfl⟩
theorem Kept.trans {p : Nat} {a b c : World} (h : Kept p a b) (k : Kept p b c) : Kept p a c :=
  ⟨k.os.trans h.os, k.tape.trans h.tape, k.output.trans h.output, Nat.le_trans h.size k.size, fun i hi hp => (k.block i (Nat.lt_of_lt_of_le hi h.size) hp).trans (h.block i hi hp)⟩
theorem Kept.grow {p : Nat} {a b c : World} (h : Kept p a b) (k : Below a.heap.size b c) : Kept p a c :=
  ⟨k.os.trans h.os, k.tape.trans h.tape, k.output.trans h.output, Nat.le_trans h.size k.size, fun i hi hp => (k.block i hi).trans (h.block i hi hp)⟩
theorem Kept.of {p : Nat} {a b : World} (k : Below a.heap.size a b) : Kept p a b := (Kept.refl p a).grow k
theorem Kept.below {p B : Nat} {a b : World} (h : Kept p a b) (hp : B ≤ p) (hB : B ≤ a.heap.size) : Below B a b := ⟨h.os, h.tape, h.output, h.size, fun k hk => h.block k (by omega) (by omega)⟩
theorem Kept.set {p : Nat} {a b : World} (h : Kept p a b) (v : Value) : Kept p a (b.setCell ⟨p, 0, none⟩ v) :=
  h.trans ⟨rfl, rfl, rfl, by simp [World.setCell], fun k _ hp => heap_setCell_other b ⟨p, 0, none⟩ k v hp⟩
theorem Kept.box {p : Nat} {w w' : World} (h : Kept p w w') {k : Nat} {o : Obj} (hk : w.heap[k]? = some o) (hp : k ≠ p) : w'.heap[k]? = some o := by
  rw [h.block k (Array.getElem?_eq_some_iff.1 hk).1 hp]; exact hk

theorem Kept.setAt {q : Nat} {a b : World} (h : Kept q a b) (j : Nat) (v : Value) : Kept q a (b.setCell ⟨q, j, none⟩ v) :=
  h.trans ⟨rfl, rfl, rfl, by simp [World.setCell], fun k _ hp => heap_setCell_other b ⟨q, j, none⟩ k v hp⟩

theorem Kept.five {q : Nat} {a w : World} (h : Kept q a w) (v0 v1 v2 v3 v4 : Value) :
    Kept q a (((((w.setCell ⟨q, 0, none⟩ v0).setCell ⟨q, 1, none⟩ v1).setCell ⟨q, 2, none⟩ v2).setCell ⟨q, 3, none⟩ v3).setCell ⟨q, 4, none⟩ v4) :=
  ((((h.setAt 0 v0).setAt 1 v1).setAt 2 v2).setAt 3 v3).setAt 4 v4

theorem Kept.drew {q : Nat} {a w : World} (h : Kept q a w) : Kept q a w.drew := ⟨h.os, h.tape, h.output, h.size, h.block⟩
theorem Kept.alloc {q : Nat} {a w : World} (h : Kept q a w) (o : Obj) : Kept q a (w.alloc o) := h.trans (Kept.of ((Below.refl _ _).alloc (Nat.le_refl _) _))
/-- What changes a block that is new changes nothing of what was. -/
theorem Kept.fresh {p q : Nat} {a b c : World} (h : Kept p a b) (k : Kept q b c) (hq : a.heap.size ≤ q) : Kept p a c :=
  ⟨k.os.trans h.os, k.tape.trans h.tape, k.output.trans h.output, Nat.le_trans h.size k.size, fun i hi hp => (k.block i (Nat.lt_of_lt_of_le hi h.size) (by omega)).trans (h.block i hi hp)⟩

/-- The place: what is left to read. -/
def At (p : Nat) (bs r : List UInt8) (w : World) : Prop := ∃ a : Nat, a ≤ bs.length ∧ bs.drop a = r ∧ w.heap[p]? = some (.cells #[.int .i64 (a : Int)] 3 (0, 0))

theorem At.later {p : Nat} {bs r : List UInt8} {w w' : World} (h : At p bs r w) (hb : Below w.heap.size w w') : At p bs r w' := by
  obtain ⟨a, h1, h2, h3⟩ := h
  exact ⟨a, h1, h2, box_later h3 hb⟩
theorem At.through {p B : Nat} {bs r : List UInt8} {w w' : World} (h : At p bs r w) (hb : Below B w w') (hp : p < B) : At p bs r w' := by
  obtain ⟨a, h1, h2, h3⟩ := h
  exact ⟨a, h1, h2, by rw [hb.block p hp]; exact h3⟩
theorem At.other {p q : Nat} {bs r : List UInt8} {w w' : World} (h : At p bs r w) (hk : Kept q w w') (hp : p ≠ q) : At p bs r w' := by
  obtain ⟨a, h1, h2, h3⟩ := h
  exact ⟨a, h1, h2, hk.box h3 hp⟩
theorem At.lt {p : Nat} {bs r : List UInt8} {w : World} (h : At p bs r w) : p < w.heap.size := by
  obtain ⟨a, _, _, h3⟩ := h
  exact (Array.getElem?_eq_some_iff.1 h3).1

/-- What is read from: bytes that were there before the place was. -/
structure Src (w0 : World) (p : Nat) (nb : Option Addr) (bs : List UInt8) (w : World) : Prop where
  bytes : BytesIn w0 nb bs
  old : Below w0.heap.size w0 w
  place : w0.heap.size ≤ p
  len : bs.length ≤ 9223372036854775807

theorem Src.kept {w0 : World} {p : Nat} {nb : Option Addr} {bs : List UInt8} {w w' : World} (h : Src w0 p nb bs w) (hk : Kept p w w') : Src w0 p nb bs w' := ⟨h.bytes, h.old.trans (hk.below h.place h.old.size), h.place, h.len⟩

/-- One byte read: where it lies. -/
theorem Src.byte {w0 : World} {p : Nat} {nb : Option Addr} {bs : List UInt8} {w : World} (h : Src w0 p nb bs w) {a : Nat} {c : UInt8} {r : List UInt8} (hd : bs.drop a = c :: r) :
    a < bs.length ∧ bs.drop (a + 1) = r ∧ ∃ b o, nb = some ⟨b, o, none⟩ ∧ w.cell? ⟨b, o + a, none⟩ = some (.int .u8 (c.toNat : Int)) ∧ b < p := by
  have hlt : a < bs.length := by
    rcases Nat.lt_or_ge a bs.length with h' | h'
    · exact h'
    · rw [List.drop_eq_nil_of_le h'] at hd; cases hd
  rw [List.drop_eq_getElem_cons hlt] at hd
  simp only [List.cons.injEq] at hd
  obtain ⟨b, o, e, hc⟩ := h.bytes.resolve_left (by intro e; rw [e] at hlt; simp at hlt)
  have h1 := hc a hlt
  rw [hd.1] at h1
  have hb := World.block_lt_of_cell? w0 _ h1
  refine ⟨hlt, hd.2, b, o, e, by rw [h.old.cell hb]; exact h1, Nat.lt_of_lt_of_le hb h.place⟩
end Go.Proofs.YtcbfbmidekmboaaDoor

namespace Go.Proofs.YtcbfbmidekmboaaDoor
open Go.ChangeShapes Go.WideShapes Go.Deep Go.RowKit Go.Lib

/-- A step of the reader: the place has gone on, all else is as it was. -/
def Stepped (p : Nat) (bs r : List UInt8) (w w' : World) : Prop := At p bs r w' ∧ Kept p w w'

theorem place_cell {w : World} {p : Nat} {v : Value} (h : w.heap[p]? = some (.cells #[v] 3 (0, 0))) : w.cell? ⟨p, 0, none⟩ = some v ∧ w.frozen? ⟨p, 0, none⟩ = false := by
  refine ⟨?_, ?_⟩
  · rw [Lib.cell_of_heap h]; rfl
  · exact frozen_of_row w p 0 #[v] 3 h

theorem At.gone {p : Nat} {bs r : List UInt8} {w : World} {a : Nat} (ha : a < bs.length) (hd : bs.drop (a + 1) = r) (h : w.heap[p]? = some (.cells #[.int .i64 (a : Int)] 3 (0, 0))) :
    At p bs r (w.setCell ⟨p, 0, none⟩ (.int .i64 ((a : Int) + 1))) := by
  refine ⟨a + 1, ha, hd, ?_⟩
  have := heap_setCell_same w p 0 _ 3 (.int .i64 ((a : Int) + 1)) h
  rw [this]
  rfl

set_option maxHeartbeats 2000000 in
set_option maxRecDepth 100000 in
theorem next_any (w0 w : World) (p : Nat) (nb : Option Addr) (cb : Nat) (bs : List UInt8) (c : UInt8) (r : List UInt8) (hS : Src w0 p nb bs w) (hat : At p bs (c :: r) w) :
    Calls Tryd.prog 54 #[.slice nb bs.length cb, .pointer (some ⟨p, 0, none⟩)] w fun e w' => e = .returned (.tuple #[.int .u8 (c.toNat : Int), .bool true]) ∧ Stepped p bs r w w' := by
  obtain ⟨a, ha, hd, hbox⟩ := hat
  obtain ⟨hlt, hd1, b, o, rfl, hc, hbp⟩ := hS.byte hd
  obtain ⟨c0, f0⟩ := place_cell hbox
  have HG := Lib.hid (At.gone hlt hd1 hbox)
  have hc2 : (w.setCell ⟨p, 0, none⟩ (.int .i64 ((a : Int) + 1))).cell? ⟨b, o + a, none⟩ = some (.int .u8 (c.toNat : Int)) := by
    rw [((Below.refl p w).setCell (p := ⟨p, 0, none⟩) (Nat.le_refl _) _).cell hbp]; exact hc
  have hc3 : (w.setCell ⟨p, 0, none⟩ (.int .i64 ((a : Int) + 1))).cell? ⟨p, 0, none⟩ = some (.int .i64 ((a : Int) + 1)) := by
    obtain ⟨a', h1, h2, h3⟩ := HG.out
    have h4 := heap_setCell_same w p 0 _ 3 (.int .i64 ((a : Int) + 1)) hbox
    rw [Lib.cell_of_heap h4]; rfl
  have hln := hS.len
  have e1 : ((a : Int) == (bs.length : Int)) = false := by rw [beq_eq_false_iff_ne]; omega
  have HK := Lib.hid ((Kept.refl p w).set (.int .i64 ((a : Int) + 1)))
  clear hS hd hd1 hbox ha hc
  go_enter Tryd.func54, Tryd.ntmps54
  go_wp2_with fail
  go_ret2

  exact ⟨rfl, HG.out, HK.out⟩

set_option maxHeartbeats 2000000 in
set_option maxRecDepth 100000 in
theorem ends_over (w0 w : World) (p : Nat) (nb : Option Addr) (cb : Nat) (bs r : List UInt8) (n : Nat) (hS : Src w0 p nb bs w) (hat : At p bs (0 :: r) w) :
    Calls Tryd.prog 65 #[.slice nb bs.length cb, .pointer (some ⟨p, 0, none⟩), .int .i64 (n : Int)] w fun e w' => e = .returned (.tuple #[.bool true, .bool true]) ∧ Stepped p bs r w w' := by
  obtain ⟨a, ha, hd, hbox⟩ := hat
  obtain ⟨hlt, hd1, b, o, rfl, hc, hbp⟩ := hS.byte hd
  obtain ⟨c0, f0⟩ := place_cell hbox
  have HG := Lib.hid (At.gone hlt hd1 hbox)
  have hln := hS.len
  have e1 : ((a : Int) == (bs.length : Int)) = false := by rw [beq_eq_false_iff_ne]; omega
  have hc0 : w.cell? ⟨b, o + a, none⟩ = some (.int .u8 0) := hc
  have HK := Lib.hid ((Kept.refl p w).set (.int .i64 ((a : Int) + 1)))
  clear hS hd hd1 hbox ha hc
  go_enter Tryd.func65, Tryd.ntmps65
  go_wp2_with fail
  go_ret2
  exact ⟨rfl, HG.out, HK.out⟩

set_option maxHeartbeats 2000000 in
set_option maxRecDepth 100000 in
theorem ends_more (w0 w : World) (p : Nat) (nb : Option Addr) (cb : Nat) (bs r : List UInt8) (c : UInt8) (n : Nat) (hS : Src w0 p nb bs w) (hat : At p bs (c :: r) w) (hc0 : c ≠ 0) (hn : n < 24) :
    Calls Tryd.prog 65 #[.slice nb bs.length cb, .pointer (some ⟨p, 0, none⟩), .int .i64 (n : Int)] w fun e w' => e = .returned (.tuple #[.bool false, .bool true]) ∧ Stepped p bs (c :: r) w w' := by
  have HAT := Lib.hid hat
  obtain ⟨a, ha, hd, hbox⟩ := hat
  obtain ⟨hlt, hd1, b, o, rfl, hc, hbp⟩ := hS.byte hd
  obtain ⟨c0, f0⟩ := place_cell hbox
  have hln := hS.len
  have e1 : ((a : Int) == (bs.length : Int)) = false := by rw [beq_eq_false_iff_ne]; omega
  have hz : ((c.toNat : Int) == 0) = false := by rw [beq_eq_false_iff_ne]; have := zero_lt_byte hc0; omega
  have hn2 : (n : Int) < 24 := by omega
  clear hS hd hd1 hbox ha hc0
  go_enter Tryd.func65, Tryd.ntmps65
  go_wp2_with fail
  go_ret2
  exact ⟨by simp, HAT.out, Kept.refl _ _⟩
end Go.Proofs.YtcbfbmidekmboaaDoor
