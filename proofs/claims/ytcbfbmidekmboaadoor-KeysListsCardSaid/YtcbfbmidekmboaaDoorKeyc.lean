/- Keys of formed values are ordered, byte by byte, as the values are, and none is another one's beginning: plain facts on lists of bytes; no condition of ours. -/
/- How the keys of two formed values are held against each other: less, alike, one the other's beginning; plain facts; no condition of ours. -/
import Derived.Test.YtcbfbmidekmboaaDoorKeyl
import Derived.Test.YtcbfbmidekmboaaDoorOrd
namespace Go.Proofs.YtcbfbmidekmboaaDoor
open Go.ChangeShapes Go.WideShapes Go.Deep Go.RowKit Go.Lib

/-- -1, 1, as the first unlike bytes are; 0, if there are none before one of the two ends. -/
def cmpP : List UInt8 → List UInt8 → Int
  | [], _ => 0
  | _ :: _, [] => 0
  | a :: l, b :: r => lexI (compareInt a.toNat b.toNat) (cmpP l r)

theorem lexI_assoc (a b c : Int) : lexI (lexI a b) c = lexI a (lexI b c) := by
  unfold lexI
  by_cases h : a = 0 <;> simp [h]

theorem lexI_nil (a : Int) : lexI a 0 = a := by
  unfold lexI
  by_cases h : a = 0 <;> simp [h]

theorem lexI_of {a b : Int} (h : a = 0) : lexI a b = b := by unfold lexI; rw [if_pos h]
theorem lexI_at {a b : Int} (h : a ≠ 0) : lexI a b = a := by unfold lexI; rw [if_neg h]

theorem cmpI_self (a : Int) : compareInt a a = 0 := cmpI_zero.2 rfl
theorem cmpI_lt {a b : Int} (h : a < b) : compareInt a b = -1 := by unfold compareInt; rw [if_pos h]
theorem cmpI_gt {a b : Int} (h : b < a) : compareInt a b = 1 := by unfold compareInt; rw [if_neg (by omega), if_pos h]

theorem cmpP_cons (a b : UInt8) (l r : List UInt8) : cmpP (a :: l) (b :: r) = lexI (compareInt a.toNat b.toNat) (cmpP l r) := rfl

theorem cmpP_same : ∀ (p l r : List UInt8), cmpP (p ++ l) (p ++ r) = cmpP l r
  | [], _, _ => rfl
  | a :: p, l, r => by
    rw [List.cons_append, List.cons_append, cmpP_cons, lexI_of (cmpI_self _)]
    exact cmpP_same p l r

/-- So many bytes of a number, the most significant first. -/
def bigK : Nat → Nat → List UInt8
  | 0, _ => []
  | k + 1, n => bigK k (n / 256) ++ [UInt8.ofNat n]

theorem bigK_eight (n : Nat) : bigL n = bigK 8 n := by
  simp only [bigL, bigK, List.nil_append, List.cons_append, Nat.div_div_eq_div_mul]

theorem toNat_byte (n : Nat) : (UInt8.ofNat n).toNat = n % 256 := by simp [UInt8.toNat_ofNat']

theorem cmpI_digits (n m : Nat) : lexI (compareInt ((n / 256 : Nat) : Int) ((m / 256 : Nat) : Int)) (compareInt ((n % 256 : Nat) : Int) ((m % 256 : Nat) : Int)) = compareInt (n : Int) (m : Int) := by
  by_cases h : n / 256 = m / 256
  · rw [lexI_of (cmpI_zero.2 (by omega))]
    unfold compareInt
    split <;> split <;> (try split) <;> (try split) <;> omega
  · rw [lexI_at (fun e => h (by have := cmpI_zero.1 e; omega))]
    unfold compareInt
    split <;> split <;> (try split) <;> (try split) <;> omega

theorem cmpP_bigK : ∀ (k n m : Nat) (r r' : List UInt8), n < 256 ^ k → m < 256 ^ k → cmpP (bigK k n ++ r) (bigK k m ++ r') = lexI (compareInt (n : Int) (m : Int)) (cmpP r r')
  | 0, n, m, r, r', hn, hm => by
    rw [lexI_of (cmpI_zero.2 (by simp at hn hm; omega))]
    rfl
  | k + 1, n, m, r, r', hn, hm => by
    rw [bigK, bigK, List.append_assoc, List.append_assoc, cmpP_bigK k (n / 256) (m / 256) _ _ (by rw [Nat.pow_succ] at hn; omega) (by rw [Nat.pow_succ] at hm; omega), List.singleton_append, List.singleton_append, cmpP_cons,
      toNat_byte, toNat_byte, ← lexI_assoc, cmpI_digits]

theorem cmpP_big {n m : Nat} (r r' : List UInt8) (hn : n < 18446744073709551616) (hm : m < 18446744073709551616) : cmpP (bigL n ++ r) (bigL m ++ r') = lexI (compareInt (n : Int) (m : Int)) (cmpP r r') := by
  rw [bigK_eight, bigK_eight]
  exact cmpP_bigK 8 n m r r' hn hm

theorem zero_byte {c : UInt8} (h : c ≠ 0) : 0 < c.toNat := by
  rcases Nat.eq_zero_or_pos c.toNat with h' | h'
  · exact absurd (UInt8.toNat_inj.1 (by rw [h']; rfl)) h
  · exact h'

/-- Texts. -/
theorem cmpP_text : ∀ (s t r r' : List UInt8), cmpP (textL s ++ r) (textL t ++ r') = lexI (compareBytes s t) (cmpP r r')
  | [], [], r, r' => by
    rw [show compareBytes [] [] = 0 by simp [compareBytes], lexI_of rfl]
    exact cmpP_same [0, 0] r r'
  | [], b :: t, r, r' => by
    rw [show compareBytes [] (b :: t) = -1 by simp [compareBytes], lexI_at (by decide), textL_cons, show textL ([] : List UInt8) = [0, 0] from rfl]
    unfold escL
    by_cases hb : b = 0
    · rw [if_pos hb]
      simp only [List.cons_append, List.nil_append, cmpP_cons]
      rw [lexI_of (cmpI_self _), lexI_at (by decide)]
      rfl
    · rw [if_neg hb]
      simp only [List.cons_append, List.nil_append, cmpP_cons]
      have := zero_byte hb
      rw [cmpI_lt (by show ((0 : UInt8).toNat : Int) < _; simp; omega), lexI_at (by decide)]
  | a :: s, [], r, r' => by
    rw [show compareBytes (a :: s) [] = 1 by simp [compareBytes], lexI_at (by decide), textL_cons, show textL ([] : List UInt8) = [0, 0] from rfl]
    unfold escL
    by_cases hb : a = 0
    · rw [if_pos hb]
      simp only [List.cons_append, List.nil_append, cmpP_cons]
      rw [lexI_of (cmpI_self _), lexI_at (by decide)]
      rfl
    · rw [if_neg hb]
      simp only [List.cons_append, List.nil_append, cmpP_cons]
      have := zero_byte hb
      rw [cmpI_gt (by show ((0 : UInt8).toNat : Int) < _; simp; omega), lexI_at (by decide)]
  | a :: s, b :: t, r, r' => by
    rw [cmpB_cons, lexI_assoc, ← cmpP_text s t r r', textL_cons, textL_cons, List.append_assoc, List.append_assoc]
    by_cases hab : a = b
    · subst hab
      rw [cmpP_same, lexI_of (cmpI_self _)]
    · have hn : a.toNat ≠ b.toNat := fun e => hab (UInt8.toNat_inj.1 e)
      have hc : compareInt (a.toNat : Int) (b.toNat : Int) ≠ 0 := fun e => hn (by have := cmpI_zero.1 e; omega)
      rw [lexI_at hc]
      unfold escL
      by_cases ha : a = 0
      · subst ha
        rw [if_pos rfl, if_neg (fun e => hab e.symm)]
        simp only [List.cons_append, List.nil_append, cmpP_cons]
        rw [lexI_at hc]
      · by_cases hb : b = 0
        · subst hb
          rw [if_neg ha, if_pos rfl]
          simp only [List.cons_append, List.nil_append, cmpP_cons]
          rw [lexI_at hc]
        · rw [if_neg ha, if_neg hb]
          simp only [List.cons_append, List.nil_append, cmpP_cons]
          rw [lexI_at hc]

namespace AV
/-- The number is one of the language's. -/
theorem In.num {w : World} {k n : Int} {s : ByteArray} {na : Option Addr} {nc : Nat} {ns : List ByteArray} {xa : Option Addr} {xc : Nat} {xs : List AV} (h : In w (mk k n s na nc ns xa xc xs)) : -9223372036854775808 ≤ n ∧ n < 9223372036854775808 := by
  have hnum : (Lit.int .i64 n).wf = true := by rw [In] at h; exact h.2.1
  have hw : IntKind.i64.min ≤ n ∧ n ≤ IntKind.i64.max := by simpa [Lit.wf] using hnum
  have h1 := hw.1
  have h2 := hw.2
  rw [show IntKind.i64.min = -9223372036854775808 from rfl] at h1
  rw [show IntKind.i64.max = 9223372036854775807 from rfl] at h2
  omega

theorem In.each {w : World} {k n : Int} {s : ByteArray} {na : Option Addr} {nc : Nat} {ns : List ByteArray} {xa : Option Addr} {xc : Nat} {xs : List AV} (h : In w (mk k n s na nc ns xa xc xs)) : ∀ x ∈ xs, In w x := by
  intro x hx
  obtain ⟨b, o, _, hi⟩ := h.item (by intro e; rw [e] at hx; cases hx)
  obtain ⟨i, hi', rfl⟩ := List.getElem_of_mem hx
  exact (hi i hi').2

theorem key_head {x : AV} {lv : Nat} (hf : formedJ x lv = true) : ∃ c l, key x = c :: l ∧ 0 < c.toNat := by
  obtain ⟨k, n, s, na, nc, ns, xa, xc, xs⟩ := x
  refine ⟨_, _, by rw [key], ?_⟩
  rw [toNat_byte]
  rcases parts hf with ⟨hk, _⟩ | ⟨hk, _⟩ | ⟨hk, _⟩ | ⟨hk, _⟩ | ⟨hk, _⟩ <;> omega

theorem cmpP_end (o : Bool) (ns : List ByteArray) (x : AV) (xs : List AV) (r r' : List UInt8) {lv : Nat} (hf : formedJ x lv = true) : cmpP ([0] ++ r) (keyAll o ns (x :: xs) ++ r') = -1 ∧ cmpP (keyAll o ns (x :: xs) ++ r) ([0] ++ r') = 1 := by
  obtain ⟨c, l, e, hc⟩ := key_head hf
  rw [keyAll, e]
  cases o
  · simp only [Bool.false_eq_true, if_false, List.nil_append, List.cons_append, cmpP_cons]
    rw [cmpI_lt (by show ((0 : UInt8).toNat : Int) < _; simp; omega), cmpI_gt (by show ((0 : UInt8).toNat : Int) < _; simp; omega)]
    exact ⟨lexI_at (by decide), lexI_at (by decide)⟩
  · simp only [if_true, List.cons_append, List.nil_append, cmpP_cons]
    exact ⟨lexI_at (by decide), lexI_at (by decide)⟩

theorem cmpP_all (o : Bool) : ∀ (xs : List AV), (∀ x ∈ xs, ∀ (y : AV) (lv lv' : Nat) (w : World) (r r' : List UInt8), formedJ x lv = true → formedJ y lv' = true → x.In w → y.In w → cmpP (key x ++ r) (key y ++ r') = lexI (ord x y) (cmpP r r')) →
    ∀ (ns ns' : List ByteArray) (ys : List AV) (lv lv' : Nat) (w : World) (r r' : List UInt8), allJ xs lv = true → allJ ys lv' = true → (∀ x ∈ xs, In w x) → (∀ y ∈ ys, In w y) → cmpP (keyAll o ns xs ++ ([0] ++ r)) (keyAll o ns' ys ++ ([0] ++ r')) = lexI (ordAll o ns ns' xs ys) (cmpP r r')
  | [], _, ns, ns', [], lv, lv', w, r, r', _, _, _, _ => by
    rw [ordAll, lexI_of (by simp [compareInt])]
    exact cmpP_same [0] r r'
  | [], _, ns, ns', y :: ys, lv, lv', w, r, r', _, h', _, _ => by
    rw [allJ, Bool.and_eq_true] at h'
    rw [ordAll, lexI_at (by rw [cmpI_lt (by simp)]; decide), cmpI_lt (by simp), keyAll, List.nil_append]
    exact (cmpP_end o ns' y ys r _ h'.1).1
  | x :: xs, _, ns, ns', [], lv, lv', w, r, r', h, _, _, _ => by
    rw [allJ, Bool.and_eq_true] at h
    rw [ordAll, lexI_at (by decide)]
    exact (cmpP_end o ns x xs _ r' h.1).2
  | x :: xs, ih, ns, ns', y :: ys, lv, lv', w, r, r', h, h', hi, hi' => by
    rw [allJ, Bool.and_eq_true] at h h'
    have hx := fun r r' => ih x (by simp) y lv lv' w r r' h.1 h'.1 (hi x (by simp)) (hi' y (by simp))
    have hxs := cmpP_all o xs (fun z hz => ih z (by simp [hz])) ns.tail ns'.tail ys lv lv' w r r' h.2 h'.2 (fun z hz => hi z (by simp [hz])) (fun z hz => hi' z (by simp [hz]))
    rw [ordAll, keyAll, keyAll, List.append_assoc, List.append_assoc, List.append_assoc, List.append_assoc, lexI_assoc, lexI_assoc, ← hxs, ← hx]
    cases o
    · simp only [Bool.false_eq_true, if_false, List.nil_append]
      rw [lexI_of rfl]
    · simp only [if_true]
      show cmpP (1 :: (textL (ns.headD ⟨#[]⟩).data.toList ++ (key x ++ (keyAll true ns.tail xs ++ ([0] ++ r))))) (1 :: (textL (ns'.headD ⟨#[]⟩).data.toList ++ (key y ++ (keyAll true ns'.tail ys ++ ([0] ++ r'))))) = _
      rw [cmpP_cons, lexI_of (cmpI_self _)]
      exact cmpP_text _ _ _ _

/-- KEYS ARE ORDERED AS VALUES ARE, whatever stands behind. -/
theorem cmpP_key : ∀ (x y : AV) (lv lv' : Nat) (w : World) (r r' : List UInt8), formedJ x lv = true → formedJ y lv' = true → x.In w → y.In w → cmpP (key x ++ r) (key y ++ r') = lexI (ord x y) (cmpP r r') := by
  intro x
  induction x using AV.ind with
  | h k n s na nc ns xa xc xs ih =>
    intro y lv lv' w r r' hf hf' hi hi'
    obtain ⟨k', n', s', na', nc', ns', xa', xc', xs'⟩ := y
    have hp := parts hf
    have hp' := parts hf'
    have hk : 0 ≤ k ∧ k ≤ 6 := by rcases hp with ⟨hk, _⟩ | ⟨hk, _⟩ | ⟨hk, _⟩ | ⟨hk, _⟩ | ⟨hk, _⟩ <;> omega
    have hk' : 0 ≤ k' ∧ k' ≤ 6 := by rcases hp' with ⟨hk, _⟩ | ⟨hk, _⟩ | ⟨hk, _⟩ | ⟨hk, _⟩ | ⟨hk, _⟩ <;> omega
    rw [key, key, ord, List.cons_append, List.cons_append, cmpP_cons, toNat_byte, toNat_byte, lexI_assoc]
    have e1 : compareInt (((k + 1).toNat % 256 : Nat) : Int) (((k' + 1).toNat % 256 : Nat) : Int) = compareInt k k' := by
      unfold compareInt
      split <;> split <;> (try split) <;> (try split) <;> omega
    rw [e1]
    by_cases hkk : k = k'
    rotate_left
    · rw [lexI_at (fun e => hkk (cmpI_zero.1 e)), lexI_at (fun e => hkk (cmpI_zero.1 e))]
    subst hkk
    rw [lexI_of (cmpI_self _), lexI_of (cmpI_self _)]
    by_cases h3 : k = 3
    · rw [if_pos h3, if_pos h3, if_pos h3]
      have hn := hi.num
      have hn' := hi'.num
      rw [cmpP_big _ _ (by omega) (by omega)]
      congr 1
      unfold compareInt
      split <;> split <;> (try split) <;> (try split) <;> omega
    rw [if_neg h3, if_neg h3, if_neg h3]
    by_cases h4 : k = 4
    · rw [if_pos h4, if_pos h4, if_pos h4]
      exact cmpP_text _ _ _ _
    rw [if_neg h4, if_neg h4, if_neg h4]
    by_cases h56 : k = 5 ∨ k = 6
    · rw [if_pos h56, if_pos h56, if_pos h56, List.append_assoc, List.append_assoc]
      have ha : ∃ m, allJ xs m = true := by
        rcases hp with ⟨hk, _⟩ | ⟨hk, _⟩ | ⟨hk, _⟩ | ⟨_, _, _, _, h⟩ | ⟨_, _, _, _, h⟩
        · omega
        · omega
        · omega
        · exact ⟨_, h⟩
        · exact ⟨_, h⟩
      have ha' : ∃ m, allJ xs' m = true := by
        rcases hp' with ⟨hk, _⟩ | ⟨hk, _⟩ | ⟨hk, _⟩ | ⟨_, _, _, _, h⟩ | ⟨_, _, _, _, h⟩
        · omega
        · omega
        · omega
        · exact ⟨_, h⟩
        · exact ⟨_, h⟩
      obtain ⟨m, hm⟩ := ha
      obtain ⟨m', hm'⟩ := ha'
      exact cmpP_all _ xs ih ns ns' xs' m m' w r r' hm hm' hi.each hi'.each
    · rw [if_neg h56, if_neg h56, if_neg h56, lexI_of rfl]
      rfl
end AV

theorem succ_ne (c : UInt8) : c + 1 ≠ c := by
  intro h
  have h1 := congrArg UInt8.toNat h
  rw [UInt8.toNat_add] at h1
  have h2 := c.toNat_lt
  have h3 : (1 : UInt8).toNat = 1 := rfl
  omega

/-- What goes on behind alike, however it goes on, is alike. -/
theorem cmpP_alike : ∀ {a b : List UInt8}, (∀ r r', cmpP (a ++ r) (b ++ r') = cmpP r r') → a = b
  | [], [], _ => rfl
  | [], c :: b, h => by
    exfalso
    have h1 := h [c, 0] [1]
    have h2 := h [0] [1]
    have h3 := h [255] [0]
    simp only [List.nil_append, List.cons_append, cmpP_cons] at h1 h2 h3
    have e1 : compareInt ((0 : UInt8).toNat : Int) ((1 : UInt8).toNat : Int) = -1 := by decide
    have e2 : compareInt ((255 : UInt8).toNat : Int) ((0 : UInt8).toNat : Int) = 1 := by decide
    have h4 := h [c] [c + 1]
    simp only [List.nil_append, List.cons_append, cmpP_cons, cmpP] at h4
    rw [lexI_of (cmpI_self _), lexI_nil] at h4
    have := cmpI_zero.1 h4.symm
    exact succ_ne c (UInt8.toNat_inj.1 (by omega))
  | c :: a, [], h => by
    exfalso
    have h4 := h [c + 1] [c]
    simp only [List.nil_append, List.cons_append, cmpP_cons, cmpP] at h4
    rw [lexI_of (cmpI_self _), lexI_nil] at h4
    cases a with
    | nil =>
      simp only [List.nil_append, cmpP] at h4
      have := cmpI_zero.1 h4.symm
      exact succ_ne c (UInt8.toNat_inj.1 (by omega))
    | cons d a =>
      simp only [List.cons_append, cmpP] at h4
      have := cmpI_zero.1 h4.symm
      exact succ_ne c (UInt8.toNat_inj.1 (by omega))
  | c :: a, d :: b, h => by
    have h0 := h [] []
    have e : c = d := by
      by_cases hcd : c = d
      · exact hcd
      · exfalso
        have hc : compareInt (c.toNat : Int) (d.toNat : Int) ≠ 0 := fun e => hcd (UInt8.toNat_inj.1 (by have := cmpI_zero.1 e; omega))
        rw [List.cons_append, List.cons_append, cmpP_cons, lexI_at hc] at h0
        exact hc (by rw [h0]; rfl)
    subst e
    rw [cmpP_alike (a := a) (b := b) fun r r' => by
      have := h r r'
      rw [List.cons_append, List.cons_append, cmpP_cons, lexI_of (cmpI_self _)] at this
      exact this]

theorem key_alike {x y : AV} {lv lv' : Nat} {w : World} (hf : AV.formedJ x lv = true) (hf' : AV.formedJ y lv' = true) (hi : x.In w) (hi' : y.In w) (h : AV.ord x y = 0) : AV.key x = AV.key y :=
  cmpP_alike fun r r' => by rw [AV.cmpP_key x y lv lv' w r r' hf hf' hi hi', lexI_of h]
end Go.Proofs.YtcbfbmidekmboaaDoor

namespace Go.Proofs.YtcbfbmidekmboaaDoor
open Go.ChangeShapes Go.WideShapes Go.Deep Go.RowKit Go.Lib

theorem cmpB_of_cmpP : ∀ {a b : List UInt8}, cmpP a b ≠ 0 → compareBytes a b = cmpP a b
  | [], b, h => absurd (by rw [cmpP]) h
  | a :: l, [], h => absurd (by rw [cmpP]) h
  | a :: l, b :: r, h => by
    rw [cmpB_cons, cmpP_cons]
    by_cases he : compareInt (a.toNat : Int) (b.toNat : Int) = 0
    · rw [lexI_of he, lexI_of he]
      rw [cmpP_cons, lexI_of he] at h
      exact cmpB_of_cmpP h
    · rw [lexI_at he, lexI_at he]

theorem cmpP_nil_right (l : List UInt8) : cmpP l [] = 0 := by cases l <;> rfl

theorem cmpP_take : ∀ {a b : List UInt8} {n : Nat}, a.take n = b.take n → n = min a.length b.length → cmpP a b = 0
  | [], b, n, _, _ => by rw [cmpP]
  | a :: l, [], n, _, _ => by rw [cmpP]
  | a :: l, b :: r, 0, _, h => by simp at h
  | a :: l, b :: r, n + 1, h, hn => by
    simp only [List.take_succ_cons, List.cons.injEq] at h
    obtain ⟨rfl, h⟩ := h
    rw [cmpP_cons, lexI_of (cmpI_self _)]
    exact cmpP_take h (by simp only [List.length_cons] at hn; omega)

theorem key_cmp {x y : AV} {lv lv' : Nat} {w : World} (hf : AV.formedJ x lv = true) (hf' : AV.formedJ y lv' = true) (hi : x.In w) (hi' : y.In w) : cmpP (AV.key x) (AV.key y) = AV.ord x y := by
  have := AV.cmpP_key x y lv lv' w [] [] hf hf' hi hi'
  rw [List.append_nil, List.append_nil, show cmpP [] [] = 0 from rfl, lexI_nil] at this
  exact this

theorem key_less {x y : AV} {lv lv' : Nat} {w : World} (hf : AV.formedJ x lv = true) (hf' : AV.formedJ y lv' = true) (hi : x.In w) (hi' : y.In w) : compareBytes (AV.key x) (AV.key y) = AV.ord x y := by
  by_cases h : AV.ord x y = 0
  · rw [key_alike hf hf' hi hi' h, h]; exact cmpB_zero.2 rfl
  · rw [cmpB_of_cmpP (by rw [key_cmp hf hf' hi hi']; exact h), key_cmp hf hf' hi hi']

theorem key_same {x y : AV} {lv lv' : Nat} {w : World} (hf : AV.formedJ x lv = true) (hf' : AV.formedJ y lv' = true) (hi : x.In w) (hi' : y.In w) : AV.key x = AV.key y ↔ AV.ord x y = 0 := by
  rw [← key_less hf hf' hi hi', cmpB_zero]

theorem key_begin {x y : AV} {lv lv' : Nat} {w : World} (hf : AV.formedJ x lv = true) (hf' : AV.formedJ y lv' = true) (hi : x.In w) (hi' : y.In w) {n : Nat} (hn : n = min (AV.key x).length (AV.key y).length) (h : AV.ord x y ≠ 0) : (AV.key x).take n ≠ (AV.key y).take n := fun e =>
  h (by rw [← key_cmp hf hf' hi hi']; exact cmpP_take e hn)
end Go.Proofs.YtcbfbmidekmboaaDoor
