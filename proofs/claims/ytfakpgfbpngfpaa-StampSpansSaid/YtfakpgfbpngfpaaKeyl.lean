/- Keys as plain lists of bytes: of numbers, of texts, and how they are held against each other; plain facts; no condition. -/
import Derived.Test.YtfakpgfbpngfpaaLex
namespace Go.Proofs.Ytfakpgfbpngfpaa
open Go.Lib

/-- Eight bytes, the most significant first. -/
def bigL (n : Nat) : List UInt8 := [UInt8.ofNat (n / 72057594037927936), UInt8.ofNat (n / 281474976710656), UInt8.ofNat (n / 1099511627776), UInt8.ofNat (n / 4294967296), UInt8.ofNat (n / 16777216), UInt8.ofNat (n / 65536), UInt8.ofNat (n / 256), UInt8.ofNat n]

theorem bigL_length (n : Nat) : (bigL n).length = 8 := rfl

theorem bigL_get (n j : Nat) (h : j < 8) : (bigL n)[j]'(by rw [bigL_length]; exact h) = UInt8.ofNat (n / 256 ^ (7 - j)) := by
  match j, h with
  | 0, _ => rfl
  | 1, _ => rfl
  | 2, _ => rfl
  | 3, _ => rfl
  | 4, _ => rfl
  | 5, _ => rfl
  | 6, _ => rfl
  | 7, _ => simp [bigL]

/-- What stands for a byte of a text. -/
def escL (c : UInt8) : List UInt8 := if c = 0 then [0, 255] else [c]

/-- A text's bytes. -/
def textL (l : List UInt8) : List UInt8 := l.flatMap escL ++ [0, 0]

theorem textL_cons (c : UInt8) (l : List UInt8) : textL (c :: l) = escL c ++ textL l := by simp [textL]

theorem textL_drop {l : List UInt8} {j : Nat} (h : j < l.length) : textL (l.drop j) = escL l[j] ++ textL (l.drop (j + 1)) := by
  rw [List.drop_eq_getElem_cons h, textL_cons]

theorem textL_end {l : List UInt8} {j : Nat} (h : l.length ≤ j) : textL (l.drop j) = [0, 0] := by
  rw [List.drop_eq_nil_of_le h]; rfl

theorem escL_length (c : UInt8) : 1 ≤ (escL c).length ∧ (escL c).length ≤ 2 := by unfold escL; split <;> simp

theorem textL_length : ∀ l, l.length + 2 ≤ (textL l).length ∧ (textL l).length ≤ 2 * l.length + 2
  | [] => by simp [textL]
  | c :: l => by
    have h1 := textL_length l
    have h2 := escL_length c
    rw [textL_cons, List.length_append, List.length_cons]
    omega

theorem ret_i64 {a b : Int} (h : a = b) : Ending.returned (.int .i64 a) = .returned (.int .i64 b) := by rw [h]

theorem cmpB_drop {a b : List UInt8} {j : Nat} (h : j < a.length) (h' : j < b.length) : compareBytes (a.drop j) (b.drop j) = if a[j].toNat < b[j].toNat then -1 else if b[j].toNat < a[j].toNat then 1 else compareBytes (a.drop (j + 1)) (b.drop (j + 1)) := by
  rw [List.drop_eq_getElem_cons h, List.drop_eq_getElem_cons h', compareBytes]
  simp only [UInt8.lt_iff_toNat_lt]

theorem cmpB_end {a b : List UInt8} {j : Nat} (hj : j ≤ a.length) (hj' : j ≤ b.length) (h : j = a.length ∨ j = b.length) : compareBytes (a.drop j) (b.drop j) = compareInt a.length b.length := by
  rcases h with h | h
  · rw [List.drop_eq_nil_of_le (by omega)]
    by_cases h' : j = b.length
    · rw [List.drop_eq_nil_of_le (by omega), show a.length = b.length by omega]
      simp [compareBytes, compareInt]
    · obtain ⟨c, l, e⟩ : ∃ c l, b.drop j = c :: l := ⟨_, _, List.drop_eq_getElem_cons (by omega)⟩
      rw [e]
      unfold compareInt
      rw [if_pos (by omega)]
      rfl
  · rw [show b.drop j = [] from List.drop_eq_nil_of_le (by omega)]
    by_cases h' : j = a.length
    · rw [List.drop_eq_nil_of_le (by omega), show a.length = b.length by omega]
      simp [compareBytes, compareInt]
    · obtain ⟨c, l, e⟩ : ∃ c l, a.drop j = c :: l := ⟨_, _, List.drop_eq_getElem_cons (by omega)⟩
      rw [e]
      unfold compareInt
      rw [if_neg (by omega), if_pos (by omega)]
      rfl

/-- -1, 1, as the first unlike bytes are; 0, if there are none before one of the two ends. -/
def cmpP : List UInt8 → List UInt8 → Int
  | [], _ => 0
  | _ :: _, [] => 0
  | a :: l, b :: r => lexI (compareInt a.toNat b.toNat) (cmpP l r)

theorem lexI_assoc (a b c : Int) : lexI (lexI a b) c = lexI a (lexI b c) := by
  unfold lexI
  by_cases h : a = 0 <;> simp [h]

theorem lexI_nil (a : Int) : lexI a 0 = a := by
  unfold lexI
  by_cases h : a = 0 <;> simp [h]

theorem lexI_of {a b : Int} (h : a = 0) : lexI a b = b := by unfold lexI; rw [if_pos h]
theorem lexI_at {a b : Int} (h : a ≠ 0) : lexI a b = a := by unfold lexI; rw [if_neg h]

theorem cmpI_self (a : Int) : compareInt a a = 0 := cmpI_zero.2 rfl
theorem cmpI_lt {a b : Int} (h : a < b) : compareInt a b = -1 := by unfold compareInt; rw [if_pos h]
theorem cmpI_gt {a b : Int} (h : b < a) : compareInt a b = 1 := by unfold compareInt; rw [if_neg (by omega), if_pos h]

theorem cmpP_cons (a b : UInt8) (l r : List UInt8) : cmpP (a :: l) (b :: r) = lexI (compareInt a.toNat b.toNat) (cmpP l r) := rfl

theorem cmpP_same : ∀ (p l r : List UInt8), cmpP (p ++ l) (p ++ r) = cmpP l r
  | [], _, _ => rfl
  | a :: p, l, r => by
    rw [List.cons_append, List.cons_append, cmpP_cons, lexI_of (cmpI_self _)]
    exact cmpP_same p l r

/-- So many bytes of a number, the most significant first. -/
def bigK : Nat → Nat → List UInt8
  | 0, _ => []
  | k + 1, n => bigK k (n / 256) ++ [UInt8.ofNat n]

theorem bigK_eight (n : Nat) : bigL n = bigK 8 n := by
  simp only [bigL, bigK, List.nil_append, List.cons_append, Nat.div_div_eq_div_mul]

theorem toNat_byte (n : Nat) : (UInt8.ofNat n).toNat = n % 256 := by simp [UInt8.toNat_ofNat']

theorem cmpI_digits (n m : Nat) : lexI (compareInt ((n / 256 : Nat) : Int) ((m / 256 : Nat) : Int)) (compareInt ((n % 256 : Nat) : Int) ((m % 256 : Nat) : Int)) = compareInt (n : Int) (m : Int) := by
  by_cases h : n / 256 = m / 256
  · rw [lexI_of (cmpI_zero.2 (by omega))]
    unfold compareInt
    split <;> split <;> (try split) <;> (try split) <;> omega
  · rw [lexI_at (fun e => h (by have := cmpI_zero.1 e; omega))]
    unfold compareInt
    split <;> split <;> (try split) <;> (try split) <;> omega

theorem cmpP_bigK : ∀ (k n m : Nat) (r r' : List UInt8), n < 256 ^ k → m < 256 ^ k → cmpP (bigK k n ++ r) (bigK k m ++ r') = lexI (compareInt (n : Int) (m : Int)) (cmpP r r')
  | 0, n, m, r, r', hn, hm => by
    rw [lexI_of (cmpI_zero.2 (by simp at hn hm; omega))]
    rfl
  | k + 1, n, m, r, r', hn, hm => by
    rw [bigK, bigK, List.append_assoc, List.append_assoc, cmpP_bigK k (n / 256) (m / 256) _ _ (by rw [Nat.pow_succ] at hn; omega) (by rw [Nat.pow_succ] at hm; omega), List.singleton_append, List.singleton_append, cmpP_cons,
      toNat_byte, toNat_byte, ← lexI_assoc, cmpI_digits]

theorem cmpP_big {n m : Nat} (r r' : List UInt8) (hn : n < 18446744073709551616) (hm : m < 18446744073709551616) : cmpP (bigL n ++ r) (bigL m ++ r') = lexI (compareInt (n : Int) (m : Int)) (cmpP r r') := by
  rw [bigK_eight, bigK_eight]
  exact cmpP_bigK 8 n m r r' hn hm

theorem zero_byte {c : UInt8} (h : c ≠ 0) : 0 < c.toNat := by
  rcases Nat.eq_zero_or_pos c.toNat with h' | h'
  · exact absurd (UInt8.toNat_inj.1 (by rw [h']; rfl)) h
  · exact h'

/-- Texts. -/
theorem cmpP_text : ∀ (s t r r' : List UInt8), cmpP (textL s ++ r) (textL t ++ r') = lexI (compareBytes s t) (cmpP r r')
  | [], [], r, r' => by
    rw [show compareBytes [] [] = 0 by simp [compareBytes], lexI_of rfl]
    exact cmpP_same [0, 0] r r'
  | [], b :: t, r, r' => by
    rw [show compareBytes [] (b :: t) = -1 by simp [compareBytes], lexI_at (by decide), textL_cons, show textL ([] : List UInt8) = [0, 0] from rfl]
    unfold escL
    by_cases hb : b = 0
    · rw [if_pos hb]
      simp only [List.cons_append, List.nil_append, cmpP_cons]
      rw [lexI_of (cmpI_self _), lexI_at (by decide)]
      rfl
    · rw [if_neg hb]
      simp only [List.cons_append, List.nil_append, cmpP_cons]
      have := zero_byte hb
      rw [cmpI_lt (by show ((0 : UInt8).toNat : Int) < _; simp; omega), lexI_at (by decide)]
  | a :: s, [], r, r' => by
    rw [show compareBytes (a :: s) [] = 1 by simp [compareBytes], lexI_at (by decide), textL_cons, show textL ([] : List UInt8) = [0, 0] from rfl]
    unfold escL
    by_cases hb : a = 0
    · rw [if_pos hb]
      simp only [List.cons_append, List.nil_append, cmpP_cons]
      rw [lexI_of (cmpI_self _), lexI_at (by decide)]
      rfl
    · rw [if_neg hb]
      simp only [List.cons_append, List.nil_append, cmpP_cons]
      have := zero_byte hb
      rw [cmpI_gt (by show ((0 : UInt8).toNat : Int) < _; simp; omega), lexI_at (by decide)]
  | a :: s, b :: t, r, r' => by
    rw [cmpB_cons, lexI_assoc, ← cmpP_text s t r r', textL_cons, textL_cons, List.append_assoc, List.append_assoc]
    by_cases hab : a = b
    · subst hab
      rw [cmpP_same, lexI_of (cmpI_self _)]
    · have hn : a.toNat ≠ b.toNat := fun e => hab (UInt8.toNat_inj.1 e)
      have hc : compareInt (a.toNat : Int) (b.toNat : Int) ≠ 0 := fun e => hn (by have := cmpI_zero.1 e; omega)
      rw [lexI_at hc]
      unfold escL
      by_cases ha : a = 0
      · subst ha
        rw [if_pos rfl, if_neg (fun e => hab e.symm)]
        simp only [List.cons_append, List.nil_append, cmpP_cons]
        rw [lexI_at hc]
      · by_cases hb : b = 0
        · subst hb
          rw [if_neg ha, if_pos rfl]
          simp only [List.cons_append, List.nil_append, cmpP_cons]
          rw [lexI_at hc]
        · rw [if_neg ha, if_neg hb]
          simp only [List.cons_append, List.nil_append, cmpP_cons]
          rw [lexI_at hc]

theorem cmpB_of_cmpP : ∀ {a b : List UInt8}, cmpP a b ≠ 0 → compareBytes a b = cmpP a b
  | [], b, h => absurd (by rw [cmpP]) h
  | a :: l, [], h => absurd (by rw [cmpP]) h
  | a :: l, b :: r, h => by
    rw [cmpB_cons, cmpP_cons]
    by_cases he : compareInt (a.toNat : Int) (b.toNat : Int) = 0
    · rw [lexI_of he, lexI_of he]
      rw [cmpP_cons, lexI_of he] at h
      exact cmpB_of_cmpP h
    · rw [lexI_at he, lexI_at he]

theorem cmpP_nil_right (l : List UInt8) : cmpP l [] = 0 := by cases l <;> rfl

theorem cmpP_take : ∀ {a b : List UInt8} {n : Nat}, a.take n = b.take n → n = min a.length b.length → cmpP a b = 0
  | [], b, n, _, _ => by rw [cmpP]
  | a :: l, [], n, _, _ => by rw [cmpP]
  | a :: l, b :: r, 0, _, h => by simp at h
  | a :: l, b :: r, n + 1, h, hn => by
    simp only [List.take_succ_cons, List.cons.injEq] at h
    obtain ⟨rfl, h⟩ := h
    rw [cmpP_cons, lexI_of (cmpI_self _)]
    exact cmpP_take h (by simp only [List.length_cons] at hn; omega)

end Go.Proofs.Ytfakpgfbpngfpaa
