/- Version keys as plain lists of bytes: what they are, how they are ordered, what they are read as; plain facts; no condition of ours. -/
import Derived.Test.YtfakpgfbpngfpaaKeyl
namespace Go.Proofs.Ytfakpgfbpngfpaa
open Go.Lib

/-- A name's bytes, and what ends them. -/
def markL (l : List UInt8) (m : UInt8) : List UInt8 := l.flatMap escL ++ [0, m]

theorem markL_cons (c : UInt8) (l : List UInt8) (m : UInt8) : markL (c :: l) m = escL c ++ markL l m := by simp [markL]
theorem markL_drop {l : List UInt8} {j : Nat} {m : UInt8} (h : j < l.length) : markL (l.drop j) m = escL l[j] ++ markL (l.drop (j + 1)) m := by
  rw [List.drop_eq_getElem_cons h, markL_cons]
theorem markL_end {l : List UInt8} {j : Nat} {m : UInt8} (h : l.length ≤ j) : markL (l.drop j) m = [0, m] := by
  rw [List.drop_eq_nil_of_le h]; rfl
theorem markL_length (m : UInt8) : ∀ l, l.length + 2 ≤ (markL l m).length ∧ (markL l m).length ≤ 2 * l.length + 2
  | [] => by simp [markL]
  | c :: l => by
    have h1 := markL_length m l
    have h2 := escL_length c
    rw [markL_cons, List.length_append, List.length_cons]
    omega

/-- Names. -/
theorem cmpP_mark {m m' : UInt8} (hm : m.toNat < 255) (hm' : m'.toNat < 255) : ∀ (s t r r' : List UInt8), cmpP (markL s m ++ r) (markL t m' ++ r') = lexI (compareBytes s t) (lexI (compareInt m.toNat m'.toNat) (cmpP r r'))
  | [], [], r, r' => by
    rw [show compareBytes [] [] = 0 by simp [compareBytes], lexI_of rfl]
    show cmpP (0 :: m :: r) (0 :: m' :: r') = _
    rw [cmpP_cons, lexI_of (cmpI_self _), cmpP_cons]
  | [], b :: t, r, r' => by
    rw [show compareBytes [] (b :: t) = -1 by simp [compareBytes], lexI_at (by decide), markL_cons, show markL ([] : List UInt8) m = [0, m] from rfl]
    unfold escL
    by_cases hb : b = 0
    · rw [if_pos hb]
      simp only [List.cons_append, List.nil_append, cmpP_cons]
      rw [lexI_of (cmpI_self _), cmpI_lt (by show (m.toNat : Int) < ((255 : UInt8).toNat : Int); simp; omega), lexI_at (by decide)]
    · rw [if_neg hb]
      simp only [List.cons_append, List.nil_append, cmpP_cons]
      have := zero_byte hb
      rw [cmpI_lt (by show ((0 : UInt8).toNat : Int) < _; simp; omega), lexI_at (by decide)]
  | a :: s, [], r, r' => by
    rw [show compareBytes (a :: s) [] = 1 by simp [compareBytes], lexI_at (by decide), markL_cons, show markL ([] : List UInt8) m' = [0, m'] from rfl]
    unfold escL
    by_cases hb : a = 0
    · rw [if_pos hb]
      simp only [List.cons_append, List.nil_append, cmpP_cons]
      rw [lexI_of (cmpI_self _), cmpI_gt (by show (m'.toNat : Int) < ((255 : UInt8).toNat : Int); simp; omega), lexI_at (by decide)]
    · rw [if_neg hb]
      simp only [List.cons_append, List.nil_append, cmpP_cons]
      have := zero_byte hb
      rw [cmpI_gt (by show ((0 : UInt8).toNat : Int) < _; simp; omega), lexI_at (by decide)]
  | a :: s, b :: t, r, r' => by
    rw [cmpB_cons, lexI_assoc, ← cmpP_mark hm hm' s t r r', markL_cons, markL_cons, List.append_assoc, List.append_assoc]
    by_cases hab : a = b
    · subst hab
      rw [cmpP_same, lexI_of (cmpI_self _)]
    · have hn : a.toNat ≠ b.toNat := fun e => hab (UInt8.toNat_inj.1 e)
      have hc : compareInt (a.toNat : Int) (b.toNat : Int) ≠ 0 := fun e => hn (by have := cmpI_zero.1 e; omega)
      rw [lexI_at hc]
      unfold escL
      by_cases ha : a = 0
      · subst ha
        rw [if_pos rfl, if_neg (fun e => hab e.symm)]
        simp only [List.cons_append, List.nil_append, cmpP_cons]
        rw [lexI_at hc]
      · by_cases hb : b = 0
        · subst hb
          rw [if_neg ha, if_pos rfl]
          simp only [List.cons_append, List.nil_append, cmpP_cons]
          rw [lexI_at hc]
        · rw [if_neg ha, if_neg hb]
          simp only [List.cons_append, List.nil_append, cmpP_cons]
          rw [lexI_at hc]

/-- The space, the name's bytes, and what ends them. -/
def frontL (sp : Int) (l : List UInt8) (m : UInt8) : List UInt8 := UInt8.ofNat sp.toNat :: markL l m
/-- A version key's bytes. -/
def stampL (sp : Int) (l : List UInt8) (t : Nat) : List UInt8 := frontL sp l 0 ++ bigL (18446744073709551615 - t)

theorem frontL_length (sp : Int) (l : List UInt8) (m : UInt8) : l.length + 3 ≤ (frontL sp l m).length ∧ (frontL sp l m).length ≤ 2 * l.length + 3 := by
  have := markL_length m l
  unfold frontL
  rw [List.length_cons]
  omega
theorem stampL_length (sp : Int) (l : List UInt8) (t : Nat) : l.length + 11 ≤ (stampL sp l t).length ∧ (stampL sp l t).length ≤ 2 * l.length + 11 := by
  have := frontL_length sp l 0
  unfold stampL
  rw [List.length_append, bigL_length]
  omega

theorem cmpP_front {sp sp' : Int} {m m' : UInt8} (h0 : 0 ≤ sp) (h1 : sp ≤ 255) (h0' : 0 ≤ sp') (h1' : sp' ≤ 255) (hm : m.toNat < 255) (hm' : m'.toNat < 255) (l l' r r' : List UInt8) :
    cmpP (frontL sp l m ++ r) (frontL sp' l' m' ++ r') = lexI (compareInt sp sp') (lexI (compareBytes l l') (lexI (compareInt m.toNat m'.toNat) (cmpP r r'))) := by
  unfold frontL
  rw [List.cons_append, List.cons_append, cmpP_cons, cmpP_mark hm hm', toNat_byte, toNat_byte]
  congr 2 <;> omega

theorem cmpB_stamp {sp sp' : Int} {t t' : Nat} (h0 : 0 ≤ sp) (h1 : sp ≤ 255) (h0' : 0 ≤ sp') (h1' : sp' ≤ 255) (ht : t < 18446744073709551616) (ht' : t' < 18446744073709551616) (l l' : List UInt8) :
    compareBytes (stampL sp l t) (stampL sp' l' t') = lexI (compareInt sp sp') (lexI (compareBytes l l') (compareInt t' t)) := by
  have e : cmpP (stampL sp l t) (stampL sp' l' t') = lexI (compareInt sp sp') (lexI (compareBytes l l') (compareInt t' t)) := by
    unfold stampL
    rw [cmpP_front h0 h1 h0' h1' (by decide) (by decide), lexI_of (cmpI_self _)]
    have := cmpP_big (n := 18446744073709551615 - t) (m := 18446744073709551615 - t') [] [] (by omega) (by omega)
    rw [List.append_nil, List.append_nil, show cmpP [] [] = 0 from rfl, lexI_nil] at this
    rw [this]
    congr 2
    unfold compareInt
    split <;> split <;> (try split) <;> (try split) <;> omega
  by_cases hz : lexI (compareInt sp sp') (lexI (compareBytes l l') (compareInt t' t)) = 0
  · rw [hz]
    obtain ⟨e1, e2⟩ := lexI_zero.1 hz
    obtain ⟨e3, e4⟩ := lexI_zero.1 e2
    obtain rfl := cmpI_zero.1 e1
    obtain rfl := cmpB_zero.1 e3
    obtain rfl : t' = t := by have := cmpI_zero.1 e4; omega
    exact cmpB_zero.2 rfl
  · rw [cmpB_of_cmpP (by rw [e]; exact hz), e]

theorem cmpB_longer : ∀ (p : List UInt8) (c : UInt8) (r : List UInt8), compareBytes (p ++ c :: r) p = 1
  | [], c, r => rfl
  | a :: p, c, r => by rw [List.cons_append, cmpB_cons, lexI_of (cmpI_self _)]; exact cmpB_longer p c r

/-- Which bytes lie between. -/
theorem span_stamp {sp sp' : Int} {t : Nat} (h0 : 0 ≤ sp) (h1 : sp ≤ 255) (h0' : 0 ≤ sp') (h1' : sp' ≤ 255) (l l' : List UInt8) :
    (¬ compareBytes (stampL sp' l' t) (frontL sp l 0) < 0 ∧ compareBytes (stampL sp' l' t) (frontL sp l 1) < 0) ↔ (sp' = sp ∧ l' = l) := by
  have ea : cmpP (stampL sp' l' t) (frontL sp l 0) = lexI (compareInt sp' sp) (compareBytes l' l) := by
    have := cmpP_front h0' h1' h0 h1 (m := 0) (m' := 0) (by decide) (by decide) l' l (bigL (18446744073709551615 - t)) []
    rw [List.append_nil, cmpP_nil_right, lexI_nil, cmpI_self, lexI_nil] at this
    exact this
  have eb : cmpP (stampL sp' l' t) (frontL sp l 1) = lexI (compareInt sp' sp) (lexI (compareBytes l' l) (-1)) := by
    have := cmpP_front h0' h1' h0 h1 (m := 0) (m' := 1) (by decide) (by decide) l' l (bigL (18446744073709551615 - t)) []
    rw [List.append_nil, cmpP_nil_right, lexI_nil] at this
    exact this
  by_cases hs : compareInt sp' sp = 0
  · obtain rfl := cmpI_zero.1 hs
    rw [lexI_of hs] at ea eb
    by_cases hl : compareBytes l' l = 0
    · obtain rfl := cmpB_zero.1 hl
      rw [lexI_of hl] at eb
      have e1 : compareBytes (stampL sp' l' t) (frontL sp' l' 0) = 1 := cmpB_longer _ _ _
      rw [e1, cmpB_of_cmpP (by rw [eb]; decide), eb]
      simp
    · rw [lexI_at hl] at eb
      rw [cmpB_of_cmpP (by rw [ea]; exact hl), cmpB_of_cmpP (by rw [eb]; exact hl), ea, eb]
      exact ⟨fun h => absurd h.2 h.1, fun h => absurd (cmpB_zero.2 h.2) hl⟩
  · rw [lexI_at hs] at ea eb
    rw [cmpB_of_cmpP (by rw [ea]; exact hs), cmpB_of_cmpP (by rw [eb]; exact hs), ea, eb]
    exact ⟨fun h => absurd h.2 h.1, fun h => absurd (cmpI_zero.2 h.1) hs⟩

/-- A name's bytes read: the name, and what stands behind. -/
def unesc : List UInt8 → Option (List UInt8 × List UInt8)
  | [] => none
  | [_] => none
  | c :: d :: r => if c = 0 then (if d = 0 then some ([], r) else if d = 255 then (unesc r).map (fun p => (0 :: p.1, p.2)) else none) else (unesc (d :: r)).map (fun p => (c :: p.1, p.2))

theorem unesc_short {l : List UInt8} (h : l.length ≤ 1) : unesc l = none := by
  match l, h with
  | [], _ => rw [unesc]
  | [_], _ => rw [unesc]

theorem unesc_end (r : List UInt8) : unesc (0 :: 0 :: r) = some ([], r) := by rw [unesc, if_pos rfl, if_pos rfl]
theorem unesc_zero (r : List UInt8) : unesc (0 :: 255 :: r) = (unesc r).map (fun p => (0 :: p.1, p.2)) := by rw [unesc, if_pos rfl, if_neg (by decide), if_pos rfl]
theorem unesc_bad {d : UInt8} (h : d ≠ 0) (h' : d ≠ 255) (r : List UInt8) : unesc (0 :: d :: r) = none := by rw [unesc, if_pos rfl, if_neg h, if_neg h']
theorem unesc_byte {c : UInt8} (h : c ≠ 0) (r : List UInt8) : unesc (c :: r) = (unesc r).map (fun p => (c :: p.1, p.2)) := by
  cases r with
  | nil => rw [unesc, unesc]; rfl
  | cons d r => rw [unesc, if_neg h]

theorem unesc_mark : ∀ (l r : List UInt8), unesc (markL l 0 ++ r) = some (l, r)
  | [], r => unesc_end r
  | c :: l, r => by
    rw [markL_cons, List.append_assoc]
    unfold escL
    by_cases h : c = 0
    · subst h
      rw [if_pos rfl]
      show unesc (0 :: 255 :: (markL l 0 ++ r)) = _
      rw [unesc_zero, unesc_mark l r]
      rfl
    · rw [if_neg h]
      show unesc (c :: (markL l 0 ++ r)) = _
      rw [unesc_byte h, unesc_mark l r]
      rfl

theorem unesc_back : ∀ (n : Nat) (b l r : List UInt8), b.length ≤ n → unesc b = some (l, r) → b = markL l 0 ++ r
  | 0, b, l, r, hn, h => by
    rw [unesc_short (by omega)] at h; cases h
  | n + 1, [], l, r, _, h => by rw [unesc] at h; cases h
  | n + 1, [c], l, r, _, h => by rw [unesc] at h; cases h
  | n + 1, c :: d :: q, l, r, hn, h => by
    by_cases hc : c = 0
    · subst hc
      by_cases hd : d = 0
      · subst hd
        rw [unesc_end] at h
        cases h
        rfl
      · by_cases hd2 : d = 255
        · subst hd2
          rw [unesc_zero] at h
          cases hq : unesc q with
          | none => rw [hq] at h; cases h
          | some p =>
            obtain ⟨l', r'⟩ := p
            rw [hq] at h
            cases h
            rw [unesc_back n q l' r' (by simp only [List.length_cons] at hn; omega) hq, markL_cons]
            rfl
        · rw [unesc_bad hd hd2] at h; cases h
    · rw [unesc_byte hc] at h
      cases hq : unesc (d :: q) with
      | none => rw [hq] at h; cases h
      | some p =>
        obtain ⟨l', r'⟩ := p
        rw [hq] at h
        cases h
        rw [unesc_back n (d :: q) l' r' (by simp only [List.length_cons] at hn ⊢; omega) hq, markL_cons]
        unfold escL
        rw [if_neg hc]
        rfl

/-- Bytes read as a number, the most significant first. -/
def numL (l : List UInt8) : Nat := l.foldl (fun n c => n * 256 + c.toNat) 0

theorem numL_snoc (l : List UInt8) (c : UInt8) : numL (l ++ [c]) = numL l * 256 + c.toNat := by simp [numL]
theorem numL_bigK : ∀ (k n : Nat), n < 256 ^ k → numL (bigK k n) = n
  | 0, n, h => by simp at h; subst h; rfl
  | k + 1, n, h => by
    rw [bigK, numL_snoc, numL_bigK k (n / 256) (by rw [Nat.pow_succ] at h; omega), toNat_byte]
    omega
theorem numL_big {n : Nat} (h : n < 18446744073709551616) : numL (bigL n) = n := by
  rw [bigK_eight]; exact numL_bigK 8 n h

theorem numL_lt : ∀ (k : Nat) (l : List UInt8), l.length = k → numL l < 256 ^ k
  | 0, l, h => by obtain rfl := List.length_eq_zero_iff.1 h; simp [numL]
  | k + 1, l, h => by
    have hne : l ≠ [] := by intro e; rw [e] at h; simp at h
    rw [← List.dropLast_concat_getLast hne, numL_snoc, Nat.pow_succ]
    have := numL_lt k l.dropLast (by simp; omega)
    have := (l.getLast hne).toNat_lt
    omega

theorem bigK_num : ∀ (k : Nat) (l : List UInt8), l.length = k → bigK k (numL l) = l
  | 0, l, h => by obtain rfl := List.length_eq_zero_iff.1 h; rfl
  | k + 1, l, h => by
    have hne : l ≠ [] := by intro e; rw [e] at h; simp at h
    have e := List.dropLast_concat_getLast hne
    have hb := (l.getLast hne).toNat_lt
    have h1 : numL l / 256 = numL l.dropLast := by rw [← e, numL_snoc]; simp only [List.dropLast_concat]; omega
    have h2 : UInt8.ofNat (numL l) = l.getLast hne := by
      apply UInt8.toNat_inj.1
      rw [toNat_byte]
      conv => lhs; rw [← e, numL_snoc]
      omega
    rw [bigK, h1, h2, bigK_num k l.dropLast (by simp; omega), e]

theorem big_num {l : List UInt8} (h : l.length = 8) : bigL (numL l) = l := by rw [bigK_eight]; exact bigK_num 8 l h

/-- What all bytes are read as: the space, the name, the time. -/
def readK : List UInt8 → Option (Nat × List UInt8 × Nat)
  | [] => none
  | s :: b => match unesc b with
    | none => none
    | some (l, r) => if l.length ≤ 200 ∧ r.length = 8 then some (s.toNat, l, 18446744073709551615 - numL r) else none

theorem readK_stamp {sp : Int} {l : List UInt8} {t : Nat} (h0 : 0 ≤ sp) (h1 : sp ≤ 255) (hl : l.length ≤ 200) (ht : t < 18446744073709551616) : readK (stampL sp l t) = some (sp.toNat, l, t) := by
  show readK (UInt8.ofNat sp.toNat :: (markL l 0 ++ bigL (18446744073709551615 - t))) = _
  rw [readK, unesc_mark]
  simp only [hl, bigL_length, and_self, if_true]
  rw [numL_big (by omega), toNat_byte]
  congr 2
  · omega
  · congr 1; omega

theorem readK_back {b : List UInt8} {s : Nat} {l : List UInt8} {t : Nat} (h : readK b = some (s, l, t)) : s ≤ 255 ∧ l.length ≤ 200 ∧ t < 18446744073709551616 ∧ b = stampL (s : Int) l t := by
  cases b with
  | nil => rw [readK] at h; cases h
  | cons c b =>
    rw [readK] at h
    cases hq : unesc b with
    | none => rw [hq] at h; cases h
    | some p =>
      obtain ⟨l', r⟩ := p
      rw [hq] at h
      simp only at h
      by_cases hh : l'.length ≤ 200 ∧ r.length = 8
      · rw [if_pos hh] at h
        simp only [Option.some.injEq, Prod.mk.injEq] at h
        obtain ⟨rfl, rfl, rfl⟩ := h
        have hc := c.toNat_lt
        have hn := numL_lt 8 r hh.2
        refine ⟨by omega, hh.1, by omega, ?_⟩
        have e1 : 18446744073709551615 - (18446744073709551615 - numL r) = numL r := by have : numL r < 18446744073709551616 := hn; omega
        unfold stampL frontL
        rw [e1, big_num hh.2, unesc_back b.length b l' r (Nat.le_refl _) hq, List.cons_append]
        congr 1
        simp
      · rw [if_neg hh] at h; cases h
end Go.Proofs.Ytfakpgfbpngfpaa
