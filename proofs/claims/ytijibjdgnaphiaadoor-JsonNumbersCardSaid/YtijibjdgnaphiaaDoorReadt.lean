/- Reading an integer's digits with blanks around them: the integer; no condition of ours. -/
import Derived.Test.YtijibjdgnaphiaaDoorReadr
namespace Go.Proofs.YtijibjdgnaphiaaDoor
open Go.ChangeShapes Go.WideShapes Go.Deep Go.RowKit Go.Lib

theorem parse_append {M : Nat} : ∀ {l r : List UInt8} {acc a : Nat}, Lib.parseUintM M acc l = .ok a → Lib.parseUintM M acc (l ++ r) = Lib.parseUintM M a r
  | [], r, acc, a, h => by
    simp only [Lib.parseUintM, NumEnd.ok.injEq] at h
    rw [List.nil_append, h]
  | c :: l, r, acc, a, h => by
    rw [Lib.parseUintM] at h
    rw [List.cons_append, Lib.parseUintM]
    by_cases hd : 48 ≤ c.toNat ∧ c.toNat ≤ 57
    · rw [if_pos hd] at h ⊢
      by_cases h1 : 1844674407370955162 ≤ acc
      · rw [if_pos h1] at h; cases h
      · rw [if_neg h1] at h ⊢
        by_cases h2 : M < acc * 10 + (c.toNat - 48)
        · rw [if_pos h2] at h; cases h
        · rw [if_neg h2] at h ⊢
          exact parse_append h
    · rw [if_neg hd] at h; cases h

theorem parse_digits : ∀ u : Nat, u ≤ 18446744073709551615 → Lib.parseUintM 18446744073709551615 0 (Lib.decDigits u) = .ok u := by
  intro u
  induction u using Nat.strongRecOn with
  | _ u ih =>
    intro hu
    by_cases h : u < 10
    · rw [Lib.decDigits_one h, Lib.parseUintM, if_pos (by rw [digit_byte h]; omega), if_neg (by omega), if_neg (by rw [digit_byte h]; omega), digit_byte h, Lib.parseUintM]
      congr 1
      omega
    · rw [Lib.decDigits, dif_neg h, parse_append (ih (u / 10) (by omega) (by omega)), Lib.parseUintM, if_pos (by rw [digit_byte (by omega)]; omega), if_neg (by omega), if_neg (by rw [digit_byte (by omega)]; omega), digit_byte (by omega), Lib.parseUintM]
      congr 1
      omega

theorem digits_ne (u : Nat) : Lib.decDigits u ≠ [] := by
  obtain ⟨c, l, h, _⟩ := decDigits_head u
  rw [h]; simp

theorem parse_itoa (n : Int) (h0 : -9223372036854775808 ≤ n) (h1 : n ≤ 9223372036854775807) : Lib.parseIntB 64 (Lib.itoa n) = .ok n := by
  unfold Lib.itoa
  by_cases hn : n < 0
  · rw [if_pos hn]
    unfold Lib.parseIntB
    have e : Lib.parseUintB 64 (Lib.decDigits n.natAbs) = .ok n.natAbs := by
      unfold Lib.parseUintB
      rw [if_neg (digits_ne _)]
      exact parse_digits _ (by omega)
    simp only [show (45 : UInt8).toNat = 45 from rfl, or_true, if_true, e]
    rw [if_neg (by simp), if_neg (by simp; omega)]
    congr 1
    omega
  · rw [if_neg hn]
    obtain ⟨c, l, hc, hd⟩ := decDigits_head n.toNat
    have e : Lib.parseUintB 64 (Lib.decDigits n.toNat) = .ok n.toNat := by
      unfold Lib.parseUintB
      rw [if_neg (digits_ne _)]
      exact parse_digits _ (by omega)
    rw [hc] at e ⊢
    have hcn : 48 ≤ c.toNat ∧ c.toNat ≤ 57 := by simpa [isDigit] using hd
    unfold Lib.parseIntB
    have n43 : ¬ c.toNat = 43 := by omega
    have n45 : ¬ c.toNat = 45 := by omega
    simp only [n43, n45, or_self, if_false, e, not_false_eq_true, true_and, false_and]
    rw [if_neg (by omega)]
    congr 1
    omega

theorem blanks_take : ∀ {l r : List UInt8}, (∀ c ∈ l, isBlank c = true) → (∀ c, r.head? = some c → isBlank c = false) → (l ++ r).takeWhile isBlank = l
  | [], r, _, hr => by
    cases r with
    | nil => rfl
    | cons c r => have := hr c rfl; simp [this]
  | c :: l, r, h, hr => by
    rw [List.cons_append, List.takeWhile_cons, h c (by simp), blanks_take (fun d hd => h d (List.mem_cons_of_mem _ hd)) hr]
    rfl

theorem blank_digit {c : UInt8} (h : isBlank c = true) : isDigit c = false := by
  have : c = 9 ∨ c = 10 ∨ c = 13 ∨ c = 32 := by simpa [isBlank] using h
  rcases this with rfl | rfl | rfl | rfl <;> decide

theorem digit_blank {c : UInt8} (h : isDigit c = true) : isBlank c = false := by
  cases hb : isBlank c with
  | false => rfl
  | true => rw [blank_digit hb] at h; cases h

theorem itoa_head (n : Int) : ∃ c l, Lib.itoa n = c :: l ∧ (c = 45 ∨ isDigit c = true) := by
  unfold Lib.itoa
  split
  · exact ⟨45, _, rfl, .inl rfl⟩
  · obtain ⟨c, l, h, hd⟩ := decDigits_head n.toNat
    exact ⟨c, l, h, .inr hd⟩

theorem digits_zero : ∀ u : Nat, 0 < u → ∀ c l, Lib.decDigits u = c :: l → c ≠ 48 := by
  intro u
  induction u using Nat.strongRecOn with
  | _ u ih =>
    intro hu c l h
    by_cases h10 : u < 10
    · rw [Lib.decDigits_one h10] at h
      simp only [List.cons.injEq] at h
      intro e
      have := congrArg UInt8.toNat (h.1.trans e)
      rw [digit_byte h10] at this
      simp at this
      omega
    · rw [Lib.decDigits, dif_neg h10] at h
      obtain ⟨c', l', h', _⟩ := decDigits_head (u / 10)
      rw [h'] at h
      simp only [List.cons_append, List.cons.injEq] at h
      rw [← h.1]
      exact ih (u / 10) (by omega) (by omega) c' l' h'

theorem drop_list (A l : List UInt8) : (⟨(A ++ l).toArray⟩ : ByteArray).data.toList.drop A.length = l := by simp

theorem prefix_one (c a : UInt8) (l : List UInt8) : Lib.hasPrefix (c :: l) [a] = (a == c) := by simp [Lib.hasPrefix, List.isPrefixOf]

/-- Reading what an integer is printed as, with blanks around it. -/
theorem Read_text (A B : List UInt8) (n : Int) (w : World) (h0 : -9223372036854775808 ≤ n) (h1 : n ≤ 9223372036854775807) (hA : ∀ c ∈ A, isBlank c = true) (hB : ∀ c ∈ B, isBlank c = true) (lA : A.length ≤ 2) (lB : B.length ≤ 2) (hT : Tabs w) :
    Calls Tryd.prog 21 #[.string ⟨(A ++ (Lib.itoa n ++ B)).toArray⟩] w fun e w' => e = .returned (.tuple #[.agg #[.int .i64 3, .int .i64 n, .string ⟨#[]⟩, .slice none 0 0, .slice none 0 0], .int .i64 0]) ∧ Below w.heap.size w w' := by
  have hil := Lib.itoa_length_le n h0 h1
  obtain ⟨s, hs⟩ : ∃ s : ByteArray, ⟨(A ++ (Lib.itoa n ++ B)).toArray⟩ = s := ⟨_, rfl⟩
  have hl : s.data.toList = A ++ (Lib.itoa n ++ B) := by rw [← hs]
  have hsz : s.size = A.length + ((Lib.itoa n).length + B.length) := by rw [← hs]; simp [ByteArray.size]
  rw [hs]
  have hd0 : s.data.toList.drop A.length = Lib.itoa n ++ B := by rw [hl]; simp
  obtain ⟨c, l, hc, hcd⟩ := itoa_head n
  have hcb : isBlank c = false := by
    rcases hcd with rfl | h
    · decide
    · exact digit_blank h
  have hsk1 : skip s 0 = A.length := by
    unfold skip
    rw [List.drop_zero, hl, blanks_take hA (fun d hd => by rw [hc] at hd; simp at hd; rw [← hd]; exact hcb)]
    omega
  have hBs : Stops B := fun d hd => by
    cases B with
    | nil => cases hd
    | cons x B => simp at hd; rw [← hd]; exact blank_digit (hB x (by simp))
  have hlen : (Lib.itoa n).length + A.length ≤ s.size := by omega
  have hlen1 : 1 ≤ (Lib.itoa n).length := by rw [hc]; simp
  have hsk2 : skip s (A.length + (Lib.itoa n).length) = s.size := by
    unfold skip
    have : s.data.toList.drop (A.length + (Lib.itoa n).length) = B := by rw [← List.drop_drop, hd0]; simp
    rw [this]
    have := blanks_take (l := B) (r := []) hB (fun d hd => by cases hd)
    rw [List.append_nil] at this
    rw [this]
    omega
  have unl : ∀ a r, (a = 110 ∨ a = 102 ∨ a = 116 ∨ a = 34 ∨ a = 91 ∨ a = 123) → Unlike s A.length (a :: r) := fun a r ha => by
    unfold Unlike
    rw [hd0, hc]
    have hne : a ≠ c := by
      rintro rfl
      rcases ha with rfl | rfl | rfl | rfl | rfl | rfl <;> rcases hcd with h | h <;> exact absurd h (by decide)
    simp [Lib.hasPrefix, List.isPrefixOf, hne]
  have NUM : ∀ q W, PlaceAt q A.length W → Calls Tryd.prog 83 #[.string s, .pointer (some ⟨q, 0, none⟩)] W fun e w' => e = .returned (.tuple #[.agg #[.int .i64 3, .int .i64 n, .string ⟨#[]⟩, .slice none 0 0, .slice none 0 0], .bool true]) ∧ Moves q (A.length + (Lib.itoa n).length) W w' := fun q W hW => by
    have hext : (s.extract A.length (A.length + (Lib.itoa n).length)).data.toList = Lib.itoa n := by
      rw [extract_data, hd0]; simp
    by_cases hn : n < 0
    · have hit : Lib.itoa n = 45 :: Lib.decDigits n.natAbs := by unfold Lib.itoa; rw [if_pos hn]
      have hd1 : s.data.toList.drop (A.length + 1) = Lib.decDigits n.natAbs ++ B := by rw [← List.drop_drop, hd0, hit]; rfl
      obtain ⟨c', l', hc', hd'⟩ := decDigits_head n.natAbs
      have hend : digitsEnd s (A.length + 1) = A.length + (Lib.itoa n).length := by
        unfold digitsEnd
        rw [hd1, takeWhile_stop (decDigits_digits _) hBs, hit]
        simp; omega
      exact readNumber_digits s q A.length (A.length + 1) _ n W hW (by omega) (by rw [hd0, hit, List.cons_append, prefix_one]; rfl) (by omega) hend (by omega) (by rw [hd1, hc', List.cons_append, prefix_one, beq_eq_false_iff_ne]; exact fun e => digits_zero _ (by omega) c' l' hc' e.symm) (by rw [hext]; exact parse_itoa n h0 h1)
    · have hit : Lib.itoa n = Lib.decDigits n.toNat := by unfold Lib.itoa; rw [if_neg hn]
      obtain ⟨c', l', hc', hd'⟩ := decDigits_head n.toNat
      have hnp : (if Lib.hasPrefix (s.data.toList.drop A.length) [45] = true then A.length + 1 else A.length) = A.length := by
        rw [hd0, hit, hc', List.cons_append, prefix_one, if_neg]
        rw [Bool.not_eq_true, beq_eq_false_iff_ne]
        rintro rfl
        exact absurd hd' (by decide)
      by_cases hz : n = 0
      · subst hz
        have hit0 : Lib.itoa 0 = [48] := by rw [hit]; exact Lib.decDigits_one (by decide)
        have := readNumber_zero s q A.length A.length 0 W hW (by omega) hnp.symm (by rw [hit0] at hlen; simp at hlen; omega) (by omega) (by rw [hd0, hit0, List.cons_append, prefix_one]; rfl) (by rw [hit0] at hext; simp only [List.length_cons, List.length_nil, Nat.zero_add] at hext; rw [hext, ← hit0]; exact parse_itoa 0 h0 h1)
        rw [hit0]
        exact this
      · have hend : digitsEnd s A.length = A.length + (Lib.itoa n).length := by
          unfold digitsEnd
          rw [hd0, hit, takeWhile_stop (decDigits_digits _) hBs]
        exact readNumber_digits s q A.length A.length _ n W hW (by omega) hnp.symm (by omega) hend (by omega) (by rw [hd0, hit, hc', List.cons_append, prefix_one, beq_eq_false_iff_ne]; exact fun e => digits_zero _ (by omega) c' l' hc' e.symm) (by rw [hext]; exact parse_itoa n h0 h1)
  refine Read_num s n w (by omega) h0 h1 hT (Lib.hid fun q W hW => ?_)
  refine readValue_num s q 0 A.length (A.length + (Lib.itoa n).length) s.size n W hW (by omega) (by omega) hsk1 (by omega) hsk2 (Lib.hid fun W' hW' => ?_)
  exact readBare_num s q A.length (A.length + (Lib.itoa n).length) n W' hW' (by omega) (by omega) (unl _ _ (by simp)) (unl _ _ (by simp)) (unl _ _ (by simp)) (unl _ _ (by simp)) (unl _ _ (by simp)) (unl _ _ (by simp)) (Lib.hid fun W2 hW2 => NUM q W2 hW2)
end Go.Proofs.YtijibjdgnaphiaaDoor
