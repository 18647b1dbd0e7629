/- What the model's decoder of a text gives back, encoded again, where it finds no fault: plain facts on lists of bytes. -/
import Derived.Lib.ValidLaws
import Derived.Lib.TrimUEq
import Derived.Lib.MapLaws
import Derived.Laws.Cover4
namespace Go.Proofs.YtcbfbmidekmboaaDoor
open Go.Lib

theorem encode_of (c : Nat) (hv : c < 55296 ∨ (57344 ≤ c ∧ c ≤ 1114111)) :
    (Utf8.encode (c : Int)).data.toList = if c < 128 then [UInt8.ofNat c] else if c < 2048 then [UInt8.ofNat (192 + c / 64), UInt8.ofNat (128 + c % 64)]
      else if c < 65536 then [UInt8.ofNat (224 + c / 4096), UInt8.ofNat (128 + c / 64 % 64), UInt8.ofNat (128 + c % 64)]
      else [UInt8.ofNat (240 + c / 262144), UInt8.ofNat (128 + c / 4096 % 64), UInt8.ofNat (128 + c / 64 % 64), UInt8.ofNat (128 + c % 64)] := by
  have hval : Utf8.valid (c : Int) = true := by
    simp only [Utf8.valid, Bool.or_eq_true, Bool.and_eq_true, decide_eq_true_eq]
    omega
  unfold Utf8.encode
  simp only [hval, if_true, Int.toNat_natCast]
  repeat' split
  all_goals rfl

theorem u8_eq (n : Nat) (b : UInt8) (h : n = b.toNat) : UInt8.ofNat n = b := by
  subst h
  exact UInt8.ofNat_toNat

/-- No fault at this list's head. -/
def Proper (l : List UInt8) : Prop := ¬ ((decodeL l).1 = 65533 ∧ (decodeL l).2 = 1)

set_option maxHeartbeats 1000000 in
set_option maxRecDepth 100000 in
theorem decodeN_proper (n b0 b1 b2 b3 : Nat) (_h0 : b0 < 256) (h1 : b1 < 256) (h2 : b2 < 256) (_h3 : b3 < 256) (hp : ¬ ((decodeN n b0 b1 b2 b3).1 = 65533 ∧ (decodeN n b0 b1 b2 b3).2 = 1)) :
    (decodeN n b0 b1 b2 b3 = (b0, 1) ∧ b0 < 128) ∨
    (∃ c, decodeN n b0 b1 b2 b3 = (c, 2) ∧ 1 < n ∧ 128 ≤ c ∧ c < 2048 ∧ 192 + c / 64 = b0 ∧ 128 + c % 64 = b1) ∨
    (∃ c, decodeN n b0 b1 b2 b3 = (c, 3) ∧ 2 < n ∧ 2048 ≤ c ∧ c < 65536 ∧ (c < 55296 ∨ (57344 ≤ c ∧ c ≤ 1114111)) ∧ 224 + c / 4096 = b0 ∧ 128 + c / 64 % 64 = b1 ∧ 128 + c % 64 = b2) ∨
    (∃ c, decodeN n b0 b1 b2 b3 = (c, 4) ∧ 3 < n ∧ 65536 ≤ c ∧ c ≤ 1114111 ∧ 240 + c / 262144 = b0 ∧ 128 + c / 4096 % 64 = b1 ∧ 128 + c / 64 % 64 = b2 ∧ 128 + c % 64 = b3) := by
  by_cases c1 : b0 < 128
  · exact .inl ⟨by unfold decodeN; rw [if_pos c1], c1⟩
  · right
    by_cases c2 : b0 / 32 = 6 ∧ (1 < n ∧ b1 / 64 = 2)
    · left
      by_cases d : b0 % 32 * 64 + b1 % 64 ≥ 128
      · exact ⟨b0 % 32 * 64 + b1 % 64, by unfold decodeN; rw [if_neg c1, if_pos c2, if_pos d], by omega, by omega, by omega, by omega, by omega⟩
      · have e : decodeN n b0 b1 b2 b3 = (65533, 1) := by unfold decodeN; rw [if_neg c1, if_pos c2, if_neg d]
        exact absurd ⟨by rw [e], by rw [e]⟩ hp
    · right
      by_cases c3 : b0 / 16 = 14 ∧ (1 < n ∧ b1 / 64 = 2) ∧ (2 < n ∧ b2 / 64 = 2)
      · left
        by_cases d : b0 % 16 * 4096 + b1 % 64 * 64 + b2 % 64 ≥ 2048 ∧ (b0 % 16 * 4096 + b1 % 64 * 64 + b2 % 64 < 55296 ∨ (57344 ≤ b0 % 16 * 4096 + b1 % 64 * 64 + b2 % 64 ∧ b0 % 16 * 4096 + b1 % 64 * 64 + b2 % 64 ≤ 1114111))
        · exact ⟨b0 % 16 * 4096 + b1 % 64 * 64 + b2 % 64, by unfold decodeN; rw [if_neg c1, if_neg c2, if_pos c3, if_pos d], by omega, by omega, by omega, d.2, by omega, by omega, by omega⟩
        · have e : decodeN n b0 b1 b2 b3 = (65533, 1) := by unfold decodeN; rw [if_neg c1, if_neg c2, if_pos c3, if_neg d]
          exact absurd ⟨by rw [e], by rw [e]⟩ hp
      · right
        by_cases c4 : b0 / 8 = 30 ∧ (1 < n ∧ b1 / 64 = 2) ∧ (2 < n ∧ b2 / 64 = 2) ∧ (3 < n ∧ b3 / 64 = 2)
        · by_cases d : b0 % 8 * 262144 + b1 % 64 * 4096 + b2 % 64 * 64 + b3 % 64 ≥ 65536 ∧ (b0 % 8 * 262144 + b1 % 64 * 4096 + b2 % 64 * 64 + b3 % 64 < 55296 ∨ (57344 ≤ b0 % 8 * 262144 + b1 % 64 * 4096 + b2 % 64 * 64 + b3 % 64 ∧ b0 % 8 * 262144 + b1 % 64 * 4096 + b2 % 64 * 64 + b3 % 64 ≤ 1114111))
          · exact ⟨b0 % 8 * 262144 + b1 % 64 * 4096 + b2 % 64 * 64 + b3 % 64, by unfold decodeN; rw [if_neg c1, if_neg c2, if_neg c3, if_pos c4, if_pos d], by omega, by omega, by omega, by omega, by omega, by omega, by omega⟩
          · have e : decodeN n b0 b1 b2 b3 = (65533, 1) := by unfold decodeN; rw [if_neg c1, if_neg c2, if_neg c3, if_pos c4, if_neg d]
            exact absurd ⟨by rw [e], by rw [e]⟩ hp
        · have e : decodeN n b0 b1 b2 b3 = (65533, 1) := by unfold decodeN; rw [if_neg c1, if_neg c2, if_neg c3, if_neg c4]
          exact absurd ⟨by rw [e], by rw [e]⟩ hp

theorem enc_dec (l : List UInt8) (hne : l ≠ []) (hp : Proper l) : (Utf8.encode ((decodeL l).1 : Int)).data.toList = l.take (decodeL l).2 ∧ (decodeL l).2 ≤ l.length := by
  unfold Proper at hp
  rw [decodeL_N] at hp ⊢
  rcases decodeN_proper _ _ _ _ _ (UInt8.toNat_lt _) (UInt8.toNat_lt _) (UInt8.toNat_lt _) (UInt8.toNat_lt _) hp with ⟨e, hc⟩ | ⟨c, e, hn, h1, h2, e0, e1⟩ | ⟨c, e, hn, h1, h2, hv, e0, e1, e2⟩ | ⟨c, e, hn, h1, h2, e0, e1, e2, e3⟩
  · rw [e]
    match l, hne with
    | b0 :: t, _ =>
      rw [encode_of _ (by omega), if_pos hc, u8_eq ((b0 :: t).getD 0 0).toNat b0 rfl]
      exact ⟨rfl, by simp⟩
  · rw [e]
    match l, hn with
    | b0 :: b1 :: t, _ =>
      simp only [List.getD_cons_zero, List.getD_cons_succ] at e0 e1
      rw [encode_of _ (by omega), if_neg (by omega), if_pos (by omega), u8_eq _ b0 e0, u8_eq _ b1 e1]
      exact ⟨rfl, by simp⟩
    | [_], hn => simp at hn
  · rw [e]
    match l, hn with
    | b0 :: b1 :: b2 :: t, _ =>
      simp only [List.getD_cons_zero, List.getD_cons_succ] at e0 e1 e2
      rw [encode_of _ hv, if_neg (by omega), if_neg (by omega), if_pos (by omega), u8_eq _ b0 e0, u8_eq _ b1 e1, u8_eq _ b2 e2]
      exact ⟨rfl, by simp⟩
    | [_, _], hn => simp at hn
    | [_], hn => simp at hn
  · rw [e]
    match l, hn with
    | b0 :: b1 :: b2 :: b3 :: t, _ =>
      simp only [List.getD_cons_zero, List.getD_cons_succ] at e0 e1 e2 e3
      rw [encode_of _ (by omega), if_neg (by omega), if_neg (by omega), if_neg (by omega), u8_eq _ b0 e0, u8_eq _ b1 e1, u8_eq _ b2 e2, u8_eq _ b3 e3]
      exact ⟨rfl, by simp⟩
    | [_, _, _], hn => simp at hn
    | [_, _], hn => simp at hn
    | [_], hn => simp at hn

/-- A true U+FFFD is its three bytes; such bytes are one. -/
theorem fffd (l : List UInt8) (hne : l ≠ []) (h : (decodeL l).1 = 65533) : Proper l ↔ l.take 3 = [239, 191, 189] := by
  constructor
  · intro hp
    obtain ⟨h1, h2⟩ := enc_dec l hne hp
    rw [h] at h1
    have e : (Utf8.encode ((65533 : Nat) : Int)).data.toList = [239, 191, 189] := by decide
    rw [e] at h1
    have h3 : (decodeL l).2 = 3 := by
      have := congrArg List.length h1
      simp at this
      omega
    rw [h3] at h1
    exact h1.symm
  · intro h3 hp
    match l, h3 with
    | [a, b, c], h3 => simp at h3; obtain ⟨rfl, rfl, rfl⟩ := h3; rw [decodeL_N] at hp; simp [decodeN] at hp
    | a :: b :: c :: d :: t, h3 =>
      simp at h3
      obtain ⟨rfl, rfl, rfl⟩ := h3
      rw [decodeL_N] at hp
      simp [decodeN] at hp

/-- The code points of a text. -/
def codes : Nat → List UInt8 → List Int
  | 0, _ => []
  | n + 1, l => if l = [] then [] else ((decodeL l).1 : Int) :: codes n (l.drop (decodeL l).2)

theorem runesFrom_eq (s : ByteArray) : ∀ (n i : Nat) (acc : Array Value), Conv.runesFrom s n i acc = acc ++ ((codes n (s.data.toList.drop i)).map (Value.int .i32)).toArray
  | 0, i, acc => by simp [Conv.runesFrom, codes]
  | n + 1, i, acc => by
    unfold Conv.runesFrom codes
    by_cases hi : i < s.size
    · have hne : s.data.toList.drop i ≠ [] := by
        intro e
        have := congrArg List.length e
        simp at this
        have : s.data.size = s.size := rfl
        omega
      rw [if_pos hi, if_neg hne, decodeL_drop, List.drop_drop]
      simp only
      rw [runesFrom_eq s n]
      simp
    · have he : s.data.toList.drop i = [] := by
        apply List.drop_eq_nil_of_le
        have : s.data.size = s.size := rfl
        simp
        omega
      rw [if_neg hi, if_pos he]
      simp

theorem foldl_bytes (ns : List Int) : ∀ B : ByteArray, (ns.foldl (fun r n => r ++ Utf8.encode n) B).data.toList = B.data.toList ++ ns.flatMap fun n => (Utf8.encode n).data.toList := by
  induction ns with
  | nil => intro B; simp
  | cons n ns ih =>
    intro B
    rw [List.foldl_cons, ih, List.flatMap_cons]
    simp

theorem codes_bytes : ∀ (n : Nat) (l : List UInt8), l.length ≤ n → validGoD n l = true → (codes n l).flatMap (fun c => (Utf8.encode c).data.toList) = l
  | 0, l, hl, _ => by
    have : l = [] := List.length_eq_zero_iff.1 (by omega)
    subst this
    rfl
  | n + 1, l, hl, hv => by
    unfold codes
    by_cases hne : l = []
    · rw [if_pos hne, hne]; rfl
    · rw [if_neg hne, List.flatMap_cons]
      rw [validGoD, if_neg hne] at hv
      have hp : Proper l := fun h => by rw [if_pos h] at hv; cases hv
      rw [if_neg hp] at hv
      obtain ⟨h1, h2⟩ := enc_dec l hne hp
      have hw := decodeL_width l
      rw [h1, codes_bytes n _ (by simp; omega) hv, List.take_append_drop]

/-- A text without a fault, taken apart into code points and put together again, is what it was. -/
theorem runes_back (s : ByteArray) (hv : validD s.data.toList = true) : runesBytes (codes s.size s.data.toList) = s := by
  have h := foldl_bytes (codes s.size s.data.toList) ByteArray.empty
  have hz : s.data.toList.length = s.size := by simp
  unfold validD at hv
  rw [hz] at hv
  rw [codes_bytes _ _ (by omega) hv] at h
  unfold runesBytes
  apply ByteArray.ext
  apply Array.ext'
  simpa using h
end Go.Proofs.YtcbfbmidekmboaaDoor
