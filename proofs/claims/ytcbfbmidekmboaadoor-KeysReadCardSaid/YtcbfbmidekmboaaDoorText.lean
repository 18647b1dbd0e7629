/- How deep a value is, by the document's call; no condition. -/
/- What the model's decoder of a text gives back, encoded again, where it finds no fault: plain facts on lists of bytes. -/
/- Whether a text is valid, by the document's answer: just where the model's decoder finds no fault in it. -/
import Derived.Test.YtcbfbmidekmboaaDoorFew
import Derived.Lib.ValidLaws
import Derived.Lib.TrimUEq
import Derived.Lib.MapLaws
import Derived.Laws.Cover4
import Derived.Laws.RangeAny
namespace Go.Proofs.YtcbfbmidekmboaaDoor
open Go.ChangeShapes Go.WideShapes Go.Deep Go.RowKit

theorem rDepth_any (t : AV) (w : World) (hin : t.In w) : Calls Tryd.prog 38 #[t.val] w fun e w' => e = .returned (.int .i64 (AV.dep t 7 : Nat)) ∧ Below w.heap.size w w' := by
  have CALL := Lib.hid (fun W hW => rdepth_any t 7 W hW (by omega) (by omega))
  obtain ⟨k, n, s, na, nc, ns, xa, xc, xs⟩ := t
  simp only [AV.val, AV.row] at CALL ⊢
  go_enter Tryd.func38, Tryd.ntmps38
  go_wp2_with fail
  refine (CALL.out _ (hin.below ((Below.refl w.heap.size w).alloc (Nat.le_refl _) _) (Nat.le_refl _))).mono ?_
  rintro e w1 ⟨rfl, hb1⟩
  have hb2 : Below w.heap.size w w1 := ((Below.refl w.heap.size w).alloc (Nat.le_refl _) _).trans (hb1.mono (by simp))
  go_wp2_with fail
  go_ret
  exact ⟨rfl, hb2⟩
end Go.Proofs.YtcbfbmidekmboaaDoor

namespace Go.Proofs.YtcbfbmidekmboaaDoor
open Go.Lib

theorem encode_of (c : Nat) (hv : c < 55296 ∨ (57344 ≤ c ∧ c ≤ 1114111)) :
    (Utf8.encode (c : Int)).data.toList = if c < 128 then [UInt8.ofNat c] else if c < 2048 then [UInt8.ofNat (192 + c / 64), UInt8.ofNat (128 + c % 64)]
      else if c < 65536 then [UInt8.ofNat (224 + c / 4096), UInt8.ofNat (128 + c / 64 % 64), UInt8.ofNat (128 + c % 64)]
      else [UInt8.ofNat (240 + c / 262144), UInt8.ofNat (128 + c / 4096 % 64), UInt8.ofNat (128 + c / 64 % 64), UInt8.ofNat (128 + c % 64)] := by
  have hval : Utf8.valid (c : Int) = true := by
    simp only [Utf8.valid, Bool.or_eq_true, Bool.and_eq_true, decide_eq_true_eq]
    omega
  unfold Utf8.encode
  simp only [hval, if_true, Int.toNat_natCast]
  repeat' split
  all_goals rfl

theorem u8_eq (n : Nat) (b : UInt8) (h : n = b.toNat) : UInt8.ofNat n = b := by
  subst h
  exact UInt8.ofNat_toNat

/-- No fault at this list's head. -/
def Proper (l : List UInt8) : Prop := ¬ ((decodeL l).1 = 65533 ∧ (decodeL l).2 = 1)

set_option maxHeartbeats 1000000 in
set_option maxRecDepth 100000 in
theorem decodeN_proper (n b0 b1 b2 b3 : Nat) (_h0 : b0 < 256) (h1 : b1 < 256) (h2 : b2 < 256) (_h3 : b3 < 256) (hp : ¬ ((decodeN n b0 b1 b2 b3).1 = 65533 ∧ (decodeN n b0 b1 b2 b3).2 = 1)) :
    (decodeN n b0 b1 b2 b3 = (b0, 1) ∧ b0 < 128) ∨
    (∃ c, decodeN n b0 b1 b2 b3 = (c, 2) ∧ 1 < n ∧ 128 ≤ c ∧ c < 2048 ∧ 192 + c / 64 = b0 ∧ 128 + c % 64 = b1) ∨
    (∃ c, decodeN n b0 b1 b2 b3 = (c, 3) ∧ 2 < n ∧ 2048 ≤ c ∧ c < 65536 ∧ (c < 55296 ∨ (57344 ≤ c ∧ c ≤ 1114111)) ∧ 224 + c / 4096 = b0 ∧ 128 + c / 64 % 64 = b1 ∧ 128 + c % 64 = b2) ∨
    (∃ c, decodeN n b0 b1 b2 b3 = (c, 4) ∧ 3 < n ∧ 65536 ≤ c ∧ c ≤ 1114111 ∧ 240 + c / 262144 = b0 ∧ 128 + c / 4096 % 64 = b1 ∧ 128 + c / 64 % 64 = b2 ∧ 128 + c % 64 = b3) := by
  by_cases c1 : b0 < 128
  · exact .inl ⟨by unfold decodeN; rw [if_pos c1], c1⟩
  · right
    by_cases c2 : b0 / 32 = 6 ∧ (1 < n ∧ b1 / 64 = 2)
    · left
      by_cases d : b0 % 32 * 64 + b1 % 64 ≥ 128
      · exact ⟨b0 % 32 * 64 + b1 % 64, by unfold decodeN; rw [if_neg c1, if_pos c2, if_pos d], by omega, by omega, by omega, by omega, by omega⟩
      · have e : decodeN n b0 b1 b2 b3 = (65533, 1) := by unfold decodeN; rw [if_neg c1, if_pos c2, if_neg d]
        exact absurd ⟨by rw [e], by rw [e]⟩ hp
    · right
      by_cases c3 : b0 / 16 = 14 ∧ (1 < n ∧ b1 / 64 = 2) ∧ (2 < n ∧ b2 / 64 = 2)
      · left
        by_cases d : b0 % 16 * 4096 + b1 % 64 * 64 + b2 % 64 ≥ 2048 ∧ (b0 % 16 * 4096 + b1 % 64 * 64 + b2 % 64 < 55296 ∨ (57344 ≤ b0 % 16 * 4096 + b1 % 64 * 64 + b2 % 64 ∧ b0 % 16 * 4096 + b1 % 64 * 64 + b2 % 64 ≤ 1114111))
        · exact ⟨b0 % 16 * 4096 + b1 % 64 * 64 + b2 % 64, by unfold decodeN; rw [if_neg c1, if_neg c2, if_pos c3, if_pos d], by omega, by omega, by omega, d.2, by omega, by omega, by omega⟩
        · have e : decodeN n b0 b1 b2 b3 = (65533, 1) := by unfold decodeN; rw [if_neg c1, if_neg c2, if_pos c3, if_neg d]
          exact absurd ⟨by rw [e], by rw [e]⟩ hp
      · right
        by_cases c4 : b0 / 8 = 30 ∧ (1 < n ∧ b1 / 64 = 2) ∧ (2 < n ∧ b2 / 64 = 2) ∧ (3 < n ∧ b3 / 64 = 2)
        · by_cases d : b0 % 8 * 262144 + b1 % 64 * 4096 + b2 % 64 * 64 + b3 % 64 ≥ 65536 ∧ (b0 % 8 * 262144 + b1 % 64 * 4096 + b2 % 64 * 64 + b3 % 64 < 55296 ∨ (57344 ≤ b0 % 8 * 262144 + b1 % 64 * 4096 + b2 % 64 * 64 + b3 % 64 ∧ b0 % 8 * 262144 + b1 % 64 * 4096 + b2 % 64 * 64 + b3 % 64 ≤ 1114111))
          · exact ⟨b0 % 8 * 262144 + b1 % 64 * 4096 + b2 % 64 * 64 + b3 % 64, by unfold decodeN; rw [if_neg c1, if_neg c2, if_neg c3, if_pos c4, if_pos d], by omega, by omega, by omega, by omega, by omega, by omega, by omega⟩
          · have e : decodeN n b0 b1 b2 b3 = (65533, 1) := by unfold decodeN; rw [if_neg c1, if_neg c2, if_neg c3, if_pos c4, if_neg d]
            exact absurd ⟨by rw [e], by rw [e]⟩ hp
        · have e : decodeN n b0 b1 b2 b3 = (65533, 1) := by unfold decodeN; rw [if_neg c1, if_neg c2, if_neg c3, if_neg c4]
          exact absurd ⟨by rw [e], by rw [e]⟩ hp

theorem enc_dec (l : List UInt8) (hne : l ≠ []) (hp : Proper l) : (Utf8.encode ((decodeL l).1 : Int)).data.toList = l.take (decodeL l).2 ∧ (decodeL l).2 ≤ l.length := by
  unfold Proper at hp
  rw [decodeL_N] at hp ⊢
  rcases decodeN_proper _ _ _ _ _ (UInt8.toNat_lt _) (UInt8.toNat_lt _) (UInt8.toNat_lt _) (UInt8.toNat_lt _) hp with ⟨e, hc⟩ | ⟨c, e, hn, h1, h2, e0, e1⟩ | ⟨c, e, hn, h1, h2, hv, e0, e1, e2⟩ | ⟨c, e, hn, h1, h2, e0, e1, e2, e3⟩
  · rw [e]
    match l, hne with
    | b0 :: t, _ =>
      rw [encode_of _ (by omega), if_pos hc, u8_eq ((b0 :: t).getD 0 0).toNat b0 rfl]
      exact ⟨rfl, by simp⟩
  · rw [e]
    match l, hn with
    | b0 :: b1 :: t, _ =>
      simp only [List.getD_cons_zero, List.getD_cons_succ] at e0 e1
      rw [encode_of _ (by omega), if_neg (by omega), if_pos (by omega), u8_eq _ b0 e0, u8_eq _ b1 e1]
      exact ⟨rfl, by simp⟩
    | [_], hn => simp at hn
  · rw [e]
    match l, hn with
    | b0 :: b1 :: b2 :: t, _ =>
      simp only [List.getD_cons_zero, List.getD_cons_succ] at e0 e1 e2
      rw [encode_of _ hv, if_neg (by omega), if_neg (by omega), if_pos (by omega), u8_eq _ b0 e0, u8_eq _ b1 e1, u8_eq _ b2 e2]
      exact ⟨rfl, by simp⟩
    | [_, _], hn => simp at hn
    | [_], hn => simp at hn
  · rw [e]
    match l, hn with
    | b0 :: b1 :: b2 :: b3 :: t, _ =>
      simp only [List.getD_cons_zero, List.getD_cons_succ] at e0 e1 e2 e3
      rw [encode_of _ (by omega), if_neg (by omega), if_neg (by omega), if_neg (by omega), u8_eq _ b0 e0, u8_eq _ b1 e1, u8_eq _ b2 e2, u8_eq _ b3 e3]
      exact ⟨rfl, by simp⟩
    | [_, _, _], hn => simp at hn
    | [_, _], hn => simp at hn
    | [_], hn => simp at hn

/-- A true U+FFFD is its three bytes; such bytes are one. -/
theorem fffd (l : List UInt8) (hne : l ≠ []) (h : (decodeL l).1 = 65533) : Proper l ↔ l.take 3 = [239, 191, 189] := by
  constructor
  · intro hp
    obtain ⟨h1, h2⟩ := enc_dec l hne hp
    rw [h] at h1
    have e : (Utf8.encode ((65533 : Nat) : Int)).data.toList = [239, 191, 189] := by decide
    rw [e] at h1
    have h3 : (decodeL l).2 = 3 := by
      have := congrArg List.length h1
      simp at this
      omega
    rw [h3] at h1
    exact h1.symm
  · intro h3 hp
    match l, h3 with
    | [a, b, c], h3 => simp at h3; obtain ⟨rfl, rfl, rfl⟩ := h3; rw [decodeL_N] at hp; simp [decodeN] at hp
    | a :: b :: c :: d :: t, h3 =>
      simp at h3
      obtain ⟨rfl, rfl, rfl⟩ := h3
      rw [decodeL_N] at hp
      simp [decodeN] at hp

/-- The code points of a text. -/
def codes : Nat → List UInt8 → List Int
  | 0, _ => []
  | n + 1, l => if l = [] then [] else ((decodeL l).1 : Int) :: codes n (l.drop (decodeL l).2)

theorem runesFrom_eq (s : ByteArray) : ∀ (n i : Nat) (acc : Array Value), Conv.runesFrom s n i acc = acc ++ ((codes n (s.data.toList.drop i)).map (Value.int .i32)).toArray
  | 0, i, acc => by simp [Conv.runesFrom, codes]
  | n + 1, i, acc => by
    unfold Conv.runesFrom codes
    by_cases hi : i < s.size
    · have hne : s.data.toList.drop i ≠ [] := by
        intro e
        have := congrArg List.length e
        simp at this
        have : s.data.size = s.size := rfl
        omega
      rw [if_pos hi, if_neg hne, decodeL_drop, List.drop_drop]
      simp only
      rw [runesFrom_eq s n]
      simp
    · have he : s.data.toList.drop i = [] := by
        apply List.drop_eq_nil_of_le
        have : s.data.size = s.size := rfl
        simp
        omega
      rw [if_neg hi, if_pos he]
      simp

theorem foldl_bytes (ns : List Int) : ∀ B : ByteArray, (ns.foldl (fun r n => r ++ Utf8.encode n) B).data.toList = B.data.toList ++ ns.flatMap fun n => (Utf8.encode n).data.toList := by
  induction ns with
  | nil => intro B; simp
  | cons n ns ih =>
    intro B
    rw [List.foldl_cons, ih, List.flatMap_cons]
    simp

theorem codes_bytes : ∀ (n : Nat) (l : List UInt8), l.length ≤ n → validGoD n l = true → (codes n l).flatMap (fun c => (Utf8.encode c).data.toList) = l
  | 0, l, hl, _ => by
    have : l = [] := List.length_eq_zero_iff.1 (by omega)
    subst this
    rfl
  | n + 1, l, hl, hv => by
    unfold codes
    by_cases hne : l = []
    · rw [if_pos hne, hne]; rfl
    · rw [if_neg hne, List.flatMap_cons]
      rw [validGoD, if_neg hne] at hv
      have hp : Proper l := fun h => by rw [if_pos h] at hv; cases hv
      rw [if_neg hp] at hv
      obtain ⟨h1, h2⟩ := enc_dec l hne hp
      have hw := decodeL_width l
      rw [h1, codes_bytes n _ (by simp; omega) hv, List.take_append_drop]

/-- A text without a fault, taken apart into code points and put together again, is what it was. -/
theorem runes_back (s : ByteArray) (hv : validD s.data.toList = true) : runesBytes (codes s.size s.data.toList) = s := by
  have h := foldl_bytes (codes s.size s.data.toList) ByteArray.empty
  have hz : s.data.toList.length = s.size := by simp
  unfold validD at hv
  rw [hz] at hv
  rw [codes_bytes _ _ (by omega) hv] at h
  unfold runesBytes
  apply ByteArray.ext
  apply Array.ext'
  simpa using h
end Go.Proofs.YtcbfbmidekmboaaDoor

namespace Go.Proofs.YtcbfbmidekmboaaDoor
open Go.ChangeShapes Go.WideShapes Go.Deep Go.RowKit Go.Lib

theorem below_iter {B : Nat} {a w : World} (h : Below B a w) (hB : B ≤ w.heap.size) (s : ByteArray) (p : Nat) : Below B a (w.iter s p) := h.alloc hB _

theorem drop_ne (s : ByteArray) {i : Nat} (h : i < s.size) : s.data.toList.drop i ≠ [] := by
  intro e
  have := congrArg List.length e
  simp at this
  have : s.data.size = s.size := rfl
  omega

theorem drop_nil (s : ByteArray) {i : Nat} (h : ¬ i < s.size) : s.data.toList.drop i = [] := by
  apply List.drop_eq_nil_of_le
  have : s.data.size = s.size := rfl
  simp
  omega

theorem extract3 (s : ByteArray) (i : Nat) : (s.extract i (i + 3)).toList = (s.data.toList.drop i).take 3 := by
  rw [ByteArray.toList_eq, extract_data]
  congr 1
  omega

theorem valid_other {l : List UInt8} (hne : l ≠ []) (h : (decodeL l).1 ≠ 65533) : validD (l.drop (decodeL l).2) = validD l := by
  rw [validD_step l hne, if_neg (fun e => h e.1)]
theorem valid_same {l : List UInt8} (hne : l ≠ []) (h : (decodeL l).1 = 65533) (h3 : l.take 3 = [239, 191, 189]) : validD (l.drop (decodeL l).2) = validD l := by
  rw [validD_step l hne, if_neg ((fffd l hne h).2 h3)]
theorem valid_not {l : List UInt8} (hne : l ≠ []) (h : (decodeL l).1 = 65533) (h3 : l.take 3 ≠ [239, 191, 189]) : validD l = false := by
  rw [validD_step l hne, if_pos]
  exact Classical.not_not.1 fun hp => h3 ((fffd l hne h).1 hp)

set_option maxHeartbeats 400000 in
set_option maxRecDepth 100000 in
theorem broken_any (s : ByteArray) (w : World) (hs : s.size ≤ 140737488355328) : Calls Tryd.prog 69 #[.string s] w fun e w' => e = .returned (.bool (!validD s.data.toList)) ∧ Below w.heap.size w w' := by
  obtain ⟨V, hV⟩ : ∃ V, validD s.data.toList = V := ⟨_, rfl⟩
  rw [hV]
  have HV := Lib.hid hV
  clear hV
  go_enter Tryd.func69, Tryd.ntmps69
  go_wp2
  go_loopg [] (s.size + 1) (fun g wr => ∃ pos : Nat, s.size < pos + g ∧ validD (s.data.toList.drop pos) = V ∧ wr = w.iter s pos)
  case atStart => exact ⟨0, by omega, HV.out, rfl⟩
  case round =>
    obtain ⟨pos, hg, hv, rfl⟩ := hrel
    have HVV := Lib.hid hv
    clear hv
    by_cases hp : pos < s.size
    · have hnx : ∀ ty, (Instr.next (.pointer (some ⟨w.heap.size, 0, none⟩)) true ty).run Tryd.prog (w.iter s pos) = _ := fun ty => run_next_any w s pos ty hp
      have hl := decodeL_drop s pos
      have hkk := width_pos s pos
      obtain ⟨c, hc⟩ : ∃ c, (Utf8.decode s pos).1 = c := ⟨_, rfl⟩
      obtain ⟨k, hk⟩ : ∃ k, (Utf8.decode s pos).2 = k := ⟨_, rfl⟩
      rw [hc, hk] at hnx
      rw [hk] at hkk
      have h1 : (decodeL (s.data.toList.drop pos)).1 = c := by rw [hl, hc]
      have h2 : (decodeL (s.data.toList.drop pos)).2 = k := by rw [hl, hk]
      have hne := drop_ne s hp
      clear hc hk hl
      by_cases h65 : c = 65533
      · by_cases hfit : (pos : Int) + 3 ≤ (s.size : Int)
        · by_cases heq : (s.extract pos (pos + 3)).toList = [239, 191, 189]
          · have hnext : validD (s.data.toList.drop (pos + k)) = V := by
              rw [← HVV.out, ← valid_same hne (h1.trans h65) (by rw [← extract3]; exact heq), List.drop_drop, h2]
            have HN := Lib.hid hnext
            have HEQ : ((s.extract pos (pos + 3)).toList == [239, 191, 189]) = true := by rw [heq]; rfl
            subst h65
            clear hnext heq h1 h2 hne
            go_wp2_with fail
            go_roundg (gk - 1)
            case measure => omega
            case rel => exact ⟨pos + k, by omega, HN.out, rfl⟩
          · have hno : V = false := by
              rw [← HVV.out]
              exact valid_not hne (h1.trans h65) (by rw [← extract3]; exact heq)
            have HEQ : ((s.extract pos (pos + 3)).toList == [239, 191, 189]) = false := by simpa using heq
            subst hno
            subst h65
            clear heq h1 h2 hne
            go_wp2_with fail
            go_ret
            exact ⟨rfl, below_iter (Below.refl _ _) (Nat.le_refl _) _ _⟩
        · have hno : V = false := by
            rw [← HVV.out]
            refine valid_not hne (h1.trans h65) fun e => ?_
            have := congrArg List.length e
            have hz : s.data.size = s.size := rfl
            simp at this
            omega
          subst hno
          subst h65
          clear h1 h2 hne
          go_wp2_with fail
          go_ret
          exact ⟨rfl, below_iter (Below.refl _ _) (Nat.le_refl _) _ _⟩
      · have hnext : validD (s.data.toList.drop (pos + k)) = V := by
          rw [← HVV.out, ← valid_other hne (fun e => h65 (h1.symm.trans e)), List.drop_drop, h2]
        have HN := Lib.hid hnext
        have h65' : ¬ ((c : Int) = 65533) := by omega
        clear hnext h1 h2 hne
        go_wp2_with fail
        go_roundg (gk - 1)
        case measure => omega
        case rel => exact ⟨pos + k, by omega, HN.out, rfl⟩
    · have hnx : ∀ ty, (Instr.next (.pointer (some ⟨w.heap.size, 0, none⟩)) true ty).run Tryd.prog (w.iter s pos) = _ := fun ty => run_next_end w s pos ty hp
      have hyes : V = true := by rw [← HVV.out, drop_nil s hp]; rfl
      subst hyes
      go_wp2_with fail
      go_ret
      exact ⟨rfl, below_iter (Below.refl _ _) (Nat.le_refl _) _ _⟩

theorem codes_length : ∀ (n : Nat) (l : List UInt8), (codes n l).length ≤ n
  | 0, _ => by simp [codes]
  | n + 1, l => by
    unfold codes
    split
    · simp
    · have := codes_length n (l.drop (decodeL l).2)
      simp
      omega

/-- What the conversion to runes leaves, and what it is put together to. -/
theorem runes_conv (s : ByteArray) (w : World) (hs : s.size ≤ 70368744177664) : ∃ (v : Value) (w1 : World), (convert 9 98 (.string s)).run Tryd.prog w = .ok v w1 ∧
    (convert 98 9 v).run Tryd.prog w1 = .ok (.string (runesBytes (codes s.size s.data.toList))) w1 ∧ Below w.heap.size w w1 := by
  have hz : s.data.toList.length = s.size := by simp
  have hc := codes_length s.size s.data.toList
  have e : Conv.runesFrom s s.size 0 #[] = ((codes s.size s.data.toList).map (Value.int .i32)).toArray := by
    rw [runesFrom_eq]; simp
  have hr := run_runes_of_string (P := Tryd.prog) w 9 98 21 s Tryd.underlying9 Tryd.underlying98 Tryd.underlying21 (by rw [e]; simp; omega)
  rw [e] at hr
  simp only [List.size_toArray, List.length_map] at hr
  refine ⟨_, _, hr, ?_, (Below.refl _ _).drew.alloc (Nat.le_refl _) _⟩
  have h2 := run_convert_runes (P := Tryd.prog) (w.drew.alloc (.cells (((codes s.size s.data.toList).map (Value.int .i32)).toArray ++ Array.replicate (grownCap w (codes s.size s.data.toList).length 0 21 - (codes s.size s.data.toList).length) (.int .i32 0)) 21)) 98 9 21 ⟨w.heap.size, 0, none⟩
    (codes s.size s.data.toList).length (grownCap w (codes s.size s.data.toList).length 0 21) (codes s.size s.data.toList) (Nat.le_refl _) Tryd.underlying98 Tryd.underlying21 Tryd.underlying9 (fun j hj => by
      have hn := heap_alloc_new w.drew (.cells (((codes s.size s.data.toList).map (Value.int .i32)).toArray ++ Array.replicate (grownCap w (codes s.size s.data.toList).length 0 21 - (codes s.size s.data.toList).length) (.int .i32 0)) 21)
      rw [show w.drew.heap.size = w.heap.size from rfl] at hn
      rw [WideShapes.add_plain, cell_of_row _ _ _ _ _ _ hn, Nat.zero_add, Array.getElem?_append_left (by simpa using hj)]
      simp [hj])
  rw [h2, List.take_length]

theorem Valid_any (s : ByteArray) (w : World) (hs : s.size ≤ 70368744177664) : Calls Tryd.prog 64 #[.string s] w fun e w' => e = .returned (.bool (validD s.data.toList)) ∧ Below w.heap.size w w' := by
  have CALL := Lib.hid (fun W => broken_any s W (by omega))
  obtain ⟨v, w1, h1, h2, hb⟩ := runes_conv s w hs
  have back := runes_back s
  obtain ⟨R, hR⟩ : ∃ R, runesBytes (codes s.size s.data.toList) = R := ⟨_, rfl⟩
  rw [hR] at h2 back
  clear hR hs
  obtain ⟨V, hV⟩ : ∃ V, validD s.data.toList = V := ⟨_, rfl⟩
  rw [hV] at CALL back ⊢
  clear hV
  by_cases heq : R = s
  · have e1 : (R.toList == s.toList) = true := by rw [heq]; simp
    clear back heq
    go_enter Tryd.func64, Tryd.ntmps64
    go_wp2_with fail
    refine (CALL.out _).mono ?_
    rintro e w2 ⟨rfl, hb2⟩
    have hb3 := hb.trans (hb2.mono hb.size)
    clear h1 h2 hb hb2
    cases V
    · go_wp2_with fail
      go_ret
      exact ⟨rfl, hb3⟩
    · go_wp2_with fail
      go_ret
      exact ⟨rfl, hb3⟩
  · have hV : V = false := by
      cases V
      · rfl
      · exact absurd (back rfl) heq
    have e1 : (R.toList == s.toList) = false := by
      rw [beq_eq_false_iff_ne]
      intro e
      rw [ByteArray.toList_eq, ByteArray.toList_eq] at e
      exact heq (ByteArray.ext (Array.ext' e))
    subst hV
    clear back heq CALL
    go_enter Tryd.func64, Tryd.ntmps64
    go_wp2_with fail
    go_ret
    exact ⟨rfl, hb⟩

/-- A text that may be a string or a name. -/
def textOk (s : ByteArray) : Bool := decide (s.size ≤ 60) && validD s.data.toList

theorem text_any (s : ByteArray) (w : World) (hs : s.size ≤ maxLen) : Calls Tryd.prog 53 #[.string s] w fun e w' => e = .returned (.bool (textOk s)) ∧ Below w.heap.size w w' := by
  unfold maxLen at hs
  unfold textOk
  by_cases h : s.size ≤ 60
  · have CALL := Lib.hid (fun W => Valid_any s W (by omega))
    obtain ⟨V, hV⟩ : ∃ V, validD s.data.toList = V := ⟨_, rfl⟩
    rw [hV] at CALL ⊢
    clear hV hs
    go_enter Tryd.func53, Tryd.ntmps53
    go_wp2_with (go_at_call 64; refine (CALL.out _).mono ?_; rintro e w2 ⟨rfl, hb2⟩)
    go_ret
    exact ⟨by simp [h], hb2⟩
  · rw [decide_eq_false h, Bool.false_and]
    go_enter Tryd.func53, Tryd.ntmps53
    go_wp2_with fail
    go_ret
    exact ⟨rfl, Below.refl _ _⟩
end Go.Proofs.YtcbfbmidekmboaaDoor
