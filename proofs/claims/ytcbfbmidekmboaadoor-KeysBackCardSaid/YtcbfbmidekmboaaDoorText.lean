/- Whether a text is valid, by the document's answer: just where the model's decoder finds no fault in it. -/
import Derived.Test.YtcbfbmidekmboaaDoorAwake
import Derived.Test.YtcbfbmidekmboaaDoorUtf
import Derived.Laws.RangeAny
namespace Go.Proofs.YtcbfbmidekmboaaDoor
open Go.ChangeShapes Go.WideShapes Go.Deep Go.RowKit Go.Lib

theorem below_iter {B : Nat} {a w : World} (h : Below B a w) (hB : B ≤ w.heap.size) (s : ByteArray) (p : Nat) : Below B a (w.iter s p) := h.alloc hB _

theorem drop_ne (s : ByteArray) {i : Nat} (h : i < s.size) : s.data.toList.drop i ≠ [] := by
  intro e
  have := congrArg List.length e
  simp at this
  have : s.data.size = s.size := rfl
  omega

theorem drop_nil (s : ByteArray) {i : Nat} (h : ¬ i < s.size) : s.data.toList.drop i = [] := by
  apply List.drop_eq_nil_of_le
  have : s.data.size = s.size := rfl
  simp
  omega

theorem extract3 (s : ByteArray) (i : Nat) : (s.extract i (i + 3)).toList = (s.data.toList.drop i).take 3 := by
  rw [ByteArray.toList_eq, extract_data]
  congr 1
  omega

theorem valid_other {l : List UInt8} (hne : l ≠ []) (h : (decodeL l).1 ≠ 65533) : validD (l.drop (decodeL l).2) = validD l := by
  rw [validD_step l hne, if_neg (fun e => h e.1)]
theorem valid_same {l : List UInt8} (hne : l ≠ []) (h : (decodeL l).1 = 65533) (h3 : l.take 3 = [239, 191, 189]) : validD (l.drop (decodeL l).2) = validD l := by
  rw [validD_step l hne, if_neg ((fffd l hne h).2 h3)]
theorem valid_not {l : List UInt8} (hne : l ≠ []) (h : (decodeL l).1 = 65533) (h3 : l.take 3 ≠ [239, 191, 189]) : validD l = false := by
  rw [validD_step l hne, if_pos]
  exact Classical.not_not.1 fun hp => h3 ((fffd l hne h).1 hp)

set_option maxHeartbeats 400000 in
set_option maxRecDepth 100000 in
theorem broken_any (s : ByteArray) (w : World) (hs : s.size ≤ 140737488355328) : Calls Tryd.prog 69 #[.string s] w fun e w' => e = .returned (.bool (!validD s.data.toList)) ∧ Below w.heap.size w w' := by
  obtain ⟨V, hV⟩ : ∃ V, validD s.data.toList = V := ⟨_, rfl⟩
  rw [hV]
  have HV := Lib.hid hV
  clear hV
  go_enter Tryd.func69, Tryd.ntmps69
  go_wp2
  go_loopg [] (s.size + 1) (fun g wr => ∃ pos : Nat, s.size < pos + g ∧ validD (s.data.toList.drop pos) = V ∧ wr = w.iter s pos)
  case atStart => exact ⟨0, by omega, HV.out, rfl⟩
  case round =>
    obtain ⟨pos, hg, hv, rfl⟩ := hrel
    have HVV := Lib.hid hv
    clear hv
    by_cases hp : pos < s.size
    · have hnx : ∀ ty, (Instr.next (.pointer (some ⟨w.heap.size, 0, none⟩)) true ty).run Tryd.prog (w.iter s pos) = _ := fun ty => run_next_any w s pos ty hp
      have hl := decodeL_drop s pos
      have hkk := width_pos s pos
      obtain ⟨c, hc⟩ : ∃ c, (Utf8.decode s pos).1 = c := ⟨_, rfl⟩
      obtain ⟨k, hk⟩ : ∃ k, (Utf8.decode s pos).2 = k := ⟨_, rfl⟩
      rw [hc, hk] at hnx
      rw [hk] at hkk
      have h1 : (decodeL (s.data.toList.drop pos)).1 = c := by rw [hl, hc]
      have h2 : (decodeL (s.data.toList.drop pos)).2 = k := by rw [hl, hk]
      have hne := drop_ne s hp
      clear hc hk hl
      by_cases h65 : c = 65533
      · by_cases hfit : (pos : Int) + 3 ≤ (s.size : Int)
        · by_cases heq : (s.extract pos (pos + 3)).toList = [239, 191, 189]
          · have hnext : validD (s.data.toList.drop (pos + k)) = V := by
              rw [← HVV.out, ← valid_same hne (h1.trans h65) (by rw [← extract3]; exact heq), List.drop_drop, h2]
            have HN := Lib.hid hnext
            have HEQ : ((s.extract pos (pos + 3)).toList == [239, 191, 189]) = true := by rw [heq]; rfl
            subst h65
            clear hnext heq h1 h2 hne
            go_wp2_with fail
            go_roundg (gk - 1)
            case measure => omega
            case rel => exact ⟨pos + k, by omega, HN.out, rfl⟩
          · have hno : V = false := by
              rw [← HVV.out]
              exact valid_not hne (h1.trans h65) (by rw [← extract3]; exact heq)
            have HEQ : ((s.extract pos (pos + 3)).toList == [239, 191, 189]) = false := by simpa using heq
            subst hno
            subst h65
            clear heq h1 h2 hne
            go_wp2_with fail
            go_ret
            exact ⟨rfl, below_iter (Below.refl _ _) (Nat.le_refl _) _ _⟩
        · have hno : V = false := by
            rw [← HVV.out]
            refine valid_not hne (h1.trans h65) fun e => ?_
            have := congrArg List.length e
            have hz : s.data.size = s.size := rfl
            simp at this
            omega
          subst hno
          subst h65
          clear h1 h2 hne
          go_wp2_with fail
          go_ret
          exact ⟨rfl, below_iter (Below.refl _ _) (Nat.le_refl _) _ _⟩
      · have hnext : validD (s.data.toList.drop (pos + k)) = V := by
          rw [← HVV.out, ← valid_other hne (fun e => h65 (h1.symm.trans e)), List.drop_drop, h2]
        have HN := Lib.hid hnext
        have h65' : ¬ ((c : Int) = 65533) := by omega
        clear hnext h1 h2 hne
        go_wp2_with fail
        go_roundg (gk - 1)
        case measure => omega
        case rel => exact ⟨pos + k, by omega, HN.out, rfl⟩
    · have hnx : ∀ ty, (Instr.next (.pointer (some ⟨w.heap.size, 0, none⟩)) true ty).run Tryd.prog (w.iter s pos) = _ := fun ty => run_next_end w s pos ty hp
      have hyes : V = true := by rw [← HVV.out, drop_nil s hp]; rfl
      subst hyes
      go_wp2_with fail
      go_ret
      exact ⟨rfl, below_iter (Below.refl _ _) (Nat.le_refl _) _ _⟩

theorem codes_length : ∀ (n : Nat) (l : List UInt8), (codes n l).length ≤ n
  | 0, _ => by simp [codes]
  | n + 1, l => by
    unfold codes
    split
    · simp
    · have := codes_length n (l.drop (decodeL l).2)
      simp
      omega

/-- What the conversion to runes leaves, and what it is put together to. -/
theorem runes_conv (s : ByteArray) (w : World) (hs : s.size ≤ 70368744177664) : ∃ (v : Value) (w1 : World), (convert 9 98 (.string s)).run Tryd.prog w = .ok v w1 ∧
    (convert 98 9 v).run Tryd.prog w1 = .ok (.string (runesBytes (codes s.size s.data.toList))) w1 ∧ Below w.heap.size w w1 := by
  have hz : s.data.toList.length = s.size := by simp
  have hc := codes_length s.size s.data.toList
  have e : Conv.runesFrom s s.size 0 #[] = ((codes s.size s.data.toList).map (Value.int .i32)).toArray := by
    rw [runesFrom_eq]; simp
  have hr := run_runes_of_string (P := Tryd.prog) w 9 98 21 s Tryd.underlying9 Tryd.underlying98 Tryd.underlying21 (by rw [e]; simp; omega)
  rw [e] at hr
  simp only [List.size_toArray, List.length_map] at hr
  refine ⟨_, _, hr, ?_, (Below.refl _ _).drew.alloc (Nat.le_refl _) _⟩
  have h2 := run_convert_runes (P := Tryd.prog) (w.drew.alloc (.cells (((codes s.size s.data.toList).map (Value.int .i32)).toArray ++ Array.replicate (grownCap w (codes s.size s.data.toList).length 0 21 - (codes s.size s.data.toList).length) (.int .i32 0)) 21)) 98 9 21 ⟨w.heap.size, 0, none⟩
    (codes s.size s.data.toList).length (grownCap w (codes s.size s.data.toList).length 0 21) (codes s.size s.data.toList) (Nat.le_refl _) Tryd.underlying98 Tryd.underlying21 Tryd.underlying9 (fun j hj => by
      have hn := heap_alloc_new w.drew (.cells (((codes s.size s.data.toList).map (Value.int .i32)).toArray ++ Array.replicate (grownCap w (codes s.size s.data.toList).length 0 21 - (codes s.size s.data.toList).length) (.int .i32 0)) 21)
      rw [show w.drew.heap.size = w.heap.size from rfl] at hn
      rw [WideShapes.add_plain, cell_of_row _ _ _ _ _ _ hn, Nat.zero_add, Array.getElem?_append_left (by simpa using hj)]
      simp [hj])
  rw [h2, List.take_length]

theorem Valid_any (s : ByteArray) (w : World) (hs : s.size ≤ 70368744177664) : Calls Tryd.prog 64 #[.string s] w fun e w' => e = .returned (.bool (validD s.data.toList)) ∧ Below w.heap.size w w' := by
  have CALL := Lib.hid (fun W => broken_any s W (by omega))
  obtain ⟨v, w1, h1, h2, hb⟩ := runes_conv s w hs
  have back := runes_back s
  obtain ⟨R, hR⟩ : ∃ R, runesBytes (codes s.size s.data.toList) = R := ⟨_, rfl⟩
  rw [hR] at h2 back
  clear hR hs
  obtain ⟨V, hV⟩ : ∃ V, validD s.data.toList = V := ⟨_, rfl⟩
  rw [hV] at CALL back ⊢
  clear hV
  by_cases heq : R = s
  · have e1 : (R.toList == s.toList) = true := by rw [heq]; simp
    clear back heq
    go_enter Tryd.func64, Tryd.ntmps64
    go_wp2_with fail
    refine (CALL.out _).mono ?_
    rintro e w2 ⟨rfl, hb2⟩
    have hb3 := hb.trans (hb2.mono hb.size)
    clear h1 h2 hb hb2
    cases V
    · go_wp2_with fail
      go_ret
      exact ⟨rfl, hb3⟩
    · go_wp2_with fail
      go_ret
      exact ⟨rfl, hb3⟩
  · have hV : V = false := by
      cases V
      · rfl
      · exact absurd (back rfl) heq
    have e1 : (R.toList == s.toList) = false := by
      rw [beq_eq_false_iff_ne]
      intro e
      rw [ByteArray.toList_eq, ByteArray.toList_eq] at e
      exact heq (ByteArray.ext (Array.ext' e))
    subst hV
    clear back heq CALL
    go_enter Tryd.func64, Tryd.ntmps64
    go_wp2_with fail
    go_ret
    exact ⟨rfl, hb⟩

/-- A text that may be a string or a name. -/
def textOk (s : ByteArray) : Bool := decide (s.size ≤ 60) && validD s.data.toList

theorem text_any (s : ByteArray) (w : World) (hs : s.size ≤ maxLen) : Calls Tryd.prog 53 #[.string s] w fun e w' => e = .returned (.bool (textOk s)) ∧ Below w.heap.size w w' := by
  unfold maxLen at hs
  unfold textOk
  by_cases h : s.size ≤ 60
  · have CALL := Lib.hid (fun W => Valid_any s W (by omega))
    obtain ⟨V, hV⟩ : ∃ V, validD s.data.toList = V := ⟨_, rfl⟩
    rw [hV] at CALL ⊢
    clear hV hs
    go_enter Tryd.func53, Tryd.ntmps53
    go_wp2_with (go_at_call 64; refine (CALL.out _).mono ?_; rintro e w2 ⟨rfl, hb2⟩)
    go_ret
    exact ⟨by simp [h], hb2⟩
  · rw [decide_eq_false h, Bool.false_and]
    go_enter Tryd.func53, Tryd.ntmps53
    go_wp2_with fail
    go_ret
    exact ⟨rfl, Below.refl _ _⟩
end Go.Proofs.YtcbfbmidekmboaaDoor
