/- Texts compared, by the document: what the call answers; no condition but that a text's length fits a machine's. -/
import Derived.Test.YtdmpcoicniihhaaDoorCmpa
namespace Go.Proofs.YtdmpcoicniihhaaDoor
open Go.ChangeShapes Go.WideShapes Go.Deep Go.RowKit Go.Lib

theorem ret_i64 {a b : Int} (h : a = b) : Ending.returned (.int .i64 a) = .returned (.int .i64 b) := by rw [h]

theorem cmpB_drop {a b : List UInt8} {j : Nat} (h : j < a.length) (h' : j < b.length) : compareBytes (a.drop j) (b.drop j) = if a[j].toNat < b[j].toNat then -1 else if b[j].toNat < a[j].toNat then 1 else compareBytes (a.drop (j + 1)) (b.drop (j + 1)) := by
  rw [List.drop_eq_getElem_cons h, List.drop_eq_getElem_cons h', compareBytes]
  simp only [UInt8.lt_iff_toNat_lt]

theorem cmpB_end {a b : List UInt8} {j : Nat} (hj : j ≤ a.length) (hj' : j ≤ b.length) (h : j = a.length ∨ j = b.length) : compareBytes (a.drop j) (b.drop j) = compareInt a.length b.length := by
  rcases h with h | h
  · rw [List.drop_eq_nil_of_le (by omega)]
    by_cases h' : j = b.length
    · rw [List.drop_eq_nil_of_le (by omega), show a.length = b.length by omega]
      simp [compareBytes, compareInt]
    · obtain ⟨c, l, e⟩ : ∃ c l, b.drop j = c :: l := ⟨_, _, List.drop_eq_getElem_cons (by omega)⟩
      rw [e]
      unfold compareInt
      rw [if_pos (by omega)]
      rfl
  · rw [show b.drop j = [] from List.drop_eq_nil_of_le (by omega)]
    by_cases h' : j = a.length
    · rw [List.drop_eq_nil_of_le (by omega), show a.length = b.length by omega]
      simp [compareBytes, compareInt]
    · obtain ⟨c, l, e⟩ : ∃ c l, a.drop j = c :: l := ⟨_, _, List.drop_eq_getElem_cons (by omega)⟩
      rw [e]
      unfold compareInt
      rw [if_neg (by omega), if_pos (by omega)]
      rfl

set_option maxHeartbeats 2000000 in
theorem texts_any (s t : ByteArray) (w : World) (hs : s.size ≤ maxLen) (ht : t.size ≤ maxLen) : Calls Tryd.prog 39 #[.string s, .string t] w fun e w' => e = .returned (.int .i64 (compareBytes s.data.toList t.data.toList)) ∧ Below w.heap.size w w' := by
  unfold maxLen at hs ht
  obtain ⟨C, hC⟩ : ∃ C, compareBytes s.data.toList t.data.toList = C := ⟨_, rfl⟩
  rw [hC]
  have HC := Lib.hid hC
  clear hC
  go_enter Tryd.func39, Tryd.ntmps39
  go_wp2_with fail
  go_loopg [5] s.size (fun g i wr => ∃ j : Nat, j + g = s.size ∧ j ≤ t.size ∧ i = .int .i64 (j : Int) ∧ compareBytes (s.data.toList.drop j) (t.data.toList.drop j) = C ∧ Below w.heap.size w wr)
  case atStart => exact ⟨0, by omega, by omega, rfl, HC.out, Below.refl _ _⟩
  case round =>
    obtain ⟨j, hj, hjt, rfl, hrest, hb⟩ := hrel
    by_cases h1 : j < s.size
    · by_cases h2 : j < t.size
      · have hd := cmpB_drop (a := s.data.toList) (b := t.data.toList) (j := j) (by simpa using h1) (by simpa using h2)
        rw [hrest] at hd
        have x1 : s.data.toList[j]'(by simpa using h1) = s[j] := rfl
        have x2 : t.data.toList[j]'(by simpa using h2) = t[j] := rfl
        rw [x1, x2] at hd
        have HD := Lib.hid hd
        have HJ := Lib.hid hj
        clear hd hrest x1 x2 hj
        by_cases h3 : s[j].toNat < t[j].toNat
        · have hCC : C = -1 := by rw [HD.out, if_pos h3]
          go_wp2_with fail
          go_quiet (fail)
          go_wp2_with fail
          go_ret
          exact ⟨ret_i64 hCC.symm, hb.trans ⟨rfl, rfl, rfl, Nat.le_refl _, fun _ _ => rfl⟩⟩
        · by_cases h4 : t[j].toNat < s[j].toNat
          · have hCC : C = 1 := by rw [HD.out, if_neg h3, if_pos h4]
            go_wp2_with fail
            go_quiet (fail)
            go_wp2_with fail
            go_quiet (fail)
            go_wp2_with fail
            go_ret
            exact ⟨ret_i64 hCC.symm, hb.trans ⟨rfl, rfl, rfl, Nat.le_refl _, fun _ _ => rfl⟩⟩
          · have hCC : compareBytes (s.data.toList.drop (j + 1)) (t.data.toList.drop (j + 1)) = C := by rw [HD.out, if_neg h3, if_neg h4]
            have HCC := Lib.hid hCC
            clear hCC
            go_wp2_with fail
            go_quiet (fail)
            go_wp2_with fail
            go_quiet (fail)
            go_wp2_with fail
            go_roundg (gk - 1)
            case measure => have := HJ.out; omega
            case rel => exact ⟨j + 1, by have := HJ.out; omega, by omega, by go_num, HCC.out, hb.trans ⟨rfl, rfl, rfl, Nat.le_refl _, fun _ _ => rfl⟩⟩
      · have hE := cmpB_end (a := s.data.toList) (b := t.data.toList) (j := j) (by simp; omega) (by simp; omega) (.inr (by simp; omega))
        rw [hrest] at hE
        have HE := Lib.hid hE
        clear hE hrest
        have CALL := Lib.hid (fun W => lengths_any (s.size : Int) (t.size : Int) W)
        go_wp2_with fail
        refine (CALL.out _).mono ?_
        rintro e w1 ⟨rfl, rfl⟩
        go_wp2_with fail
        go_ret
        exact ⟨ret_i64 (by rw [HE.out]; simp), hb⟩
    · have hE := cmpB_end (a := s.data.toList) (b := t.data.toList) (j := j) (by simp; omega) (by simp; omega) (.inl (by simp; omega))
      rw [hrest] at hE
      have HE := Lib.hid hE
      clear hE hrest
      have CALL := Lib.hid (fun W => lengths_any (s.size : Int) (t.size : Int) W)
      go_wp2_with fail
      refine (CALL.out _).mono ?_
      rintro e w1 ⟨rfl, rfl⟩
      go_wp2_with fail
      go_ret
      exact ⟨ret_i64 (by rw [HE.out]; simp), hb⟩
end Go.Proofs.YtdmpcoicniihhaaDoor
