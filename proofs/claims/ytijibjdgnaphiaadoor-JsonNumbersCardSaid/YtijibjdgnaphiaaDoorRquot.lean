/- A string's text: what the document's answer is; under Go's own limit of length. -/
import Derived.Test.YtijibjdgnaphiaaDoorDigits
import Derived.BigQuiet
namespace Go.Proofs.YtijibjdgnaphiaaDoor
open Go.ChangeShapes Go.WideShapes Go.Deep Go.RowKit Go.Lib

theorem ext_list {a b : ByteArray} (h : a.data.toList = b.data.toList) : a = b := ByteArray.ext (Array.ext' h)

theorem hex_slice (i : Nat) (z : Int) (hz : z = (i : Int)) (hi : i < 16) (W : World) : (Instr.slice 9 (.string ⟨#[48, 49, 50, 51, 52, 53, 54, 55, 56, 57, 97, 98, 99, 100, 101, 102]⟩) (some (.int .u8 z)) (some (.int .u8 (z + 1))) none).run Tryd.prog W = .ok (.string ⟨#[hexd i]⟩) W := by
  subst hz
  have e : (⟨#[48, 49, 50, 51, 52, 53, 54, 55, 56, 57, 97, 98, 99, 100, 101, 102]⟩ : ByteArray).size = 16 := rfl
  rw [run_slice_string_if W 9 _ _ _ _ _ Tryd.underlying9, if_pos ⟨by omega, by rw [e]; omega⟩, if_pos ⟨by omega, by omega⟩]
  have : ∀ j : Fin 16, ((⟨#[48, 49, 50, 51, 52, 53, 54, 55, 56, 57, 97, 98, 99, 100, 101, 102]⟩ : ByteArray).extract j.1 (j.1 + 1)).data.toList = [hexd j.1] := by decide
  have h := this ⟨i, hi⟩
  rw [show ((i : Int) + 1).toNat = i + 1 by omega, Int.toNat_natCast]
  rw [ext_list (b := ⟨#[hexd i]⟩) h]

set_option maxHeartbeats 2000000 in
set_option maxRecDepth 100000 in
theorem Quoted_any (s : ByteArray) (w : World) (hsz : s.size ≤ 60) : Calls Tryd.prog 60 #[.string s] w fun e w' => e = .returned (.string ⟨(quotedL s).toArray⟩) ∧ Below w.heap.size w w' := by
  obtain ⟨T, hT⟩ : ∃ T, [34] ++ escs s.data.toList = T := ⟨_, rfl⟩
  have HT := Lib.hid hT
  clear hT
  go_enter Tryd.func60, Tryd.ntmps60
  go_wp2_with fail
  go_loopg [3, 4] s.size (fun g o i wr => ∃ (j : Nat) (L : List UInt8) (O : ByteArray), j + g = s.size ∧ i = .int .i64 (j : Int) ∧ o = .string O ∧ O.data.toList = L ∧ L ++ escs (s.data.toList.drop j) = T ∧ L.length ≤ 1 + 6 * j ∧ Below w.heap.size w wr)
  case atStart => exact ⟨0, [34], ⟨#[34]⟩, by omega, rfl, rfl, rfl, HT.out, by simp, Below.refl _ _⟩
  case round =>
    obtain ⟨j, L, O, hj, rfl, rfl, hO, hrest, hL, hb⟩ := hrel
    have HJ := Lib.hid hj
    have HREST := Lib.hid hrest
    have hosz : O.size ≤ 400 := by have := congrArg List.length hO; simp at this; omega
    have HL := Lib.hid hL
    have HO := Lib.hid hO
    clear hj hrest hO hL
    by_cases hlt : j < s.size
    · have hx := fun W => at_string s j hlt W
      have hd := bytes_drop s j hlt
      obtain ⟨c, hc⟩ : ∃ c, s[j]'hlt = c := ⟨_, rfl⟩
      rw [hc] at hx hd
      have HD := Lib.hid hd
      have HC := Lib.hid hc
      clear hd hc
      have NEXT : ∀ E, esc c = E → (L ++ E) ++ escs (s.data.toList.drop (j + 1)) = T ∧ (L ++ E).length ≤ 1 + 6 * (j + 1) := fun E hE => by
        have := HREST.out
        rw [HD.out] at this
        have h6 := esc_length c
        rw [hE] at h6
        have hl := HL.out
        exact ⟨by rw [← this, ← hE]; simp [escs], by simp; omega⟩
      have HNEXT := Lib.hid NEXT
      clear NEXT
      by_cases h1 : c = 34
      · subst h1
        go_wp2_with fail
        go_roundg (gk - 1)
        case measure => have := HJ.out; omega
        case rel => exact ⟨j + 1, L ++ [92, 34], O ++ ⟨#[92, 34]⟩, by have := HJ.out; omega, by go_num, rfl, by simp [HO.out], (HNEXT.out _ rfl).1, (HNEXT.out _ rfl).2, hb⟩
      by_cases h2 : c = 92
      · subst h2
        go_wp2_with fail
        go_roundg (gk - 1)
        case measure => have := HJ.out; omega
        case rel => exact ⟨j + 1, L ++ [92, 92], O ++ ⟨#[92, 92]⟩, by have := HJ.out; omega, by go_num, rfl, by simp [HO.out], (HNEXT.out _ rfl).1, (HNEXT.out _ rfl).2, hb⟩
      by_cases h3 : c = 8
      · subst h3
        go_wp2_with fail
        go_roundg (gk - 1)
        case measure => have := HJ.out; omega
        case rel => exact ⟨j + 1, L ++ [92, 98], O ++ ⟨#[92, 98]⟩, by have := HJ.out; omega, by go_num, rfl, by simp [HO.out], (HNEXT.out _ rfl).1, (HNEXT.out _ rfl).2, hb⟩
      by_cases h4 : c = 9
      · subst h4
        go_wp2_with fail
        go_roundg (gk - 1)
        case measure => have := HJ.out; omega
        case rel => exact ⟨j + 1, L ++ [92, 116], O ++ ⟨#[92, 116]⟩, by have := HJ.out; omega, by go_num, rfl, by simp [HO.out], (HNEXT.out _ rfl).1, (HNEXT.out _ rfl).2, hb⟩
      by_cases h5 : c = 10
      · subst h5
        go_wp2_with fail
        go_roundg (gk - 1)
        case measure => have := HJ.out; omega
        case rel => exact ⟨j + 1, L ++ [92, 110], O ++ ⟨#[92, 110]⟩, by have := HJ.out; omega, by go_num, rfl, by simp [HO.out], (HNEXT.out _ rfl).1, (HNEXT.out _ rfl).2, hb⟩
      by_cases h6 : c = 12
      · subst h6
        go_wp2_with fail
        go_roundg (gk - 1)
        case measure => have := HJ.out; omega
        case rel => exact ⟨j + 1, L ++ [92, 102], O ++ ⟨#[92, 102]⟩, by have := HJ.out; omega, by go_num, rfl, by simp [HO.out], (HNEXT.out _ rfl).1, (HNEXT.out _ rfl).2, hb⟩
      by_cases h7 : c = 13
      · subst h7
        go_wp2_with fail
        go_roundg (gk - 1)
        case measure => have := HJ.out; omega
        case rel => exact ⟨j + 1, L ++ [92, 114], O ++ ⟨#[92, 114]⟩, by have := HJ.out; omega, by go_num, rfl, by simp [HO.out], (HNEXT.out _ rfl).1, (HNEXT.out _ rfl).2, hb⟩
      obtain ⟨k, hk⟩ : ∃ k : Nat, c.toNat = k := ⟨_, rfl⟩
      have hk256 : k < 256 := by rw [← hk]; exact c.toNat_lt
      have ne : ∀ m : UInt8, c ≠ m → ¬ ((k : Int) = (m.toNat : Int)) := fun m hm e => hm (UInt8.toNat_inj.1 (by omega))
      have n1 : ¬ ((k : Int) = 34) := ne 34 h1
      have n2 : ¬ ((k : Int) = 92) := ne 92 h2
      have n3 : ¬ ((k : Int) = 8) := ne 8 h3
      have n4 : ¬ ((k : Int) = 9) := ne 9 h4
      have n5 : ¬ ((k : Int) = 10) := ne 10 h5
      have n6 : ¬ ((k : Int) = 12) := ne 12 h6
      have n7 : ¬ ((k : Int) = 13) := ne 13 h7
      by_cases h32 : c < 32
      · have HE : Hid (esc c = [92, 117, 48, 48, hexd (k / 16), hexd (k % 16)]) := Lib.hid (by unfold esc; rw [if_neg h1, if_neg h2, if_neg h3, if_neg h4, if_neg h5, if_neg h6, if_neg h7, if_pos h32, hk])
        have hlt32 : (k : Int) < 32 := by have : c.toNat < 32 := by simpa [UInt8.lt_iff_toNat_lt] using h32
                                          omega
        rw [hk] at hx
        clear h1 h2 h3 h4 h5 h6 h7 h32 ne hk
        have q1 : ((k : Int).tdiv 16) = (k : Int) / 16 := by simp
        have q2 : ((k : Int).tmod 16) = (k : Int) % 16 := Int.tmod_eq_emod_of_nonneg (by omega)
        have q3 : IntKind.u8.wrap ((k : Int) / 16) = (k : Int) / 16 := wraps_u8 _ (by omega) (by omega)
        have q4 : IntKind.u8.wrap ((k : Int) % 16) = (k : Int) % 16 := wraps_u8 _ (by omega) (by omega)
        have q5 : IntKind.u8.wrap ((k : Int) / 16 + 1) = (k : Int) / 16 + 1 := wraps_u8 _ (by omega) (by omega)
        have q6 : IntKind.u8.wrap ((k : Int) % 16 + 1) = (k : Int) % 16 + 1 := wraps_u8 _ (by omega) (by omega)
        have hs1 := fun W => hex_slice (k / 16) ((k : Int) / 16) (by omega) (by omega) W
        have hs2 := fun W => hex_slice (k % 16) ((k : Int) % 16) (by omega) (by omega) W
        obtain ⟨d1, hd1⟩ : ∃ d, hexd (k / 16) = d := ⟨_, rfl⟩
        obtain ⟨d2, hd2⟩ : ∃ d, hexd (k % 16) = d := ⟨_, rfl⟩
        rw [hd1] at HE hs1
        rw [hd2] at HE hs2
        clear hd1 hd2
        go_wp2_with fail
        go_quiet (fail)
        go_wp2_with fail
        go_roundg (gk - 1)
        case measure => have := HJ.out; omega
        case rel =>
          refine ⟨j + 1, L ++ [92, 117, 48, 48, d1, d2], _, by have := HJ.out; omega, by go_num, rfl, ?_, (HNEXT.out _ HE.out).1, (HNEXT.out _ HE.out).2, hb.trans ⟨rfl, rfl, rfl, Nat.le_refl _, fun _ _ => rfl⟩⟩
          simp [HO.out]
      · have HE : Hid (esc c = [c]) := Lib.hid (by unfold esc; rw [if_neg h1, if_neg h2, if_neg h3, if_neg h4, if_neg h5, if_neg h6, if_neg h7, if_neg h32])
        have hlt32 : ¬ (k : Int) < 32 := by have : ¬ c.toNat < 32 := by simpa [UInt8.lt_iff_toNat_lt] using h32
                                            omega
        rw [hk] at hx
        have HX : Hid ((s.extract j (j + 1)).data.toList = [c]) := Lib.hid (by rw [extract_data, HD.out]; simp)
        clear h1 h2 h3 h4 h5 h6 h7 h32 ne hk
        go_wp2_with fail
        go_roundg (gk - 1)
        case measure => have := HJ.out; omega
        case rel => exact ⟨j + 1, L ++ [c], O ++ s.extract j (j + 1), by have := HJ.out; omega, by go_num, rfl, by rw [ByteArray.data_append, Array.toList_append, HO.out, HX.out], (HNEXT.out _ HE.out).1, (HNEXT.out _ HE.out).2, hb⟩
    · have hLT : L = T := by
        rw [← HREST.out, List.drop_eq_nil_of_le (by have : s.data.size = s.size := rfl; simp; omega)]
        simp [escs]
      go_wp2_with fail
      go_ret
      refine ⟨ret_str ?_, hb⟩
      simp [HO.out, hLT, ← HT.out, quotedL]
end Go.Proofs.YtijibjdgnaphiaaDoor
