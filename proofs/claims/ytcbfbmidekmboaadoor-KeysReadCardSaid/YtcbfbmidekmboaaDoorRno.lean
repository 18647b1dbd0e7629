/- A number read, and a text: what the program's calls answer where there is one; no condition of ours. -/
/- Numbers and texts that aren't there: what the program's calls answer; no condition of ours. -/
import Derived.Test.YtcbfbmidekmboaaDoorRdn
namespace Go.Proofs.YtcbfbmidekmboaaDoor
open Go.ChangeShapes Go.WideShapes Go.Deep Go.RowKit Go.Lib

set_option maxHeartbeats 4000000 in
set_option maxRecDepth 100000 in
theorem readNumber_any (w0 w : World) (p : Nat) (nb : Option Addr) (cb : Nat) (bs r : List UInt8) (m : Nat) (hm : m < 18446744073709551616) (hS : Src w0 p nb bs w) (hat : At p bs (bigL m ++ r) w) :
    Calls Tryd.prog 55 #[.slice nb bs.length cb, .pointer (some ⟨p, 0, none⟩)] w fun e w' => e = .returned (.tuple #[.int .u64 (m : Int), .bool true]) ∧ Stepped p bs r w w' := by
  have HS := Lib.hid hS
  have HAT := Lib.hid hat
  clear hS hat
  go_enter Tryd.func55, Tryd.ntmps55
  go_wp2_with fail
  go_loopg [6, 9] 8 (fun g x i wr => ∃ j : Nat, j + g = 8 ∧ i = .int .i64 (j : Int) ∧ x = .int .u64 ((m / 256 ^ (8 - j) : Nat) : Int) ∧ At p bs ((bigL m).drop j ++ r) wr ∧ Kept p w wr)
  case atStart => exact ⟨0, by omega, rfl, by rw [Nat.div_eq_of_lt (by simpa using hm)]; rfl, HAT.out, Kept.refl _ _⟩
  case round =>
    obtain ⟨j, hj, rfl, rfl, hat, hk⟩ := hrel
    have HJ := Lib.hid hj
    clear hj
    by_cases h1 : j < 8
    · have hg := bigL_get m j h1
      rw [List.drop_eq_getElem_cons (show j < (bigL m).length from h1), hg, List.cons_append] at hat
      obtain ⟨i, hi⟩ : ∃ i, i = 7 - j := ⟨_, rfl⟩
      obtain ⟨y, hy⟩ : ∃ y, m / 256 ^ (8 - j) = y := ⟨_, rfl⟩
      obtain ⟨z, hz⟩ : ∃ z, m / 256 ^ (7 - j) = z := ⟨_, rfl⟩
      have hyz : y = z / 256 := by rw [← hy, ← hz, Nat.div_div_eq_div_mul, ← Nat.pow_succ]; congr 2; omega
      have hzm : z < 18446744073709551616 := by rw [← hz]; exact Nat.lt_of_le_of_lt (Nat.div_le_self _ _) hm
      have hnx : m / 256 ^ (8 - (j + 1)) = z := by rw [← hz]; congr 2; omega
      rw [hy]
      rw [hz] at hat
      have CALL := Lib.hid (next_any w0 wr p nb cb bs _ _ (HS.out.kept hk) hat)
      simp only [toNat_byte] at CALL
      have HNX := Lib.hid hnx
      have HYZ := Lib.hid hyz
      have HZM := Lib.hid hzm
      have HKR := Lib.hid hk
      clear hg hat hi hy hz hyz hzm hnx hk
      go_wp2_with fail
      refine (CALL.out).mono ?_
      rintro e w1 ⟨rfl, hat1, hk1⟩
      have HA1 := Lib.hid hat1
      have HK1 := Lib.hid (HKR.out.trans hk1)
      clear hat1 hk1
      go_wp2_with fail
      go_roundg (gk - 1)
      case measure => have := HJ.out; omega
      case rel =>
        refine ⟨j + 1, by have := HJ.out; omega, by go_num, ?_, HA1.out, HK1.out⟩
        rw [HNX.out]
        have hyz := HYZ.out
        have hzm := HZM.out
        congr 1
        show (((y : Int) * 256) % 18446744073709551616 + (z : Int) % 256) % 18446744073709551616 = _
        omega
    · obtain rfl : j = 8 := by have := HJ.out; omega
      have e : m / 256 ^ (8 - 8) = m := by simp
      rw [e]
      rw [List.drop_eq_nil_of_le (by rw [bigL_length]; omega), List.nil_append] at hat
      have HA := Lib.hid hat
      have HK := Lib.hid hk
      clear hat hk e
      go_wp2_with fail
      go_ret2
      exact ⟨rfl, HA.out, HK.out⟩

/-- A row of bytes of the call's own, through a step of the reader. -/
theorem bytesRow_step {w w' : World} {p B : Nat} {v : Value} {n : Nat} {xs : List Value} (h : w.ownsRow B 5 1 v n xs) (hk : Kept p w w') (hp : p < B) : w'.ownsRow B 5 1 v n xs := by
  refine ⟨h.1, ?_⟩
  rcases h.2 with hn | ⟨g, cap, cur, rfl, hb1, hgg, rest⟩
  · exact .inl hn
  · refine .inr ⟨g, cap, cur, rfl, hb1, ?_, rest⟩
    rw [hk.block g (Array.getElem?_eq_some_iff.1 hgg).1 (by omega)]
    exact hgg

theorem bytes_back {w : World} {B : Nat} {na : Option Addr} {cap : Nat} {l : List UInt8} (h : w.ownsRow B 5 1 (.slice na l.length cap) l.length (Lib.byteCells l)) : (convert 28 9 (.slice na l.length cap)).run Tryd.prog w = .ok (.string ⟨l.toArray⟩) w := by
  cases na with
  | none =>
    have h0 : l = [] := by
      rcases h.2 with ⟨_, h0⟩ | ⟨g, cap', cur, hv, _⟩
      · exact List.length_eq_zero_iff.1 h0
      · cases hv
    subst h0
    rw [run_convert_bytes_string w 28 9 5 none _ cap Tryd.underlying28 Tryd.underlying5 Tryd.underlying9]
    simp [Conv.bytesToString]
    rfl
  | some a =>
    obtain ⟨g, rfl⟩ : ∃ g, a = ⟨g, 0, none⟩ := by
      rcases h.2 with ⟨hv, _⟩ | ⟨g, cap', cur, hv, _⟩
      · cases hv
      · exact ⟨g, by cases hv; rfl⟩
    refine run_convert_bytes_back w 28 9 5 _ cap l Tryd.underlying28 Tryd.underlying5 Tryd.underlying9 fun j hj => ?_
    refine h.cells (g := g) rfl j _ ?_
    rw [Lib.byteCells, List.getElem?_map, List.getElem?_eq_getElem hj]
    rfl

/-- The place, through an append to bytes of the call's own. -/
theorem Took.place {B p : Nat} {v : Value} {l bs r : List UInt8} {w w' : World} (h : Took B v l w w') (hat : At p bs r w) (hp : p < B) : At p bs r w' := by
  obtain ⟨a, h1, h2, h3⟩ := hat
  exact ⟨a, h1, h2, by rw [h.below.block p hp]; exact h3⟩

set_option maxHeartbeats 4000000 in
set_option maxRecDepth 100000 in
theorem readText_any (w0 w : World) (p : Nat) (nb : Option Addr) (cb : Nat) (bs r : List UInt8) (s : ByteArray) (hs : s.size ≤ 60) (hS : Src w0 p nb bs w) (hat : At p bs (textL s.data.toList ++ r) w) :
    Calls Tryd.prog 56 #[.slice nb bs.length cb, .pointer (some ⟨p, 0, none⟩)] w fun e w' => e = .returned (.tuple #[.string s, .bool true]) ∧ Stepped p bs r w w' := by
  have HS := Lib.hid hS
  have HPL := Lib.hid hat.lt
  have HAT := Lib.hid hat
  obtain ⟨L, hL⟩ : ∃ L, s.data.toList = L := ⟨_, rfl⟩
  have hsz : L.length = s.size := by rw [← hL]; simp
  have hsL : s = ⟨L.toArray⟩ := by rw [← hL]
  rw [hL] at HAT
  rw [← hsz] at hs
  have HSL := Lib.hid hsL
  have HLN := Lib.hid hs
  clear hS hat hL hsz hs hsL
  go_enter Tryd.func56, Tryd.ntmps56
  go_wp2_with fail
  go_loopg [6] L.length (fun g v wr => ∃ j : Nat, j + g = L.length ∧ wr.ownsRow w.heap.size 5 1 v (L.take j).length (Lib.byteCells (L.take j)) ∧ At p bs (textL (L.drop j) ++ r) wr ∧ Kept p w wr)
  case atStart => exact ⟨0, by omega, by simpa [Lib.byteCells] using World.ownsRow_nil w w.heap.size 5 1, HAT.out, Kept.refl _ _⟩
  case round =>
    obtain ⟨j, hj, hown, hat, hk⟩ := hrel
    have hjl : (L.take j).length = j := by rw [List.length_take]; omega
    obtain ⟨X, hX⟩ : ∃ X, L.take j = X := ⟨_, rfl⟩
    rw [hX] at hown hjl
    obtain ⟨na, cap, rfl⟩ := bytesRow_slice hown
    have HJ := Lib.hid hj
    have hj60 : (X.length : Int) ≤ 60 := by have := HLN.out; omega
    have HKR := Lib.hid hk
    have HOWN := Lib.hid hown
    have HJL := Lib.hid hjl
    have HX := Lib.hid hX
    clear hj hown hjl hX
    by_cases h1 : j < L.length
    · rw [textL_drop h1, List.append_assoc] at hat
      obtain ⟨c, hc⟩ : ∃ c, L[j] = c := ⟨_, rfl⟩
      rw [hc] at hat
      have HTK : Hid (L.take (j + 1) = X ++ [c]) := Lib.hid (by rw [List.take_succ_eq_append_getElem h1, hc, HX.out])
      by_cases h0 : c = 0
      · subst h0
        unfold escL at hat
        rw [if_pos rfl] at hat
        have CALL := Lib.hid (next_any w0 wr p nb cb bs _ _ (HS.out.kept hk) hat)
        have CALL2 := Lib.hid (fun W (h1 : Kept p wr W) (h2 : At p bs (255 :: (textL (L.drop (j + 1)) ++ r)) W) => next_any w0 W p nb cb bs _ _ ((HS.out.kept hk).kept h1) h2)
        have e0 : (((0 : UInt8).toNat : Nat) : Int) = 0 := rfl
        have e255 : (((255 : UInt8).toNat : Nat) : Int) = 255 := rfl
        simp only [e0] at CALL
        simp only [e255] at CALL2
        clear hat hk hc e0 e255
        go_wp2_with fail
        refine (CALL.out).mono ?_
        rintro e w1 ⟨rfl, hat1, hk1⟩
        have HO1 := Lib.hid (bytesRow_step HOWN.out hk1 HPL.out)
        have HA1 := Lib.hid hat1
        have HQ1 := Lib.hid hk1
        have HK1 := Lib.hid (HKR.out.trans hk1)
        clear hat1 hk1
        go_wp2_with fail
        refine (CALL2.out w1 HQ1.out HA1.out).mono ?_
        rintro e w2 ⟨rfl, hat2, hk2⟩
        have HO2 := Lib.hid (bytesRow_step HO1.out hk2 HPL.out)
        have HA2 := Lib.hid hat2
        have HK2 := Lib.hid (HK1.out.trans hk2)
        clear hat2 hk2
        have hB2 := HK2.out.size
        go_wp2_with (at_builtin; refine wpList_lit rfl _ _ rfl (Took.refl HO2.out) hB2 rfl [0] _ 1 rfl rfl rfl (by have := HLN.out; have := HJL.out; simp; omega) ?_)
        intro nc cc W3 hW3
        have HO3 : Hid (W3.ownsRow w.heap.size 5 1 (.slice nc (X.length + 1) cc) (X ++ [0]).length (Lib.byteCells (X ++ [0]))) := Lib.hid hW3.own
        have HA3 := Lib.hid (hW3.place HA2.out HPL.out)
        have HK3 := Lib.hid (HK2.out.grow hW3.below)
        clear hW3
        go_wp2_with fail
        go_roundg (gk - 1)
        case measure => have := HJ.out; omega
        case rel => exact ⟨j + 1, by have := HJ.out; omega, by rw [HTK.out]; exact HO3.out, HA3.out, HK3.out⟩
      · unfold escL at hat
        rw [if_neg h0] at hat
        have CALL := Lib.hid (next_any w0 wr p nb cb bs _ _ (HS.out.kept hk) hat)
        have hz : ((c.toNat : Int) == 0) = false := by rw [beq_eq_false_iff_ne]; have := zero_lt_byte h0; omega
        have hz2 : ¬ (c.toNat : Int) = 0 := by have := zero_lt_byte h0; omega
        clear hat hk hc h0
        go_wp2_with fail
        refine (CALL.out).mono ?_
        rintro e w1 ⟨rfl, hat1, hk1⟩
        have HO1 := Lib.hid (bytesRow_step HOWN.out hk1 HPL.out)
        have HA1 := Lib.hid hat1
        have HK1 := Lib.hid (HKR.out.trans hk1)
        clear hat1 hk1
        have hB1 := HK1.out.size
        go_wp2_with (at_builtin; refine wpList_lit rfl _ _ rfl (Took.refl HO1.out) hB1 rfl [c] _ 1 rfl rfl (byte_of c) (by have := HLN.out; have := HJL.out; simp; omega) ?_)
        intro nc cc W3 hW3
        have HO3 : Hid (W3.ownsRow w.heap.size 5 1 (.slice nc (X.length + 1) cc) (X ++ [c]).length (Lib.byteCells (X ++ [c]))) := Lib.hid hW3.own
        have HA3 := Lib.hid (hW3.place HA1.out HPL.out)
        have HK3 := Lib.hid (HK1.out.grow hW3.below)
        clear hW3
        go_wp2_with fail
        go_roundg (gk - 1)
        case measure => have := HJ.out; omega
        case rel => exact ⟨j + 1, by have := HJ.out; omega, by rw [HTK.out]; exact HO3.out, HA3.out, HK3.out⟩
    · have hXL : X = L := by rw [← HX.out, List.take_of_length_le (by omega)]
      subst hXL
      rw [textL_end (by omega)] at hat
      have CALL := Lib.hid (next_any w0 wr p nb cb bs _ _ (HS.out.kept hk) hat)
      have CALL2 := Lib.hid (fun W (h1 : Kept p wr W) (h2 : At p bs (0 :: r) W) => next_any w0 W p nb cb bs _ _ ((HS.out.kept hk).kept h1) h2)
      have e0 : (((0 : UInt8).toNat : Nat) : Int) = 0 := rfl
      simp only [e0] at CALL CALL2
      clear hat hk e0
      go_wp2_with fail
      refine (CALL.out).mono ?_
      rintro e w1 ⟨rfl, hat1, hk1⟩
      have HO1 := Lib.hid (bytesRow_step HOWN.out hk1 HPL.out)
      have HA1 := Lib.hid hat1
      have HQ1 := Lib.hid hk1
      have HK1 := Lib.hid (HKR.out.trans hk1)
      clear hat1 hk1
      go_wp2_with fail
      refine (CALL2.out w1 HQ1.out HA1.out).mono ?_
      rintro e w2 ⟨rfl, hat2, hk2⟩
      have HA2 := Lib.hid hat2
      have hbk := bytes_back (bytesRow_step HO1.out hk2 HPL.out)
      have HK2 := Lib.hid (HK1.out.trans hk2)
      clear hat2 hk2
      go_wp2_with fail
      go_ret2
      exact ⟨by rw [HSL.out]; rfl, HA2.out, HK2.out⟩
end Go.Proofs.YtcbfbmidekmboaaDoor

namespace Go.Proofs.YtcbfbmidekmboaaDoor
open Go.ChangeShapes Go.WideShapes Go.Deep Go.RowKit Go.Lib

/-- The place is somewhere, all else is as it was. -/
def Strayed (p : Nat) (bs : List UInt8) (w w' : World) : Prop := (∃ r, At p bs r w') ∧ Kept p w w'

theorem At.end_ {p : Nat} {bs : List UInt8} {w : World} (h : At p bs [] w) : w.heap[p]? = some (.cells #[.int .i64 (bs.length : Int)] 3 (0, 0)) := by
  obtain ⟨a, h1, h2, h3⟩ := h
  have h4 := congrArg List.length h2
  rw [List.length_drop] at h4
  simp at h4
  rw [show bs.length = a by omega]
  exact h3

set_option maxHeartbeats 2000000 in
theorem next_none (w : World) (p : Nat) (nb : Option Addr) (cb : Nat) (bs : List UInt8) (hat : At p bs [] w) :
    Calls Tryd.prog 54 #[.slice nb bs.length cb, .pointer (some ⟨p, 0, none⟩)] w fun e w' => e = .returned (.tuple #[.int .u8 0, .bool false]) ∧ w' = w := by
  obtain ⟨c0, f0⟩ := place_cell hat.end_
  clear hat
  go_enter Tryd.func54, Tryd.ntmps54
  go_wp2_with fail
  go_ret2
  exact ⟨rfl, rfl⟩

set_option maxHeartbeats 2000000 in
theorem ends_none (w : World) (p : Nat) (nb : Option Addr) (cb : Nat) (bs : List UInt8) (n : Nat) (hat : At p bs [] w) :
    Calls Tryd.prog 65 #[.slice nb bs.length cb, .pointer (some ⟨p, 0, none⟩), .int .i64 (n : Int)] w fun e w' => e = .returned (.tuple #[.bool false, .bool false]) ∧ w' = w := by
  obtain ⟨c0, f0⟩ := place_cell hat.end_
  clear hat
  go_enter Tryd.func65, Tryd.ntmps65
  go_wp2_with fail
  go_ret2
  exact ⟨rfl, rfl⟩

set_option maxHeartbeats 2000000 in
set_option maxRecDepth 100000 in
theorem ends_stop (w0 w : World) (p : Nat) (nb : Option Addr) (cb : Nat) (bs r : List UInt8) (c : UInt8) (n : Nat) (hS : Src w0 p nb bs w) (hat : At p bs (c :: r) w) (hc0 : c ≠ 0) (hn : ¬ n < 24) :
    Calls Tryd.prog 65 #[.slice nb bs.length cb, .pointer (some ⟨p, 0, none⟩), .int .i64 (n : Int)] w fun e w' => e = .returned (.tuple #[.bool false, .bool false]) ∧ w' = w := by
  obtain ⟨a, ha, hd, hbox⟩ := hat
  obtain ⟨hlt, hd1, b, o, rfl, hc, hbp⟩ := hS.byte hd
  obtain ⟨c0, f0⟩ := place_cell hbox
  have hln := hS.len
  have e1 : ((a : Int) == (bs.length : Int)) = false := by rw [beq_eq_false_iff_ne]; omega
  have hz : ((c.toNat : Int) == 0) = false := by rw [beq_eq_false_iff_ne]; have := zero_lt_byte hc0; omega
  have hn2 : ¬ (n : Int) < 24 := by omega
  clear hS hd hd1 hbox ha hc0 hn
  go_enter Tryd.func65, Tryd.ntmps65
  go_wp2_with fail
  go_ret2
  exact ⟨by simp, rfl⟩

theorem u64_nat (x : Int) : ∃ y : Nat, Value.int .u64 (IntKind.u64.wrap x) = .int .u64 (y : Int) := by
  refine ⟨(IntKind.u64.wrap x).toNat, ?_⟩
  have h : 0 ≤ IntKind.u64.wrap x := by
    unfold IntKind.wrap
    simp [IntKind.bits, IntKind.signed]
    omega
  congr 1
  omega

set_option maxHeartbeats 4000000 in
set_option maxRecDepth 100000 in
theorem readNumber_short (w0 w : World) (p : Nat) (nb : Option Addr) (cb : Nat) (bs b : List UInt8) (hb : b.length < 8) (hS : Src w0 p nb bs w) (hat : At p bs b w) :
    Calls Tryd.prog 55 #[.slice nb bs.length cb, .pointer (some ⟨p, 0, none⟩)] w fun e w' => e = .returned (.tuple #[.int .u64 0, .bool false]) ∧ Strayed p bs w w' := by
  have HS := Lib.hid hS
  have HAT := Lib.hid hat
  have HB := Lib.hid hb
  clear hS hat hb
  go_enter Tryd.func55, Tryd.ntmps55
  go_wp2_with fail
  go_loopg [6, 9] 8 (fun g x i wr => ∃ (j y : Nat), j + g = 8 ∧ j ≤ b.length ∧ i = .int .i64 (j : Int) ∧ x = .int .u64 (y : Int) ∧ At p bs (b.drop j) wr ∧ Kept p w wr)
  case atStart => exact ⟨0, 0, by omega, by omega, rfl, rfl, HAT.out, Kept.refl _ _⟩
  case round =>
    obtain ⟨j, y, hj, hjb, rfl, rfl, hat, hk⟩ := hrel
    have HJ := Lib.hid hj
    have HK := Lib.hid hk
    have hj8 : (j : Int) < 8 := by have := HB.out; omega
    by_cases h1 : j < b.length
    · rw [List.drop_eq_getElem_cons h1] at hat
      have CALL := Lib.hid (next_any w0 wr p nb cb bs _ _ (HS.out.kept hk) hat)
      obtain ⟨c, hc⟩ : ∃ c, b[j] = c := ⟨_, rfl⟩
      rw [hc] at CALL
      have HJB : Hid (j + 1 ≤ b.length) := Lib.hid h1
      clear hj hat hk hc h1 hjb
      go_wp2_with fail
      refine (CALL.out).mono ?_
      rintro e w1 ⟨rfl, hat1, hk1⟩
      have HA1 := Lib.hid hat1
      have HK1 := Lib.hid (HK.out.trans hk1)
      clear hat1 hk1
      go_wp2_with fail
      go_roundg (gk - 1)
      case measure => have := HJ.out; omega
      case rel => exact ⟨j + 1, _, by have := HJ.out; omega, HJB.out, by go_num, (u64_nat _).choose_spec, HA1.out, HK1.out⟩
    · rw [List.drop_eq_nil_of_le (by omega)] at hat
      have CALL := Lib.hid (next_none wr p nb cb bs hat)
      have HA := Lib.hid hat
      clear hj hat hk h1
      go_wp2_with fail
      refine (CALL.out).mono ?_
      rintro e w1 ⟨rfl, rfl⟩
      go_wp2_with fail
      go_ret2
      exact ⟨rfl, ⟨_, HA.out⟩, HK.out⟩

/-- What stands for a text, without its end. -/
def escsL (l : List UInt8) : List UInt8 := l.flatMap escL
theorem textL_escs (l : List UInt8) : textL l = escsL l ++ [0, 0] := rfl
theorem escsL_snoc (l : List UInt8) (c : UInt8) : escsL (l ++ [c]) = escsL l ++ escL c := by simp [escsL]

set_option maxHeartbeats 4000000 in
set_option maxRecDepth 100000 in
theorem readText_no (w0 w : World) (p : Nat) (nb : Option Addr) (cb : Nat) (bs b : List UInt8) (hno : ∀ s r : List UInt8, s.length ≤ 60 → b ≠ textL s ++ r) (hS : Src w0 p nb bs w) (hat : At p bs b w) :
    Calls Tryd.prog 56 #[.slice nb bs.length cb, .pointer (some ⟨p, 0, none⟩)] w fun e w' => e = .returned (.tuple #[.string ⟨#[]⟩, .bool false]) ∧ Strayed p bs w w' := by
  have HS := Lib.hid hS
  have HPL := Lib.hid hat.lt
  have HAT := Lib.hid hat
  have HNO := Lib.hid hno
  clear hS hat hno
  go_enter Tryd.func56, Tryd.ntmps56
  go_wp2_with fail
  go_loopg [6] 61 (fun g v wr => ∃ (X rest : List UInt8), X.length + g = 61 ∧ b = escsL X ++ rest ∧ wr.ownsRow w.heap.size 5 1 v X.length (Lib.byteCells X) ∧ At p bs rest wr ∧ Kept p w wr)
  case atStart => exact ⟨[], b, by simp, by simp [escsL], World.ownsRow_nil _ _ _ _, HAT.out, Kept.refl _ _⟩
  case round =>
    obtain ⟨X, rest, hX, hb, hown, hat, hk⟩ := hrel
    obtain ⟨na, cap, rfl⟩ := bytesRow_slice hown
    have HX := Lib.hid hX
    have HB := Lib.hid hb
    have HK := Lib.hid hk
    have HOWN := Lib.hid hown
    clear hX hb hown
    by_cases h60 : X.length ≤ 60
    rotate_left
    · have g1 : ¬ (X.length : Int) ≤ 60 := by omega
      have HA := Lib.hid hat
      clear hat hk h60
      go_wp2_with fail
      go_ret2
      exact ⟨rfl, ⟨_, HA.out⟩, HK.out⟩
    have g1 : (X.length : Int) ≤ 60 := by omega
    have H60 := Lib.hid h60
    clear h60
    cases rest with
    | nil =>
      have CALL := Lib.hid (next_none wr p nb cb bs hat)
      have HA := Lib.hid hat
      clear hat hk
      go_wp2_with fail
      refine (CALL.out).mono ?_
      rintro e w1 ⟨rfl, rfl⟩
      go_wp2_with fail
      go_ret2
      exact ⟨rfl, ⟨_, HA.out⟩, HK.out⟩
    | cons c rest =>
      have CALL := Lib.hid (next_any w0 wr p nb cb bs _ _ (HS.out.kept hk) hat)
      by_cases h0 : c = 0
      · subst h0
        have e0 : (((0 : UInt8).toNat : Nat) : Int) = 0 := rfl
        simp only [e0] at CALL
        clear e0 hat
        cases rest with
        | nil =>
          have CALL2 := Lib.hid (fun W (h2 : At p bs [] W) => next_none W p nb cb bs h2)
          clear hk
          go_wp2_with fail
          refine (CALL.out).mono ?_
          rintro e w1 ⟨rfl, hat1, hk1⟩
          have HA1 := Lib.hid hat1
          have HK1 := Lib.hid (HK.out.trans hk1)
          clear hat1 hk1
          go_wp2_with fail
          refine (CALL2.out w1 HA1.out).mono ?_
          rintro e w2 ⟨rfl, rfl⟩
          go_wp2_with fail
          go_ret2
          exact ⟨rfl, ⟨_, HA1.out⟩, HK1.out⟩
        | cons d rest =>
          have CALL2 := Lib.hid (fun W (h1 : Kept p wr W) (h2 : At p bs (d :: rest) W) => next_any w0 W p nb cb bs _ _ ((HS.out.kept hk).kept h1) h2)
          clear hk
          by_cases hd0 : d = 0
          · exact absurd HB.out (by subst hd0; have := HNO.out X rest H60.out; rw [textL_escs, List.append_assoc] at this; exact this)
          have dz : ((d.toNat : Int) == 0) = false := by rw [beq_eq_false_iff_ne]; have := zero_lt_byte hd0; omega
          have dz2 : ¬ (d.toNat : Int) = 0 := by have := zero_lt_byte hd0; omega
          by_cases hd : d = 255
          · have HBN : Hid (b = escsL (X ++ [0]) ++ rest) := Lib.hid (by rw [HB.out, escsL_snoc, List.append_assoc]; subst hd; rfl)
            subst hd
            have e255 : (((255 : UInt8).toNat : Nat) : Int) = 255 := rfl
            simp only [e255] at CALL2
            clear e255 dz dz2 hd0
            go_wp2_with fail
            refine (CALL.out).mono ?_
            rintro e w1 ⟨rfl, hat1, hk1⟩
            have HO1 := Lib.hid (bytesRow_step HOWN.out hk1 HPL.out)
            have HA1 := Lib.hid hat1
            have HQ1 := Lib.hid hk1
            have HK1 := Lib.hid (HK.out.trans hk1)
            clear hat1 hk1
            go_wp2_with fail
            refine (CALL2.out w1 HQ1.out HA1.out).mono ?_
            rintro e w2 ⟨rfl, hat2, hk2⟩
            have HO2 := Lib.hid (bytesRow_step HO1.out hk2 HPL.out)
            have HA2 := Lib.hid hat2
            have HK2 := Lib.hid (HK1.out.trans hk2)
            clear hat2 hk2
            have hB2 := HK2.out.size
            go_wp2_with (at_builtin; refine wpList_lit rfl _ _ rfl (Took.refl HO2.out) hB2 rfl [0] _ 1 rfl rfl rfl (by have := H60.out; simp; omega) ?_)
            intro nc cc W3 hW3
            have HO3 : Hid (W3.ownsRow w.heap.size 5 1 (.slice nc (X.length + 1) cc) (X ++ [0]).length (Lib.byteCells (X ++ [0]))) := Lib.hid hW3.own
            have HA3 := Lib.hid (hW3.place HA2.out HPL.out)
            have HK3 := Lib.hid (HK2.out.grow hW3.below)
            clear hW3
            go_wp2_with fail
            go_roundg (gk - 1)
            case measure => have := HX.out; have := H60.out; omega
            case rel => exact ⟨X ++ [0], rest, by have := HX.out; have := H60.out; simp; omega, HBN.out, HO3.out, HA3.out, HK3.out⟩
          · have de : ((d.toNat : Int) == 255) = false := by rw [beq_eq_false_iff_ne]; intro e; exact hd (UInt8.toNat_inj.1 (by show d.toNat = 255; omega))
            have de2 : ¬ (d.toNat : Int) = 255 := by simpa using de
            have de3 : ((d.toNat : Int) != 255) = true := by simpa using de2
            have dz3 : ((d.toNat : Int) != 0) = true := by simpa using dz2
            clear hd hd0
            go_wp2_with fail
            refine (CALL.out).mono ?_
            rintro e w1 ⟨rfl, hat1, hk1⟩
            have HA1 := Lib.hid hat1
            have HQ1 := Lib.hid hk1
            have HK1 := Lib.hid (HK.out.trans hk1)
            clear hat1 hk1
            go_wp2_with fail
            refine (CALL2.out w1 HQ1.out HA1.out).mono ?_
            rintro e w2 ⟨rfl, hat2, hk2⟩
            have HA2 := Lib.hid hat2
            have HK2 := Lib.hid (HK1.out.trans hk2)
            clear hat2 hk2
            go_wp2_with fail
            go_ret2
            exact ⟨rfl, ⟨_, HA2.out⟩, HK2.out⟩
      · have HBN : Hid (b = escsL (X ++ [c]) ++ rest) := Lib.hid (by rw [HB.out, escsL_snoc, List.append_assoc]; unfold escL; rw [if_neg h0]; rfl)
        have hz : ((c.toNat : Int) == 0) = false := by rw [beq_eq_false_iff_ne]; have := zero_lt_byte h0; omega
        have hz2 : ¬ (c.toNat : Int) = 0 := by have := zero_lt_byte h0; omega
        clear hat hk h0
        go_wp2_with fail
        refine (CALL.out).mono ?_
        rintro e w1 ⟨rfl, hat1, hk1⟩
        have HO1 := Lib.hid (bytesRow_step HOWN.out hk1 HPL.out)
        have HA1 := Lib.hid hat1
        have HK1 := Lib.hid (HK.out.trans hk1)
        clear hat1 hk1
        have hB1 := HK1.out.size
        go_wp2_with (at_builtin; refine wpList_lit rfl _ _ rfl (Took.refl HO1.out) hB1 rfl [c] _ 1 rfl rfl (byte_of c) (by have := H60.out; simp; omega) ?_)
        intro nc cc W3 hW3
        have HO3 : Hid (W3.ownsRow w.heap.size 5 1 (.slice nc (X.length + 1) cc) (X ++ [c]).length (Lib.byteCells (X ++ [c]))) := Lib.hid hW3.own
        have HA3 := Lib.hid (hW3.place HA1.out HPL.out)
        have HK3 := Lib.hid (HK1.out.grow hW3.below)
        clear hW3
        go_wp2_with fail
        go_roundg (gk - 1)
        case measure => have := HX.out; have := H60.out; omega
        case rel => exact ⟨X ++ [c], rest, by have := HX.out; have := H60.out; simp; omega, HBN.out, HO3.out, HA3.out, HK3.out⟩
end Go.Proofs.YtcbfbmidekmboaaDoor
