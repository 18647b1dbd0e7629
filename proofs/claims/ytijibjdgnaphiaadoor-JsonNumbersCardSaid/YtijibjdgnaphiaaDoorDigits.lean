/- The decimal digits of an integer: what the document's answer is; no condition of ours. -/
import Derived.Test.YtijibjdgnaphiaaDoorPrint
import Derived.Laws.BytesArg
namespace Go.Proofs.YtijibjdgnaphiaaDoor
open Go.ChangeShapes Go.WideShapes Go.Deep Go.RowKit Go.Lib

theorem w64 {n : Int} (h0 : -9223372036854775808 ≤ n) (h1 : n ≤ 9223372036854775807) : IntKind.i64.wrap n = n := by rw [IntKind.wrap_i64]; omega

theorem IntKind.wrap_i64_eq (n : Int) : IntKind.i64.wrap n = wrap64 n := Go.IntWalk.i64_left n

theorem ret_str {a b : ByteArray} (h : a.data.toList = b.data.toList) : Ending.returned (.string a) = .returned (.string b) := by
  have : a = b := ByteArray.ext (Array.ext' h)
  rw [this]

theorem str_of_bytes (w : World) (n : Nat) : (convert 51 9 (.slice (some ⟨w.heap.size, 0, none⟩) 1 1)).run Tryd.prog (w.alloc (.cells #[.int .u8 (48 + (n : Int))] 5)) = .ok (.string ⟨#[UInt8.ofNat (48 + n)]⟩) (w.alloc (.cells #[.int .u8 (48 + (n : Int))] 5)) := by
  rw [run_convert_bytes_arg _ 51 5 Tryd.underlying51 Tryd.underlying5 w.heap.size 0 1 1 [48 + (n : Int)] rfl ?_ 9 Tryd.underlying9]
  · congr 2
  · intro i hi
    obtain rfl : i = 0 := by omega
    rw [Lib.cell_of_heap (heap_alloc_new w _)]
    rfl

set_option maxHeartbeats 1000000 in
set_option maxRecDepth 100000 in
theorem digits_one (n : Nat) (w : World) (hn : n < 10) : Calls Tryd.prog 24 #[.int .i64 (n : Int)] w fun e w' => e = .returned (.string ⟨(Lib.itoa (n : Int)).toArray⟩) ∧ Below w.heap.size w w' := by
  have hcv := str_of_bytes w n
  have e : (⟨#[UInt8.ofNat (48 + n)]⟩ : ByteArray) = ⟨(Lib.itoa (n : Int)).toArray⟩ := by
    unfold Lib.itoa
    rw [if_neg (by omega), Int.toNat_natCast, Lib.decDigits_one hn]
  rw [e] at hcv
  clear e
  obtain ⟨S, hS⟩ : ∃ S : ByteArray, ⟨(Lib.itoa (n : Int)).toArray⟩ = S := ⟨_, rfl⟩
  rw [hS] at hcv ⊢
  clear hS
  go_enter Tryd.func24, Tryd.ntmps24
  go_wp2_with fail
  go_ret
  exact ⟨rfl, (Below.refl _ _).alloc (Nat.le_refl _) _⟩

set_option maxHeartbeats 1000000 in
set_option maxRecDepth 100000 in
theorem digits_minus (x y : Int) (S : ByteArray) (w : World) (h0 : x < 0) (h1 : -10 < x) (hy : -x = y) (hsz : S.size ≤ 100)
    (CALL : Hid (∀ W, Calls Tryd.prog 24 #[.int .i64 y] W fun e w' => e = .returned (.string S) ∧ Below W.heap.size W w')) : Calls Tryd.prog 24 #[.int .i64 x] w fun e w' => e = .returned (.string ⟨(45 :: S.data.toList).toArray⟩) ∧ Below w.heap.size w w' := by
  have q1 : IntKind.i64.wrap y = y := w64 (by omega) (by omega)
  have q2 : ¬ 0 ≤ x := by omega
  go_enter Tryd.func24, Tryd.ntmps24
  go_wp2_with fail
  refine (CALL.out _).mono ?_
  rintro e w1 ⟨rfl, hb1⟩
  go_wp2_with fail
  go_ret
  exact ⟨ret_str (by simp), hb1⟩

set_option maxHeartbeats 1000000 in
set_option maxRecDepth 100000 in
theorem digits_pos (x Q R : Int) (S1 S2 : ByteArray) (w : World) (h0 : 0 ≤ x) (h1 : ¬ x < 10) (hQ : IntKind.i64.wrap (x.tdiv 10) = Q) (hR : x % 10 = R) (hp : ¬ R < 0) (hs1 : S1.size ≤ 100) (hs2 : S2.size ≤ 100)
    (CALL1 : Hid (∀ W, Calls Tryd.prog 24 #[.int .i64 Q] W fun e w' => e = .returned (.string S1) ∧ Below W.heap.size W w'))
    (CALL2 : Hid (∀ W, Calls Tryd.prog 24 #[.int .i64 R] W fun e w' => e = .returned (.string S2) ∧ Below W.heap.size W w')) :
    Calls Tryd.prog 24 #[.int .i64 x] w fun e w' => e = .returned (.string ⟨(S1.data.toList ++ S2.data.toList).toArray⟩) ∧ Below w.heap.size w w' := by
  have h2 : ¬ x < 0 := by omega
  go_enter Tryd.func24, Tryd.ntmps24
  go_wp2_with fail
  refine (CALL1.out _).mono ?_
  rintro e w1 ⟨rfl, hb1⟩
  go_wp2_with fail
  refine (CALL2.out _).mono ?_
  rintro e w2 ⟨rfl, hb2⟩
  go_wp2_with fail
  go_ret
  exact ⟨ret_str (by simp), hb1.trans (hb2.mono hb1.size)⟩

set_option maxHeartbeats 1000000 in
set_option maxRecDepth 100000 in
theorem digits_neg0 (x Q : Int) (S1 S2 : ByteArray) (w : World) (h0 : x < 0) (h1 : ¬ -10 < x) (hQ : IntKind.i64.wrap (x.tdiv 10) = Q) (hR : x.tmod 10 = 0) (hs1 : S1.size ≤ 100) (hs2 : S2.size ≤ 100)
    (CALL1 : Hid (∀ W, Calls Tryd.prog 24 #[.int .i64 Q] W fun e w' => e = .returned (.string S1) ∧ Below W.heap.size W w'))
    (CALL2 : Hid (∀ W, Calls Tryd.prog 24 #[.int .i64 0] W fun e w' => e = .returned (.string S2) ∧ Below W.heap.size W w')) :
    Calls Tryd.prog 24 #[.int .i64 x] w fun e w' => e = .returned (.string ⟨(S1.data.toList ++ S2.data.toList).toArray⟩) ∧ Below w.heap.size w w' := by
  have h2 : ¬ 0 ≤ x := by omega
  go_enter Tryd.func24, Tryd.ntmps24
  go_wp2_with fail
  refine (CALL1.out _).mono ?_
  rintro e w1 ⟨rfl, hb1⟩
  go_wp2_with fail
  refine (CALL2.out _).mono ?_
  rintro e w2 ⟨rfl, hb2⟩
  go_wp2_with fail
  go_ret
  exact ⟨ret_str (by simp), hb1.trans (hb2.mono hb1.size)⟩

set_option maxHeartbeats 1000000 in
set_option maxRecDepth 100000 in
theorem digits_neg (x Q R R' : Int) (S1 S2 : ByteArray) (w : World) (h0 : x < 0) (h1 : ¬ -10 < x) (hQ : IntKind.i64.wrap (x.tdiv 10) = Q) (hR : x.tmod 10 = R) (hp : R < 0) (hN : wrap64 (-R) = R') (hs1 : S1.size ≤ 100) (hs2 : S2.size ≤ 100)
    (CALL1 : Hid (∀ W, Calls Tryd.prog 24 #[.int .i64 Q] W fun e w' => e = .returned (.string S1) ∧ Below W.heap.size W w'))
    (CALL2 : Hid (∀ W, Calls Tryd.prog 24 #[.int .i64 R'] W fun e w' => e = .returned (.string S2) ∧ Below W.heap.size W w')) :
    Calls Tryd.prog 24 #[.int .i64 x] w fun e w' => e = .returned (.string ⟨(S1.data.toList ++ S2.data.toList).toArray⟩) ∧ Below w.heap.size w w' := by
  have h2 : ¬ 0 ≤ x := by omega
  go_enter Tryd.func24, Tryd.ntmps24
  go_wp2_with fail
  refine (CALL1.out _).mono ?_
  rintro e w1 ⟨rfl, hb1⟩
  go_wp2_with fail
  refine (CALL2.out _).mono ?_
  rintro e w2 ⟨rfl, hb2⟩
  go_wp2_with fail
  go_ret
  exact ⟨ret_str (by simp), hb1.trans (hb2.mono hb1.size)⟩

theorem itoa_nat (n : Nat) : Lib.itoa (n : Int) = Lib.decDigits n := by unfold Lib.itoa; rw [if_neg (by omega), Int.toNat_natCast]
theorem itoa_neg (n : Nat) (h : 0 < n) : Lib.itoa (-(n : Int)) = 45 :: Lib.decDigits n := by unfold Lib.itoa; rw [if_pos (by omega)]; simp
theorem decDigits_more {n : Nat} (h : ¬ n < 10) : Lib.decDigits n = Lib.decDigits (n / 10) ++ Lib.decDigits (n % 10) := by
  rw [Lib.decDigits_one (show n % 10 < 10 by omega)]
  conv => lhs; rw [Lib.decDigits, dif_neg h]
theorem dig_size (x : Int) (h0 : -9223372036854775808 ≤ x) (h1 : x ≤ 9223372036854775807) : (⟨(Lib.itoa x).toArray⟩ : ByteArray).size ≤ 100 := by
  have := Lib.itoa_length_le x h0 h1
  simp [ByteArray.size]
  omega

/-- Digits. -/
theorem Digits_any : ∀ (m : Nat) (x : Int), x.natAbs = m → -9223372036854775808 ≤ x → x ≤ 9223372036854775807 → ∀ w : World, Calls Tryd.prog 24 #[.int .i64 x] w fun e w' => e = .returned (.string ⟨(Lib.itoa x).toArray⟩) ∧ Below w.heap.size w w' := by
  intro m
  induction m using Nat.strongRecOn with
  | _ m ih =>
    intro x hm h0 h1 w
    rcases Int.lt_or_le x 0 with hx | hx
    · obtain ⟨n, rfl⟩ : ∃ n : Nat, x = -(n : Int) := ⟨x.natAbs, by omega⟩
      have hmn : n = m := by omega
      subst hmn
      by_cases h10 : n < 10
      · have := digits_minus (-(n : Int)) n ⟨(Lib.itoa (n : Int)).toArray⟩ w hx (by omega) (by omega) (dig_size _ (by omega) (by omega)) (Lib.hid fun W => digits_one n W h10)
        rw [itoa_neg n (by omega)]
        simpa [itoa_nat] using this
      · have hd : (-(n : Int)).tdiv 10 = -((n / 10 : Nat) : Int) := by rw [Int.neg_tdiv, Int.tdiv_eq_ediv_of_nonneg (by omega)]; simp
        have hr : (-(n : Int)).tmod 10 = -((n % 10 : Nat) : Int) := by rw [Int.neg_tmod, Int.tmod_eq_emod_of_nonneg (by omega)]; simp
        have e : Lib.itoa (-(n : Int)) = Lib.itoa (-((n / 10 : Nat) : Int)) ++ Lib.itoa ((n % 10 : Nat) : Int) := by
          rw [itoa_neg n (by omega), itoa_neg _ (by omega), itoa_nat, decDigits_more h10]; rfl
        have C1 := ih (n / 10) (by omega) (-((n / 10 : Nat) : Int)) (by omega) (by omega) (by omega)
        have C2 := ih (n % 10) (by omega) ((n % 10 : Nat) : Int) (by omega) (by omega) (by omega)
        have s1 := dig_size (-((n / 10 : Nat) : Int)) (by omega) (by omega)
        have s2 := dig_size ((n % 10 : Nat) : Int) (by omega) (by omega)
        rw [e]
        by_cases hz : n % 10 = 0
        · rw [hz] at hr C2 s2 ⊢
          exact digits_neg0 _ _ ⟨(Lib.itoa (-((n / 10 : Nat) : Int))).toArray⟩ ⟨(Lib.itoa 0).toArray⟩ w hx (by omega) (by rw [hd]; exact w64 (by omega) (by omega)) (by rw [hr]; rfl) s1 s2 (Lib.hid C1) (Lib.hid C2)
        · exact digits_neg _ _ (-((n % 10 : Nat) : Int)) _ ⟨(Lib.itoa (-((n / 10 : Nat) : Int))).toArray⟩ ⟨(Lib.itoa ((n % 10 : Nat) : Int)).toArray⟩ w hx (by omega) (by rw [hd]; exact w64 (by omega) (by omega)) hr (by omega) (by rw [Int.neg_neg, ← IntKind.wrap_i64_eq]; exact w64 (by omega) (by omega)) s1 s2 (Lib.hid C1) (Lib.hid C2)
    · obtain ⟨n, rfl⟩ : ∃ n : Nat, x = (n : Int) := ⟨x.natAbs, by omega⟩
      have hmn : n = m := by omega
      subst hmn
      by_cases h10 : n < 10
      · exact digits_one n w h10
      · have hd : ((n : Int)).tdiv 10 = ((n / 10 : Nat) : Int) := by rw [Int.tdiv_eq_ediv_of_nonneg (by omega)]; simp
        have hr : (n : Int) % 10 = ((n % 10 : Nat) : Int) := by simp
        have e : Lib.itoa (n : Int) = Lib.itoa ((n / 10 : Nat) : Int) ++ Lib.itoa ((n % 10 : Nat) : Int) := by
          rw [itoa_nat, itoa_nat, itoa_nat, decDigits_more h10]
        have C1 := ih (n / 10) (by omega) ((n / 10 : Nat) : Int) (by omega) (by omega) (by omega)
        have C2 := ih (n % 10) (by omega) ((n % 10 : Nat) : Int) (by omega) (by omega) (by omega)
        have s1 := dig_size ((n / 10 : Nat) : Int) (by omega) (by omega)
        have s2 := dig_size ((n % 10 : Nat) : Int) (by omega) (by omega)
        rw [e]
        exact digits_pos _ _ _ ⟨(Lib.itoa ((n / 10 : Nat) : Int)).toArray⟩ ⟨(Lib.itoa ((n % 10 : Nat) : Int)).toArray⟩ w hx (by omega) (by rw [hd]; exact w64 (by omega) (by omega)) hr (by omega) s1 s2 (Lib.hid C1) (Lib.hid C2)
end Go.Proofs.YtijibjdgnaphiaaDoor
