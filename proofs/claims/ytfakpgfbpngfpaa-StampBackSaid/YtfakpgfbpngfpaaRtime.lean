/- What the program reads as a time: of eight bytes; no condition of ours. -/
import Derived.Test.YtfakpgfbpngfpaaRname
namespace Go.Proofs.Ytfakpgfbpngfpaa
open Go.ChangeShapes Go.WideShapes Go.Deep Go.RowKit Go.Lib

theorem ret_u64 {a b : Int} (h : a = b) : Ending.returned (.int .u64 a) = .returned (.int .u64 b) := by rw [h]

theorem numL_take {l : List UInt8} {j : Nat} (h : j < l.length) : numL (l.take (j + 1)) = numL (l.take j) * 256 + l[j].toNat := by
  rw [List.take_succ_eq_append_getElem h, numL_snoc]

theorem numL_take_lt {l : List UInt8} {j : Nat} (h : j < 8) : numL (l.take j) < 72057594037927936 := by
  have h1 : ∀ (k : Nat) (q : List UInt8), q.length = k → k ≤ 7 → numL q < 72057594037927936 := fun k q hq hk =>
    Nat.lt_of_lt_of_le (numL_lt k q hq) (by have : (256 : Nat) ^ k ≤ 256 ^ 7 := Nat.pow_le_pow_right (by decide) hk; exact this)
  exact h1 _ _ rfl (by rw [List.length_take]; omega)

set_option maxHeartbeats 2000000 in
set_option maxRecDepth 100000 in
theorem readTime_any (na : Option Addr) (cap : Nat) (l : List UInt8) (w : World) (hin : BytesIn w na l) (h8 : l.length = 8) :
    Calls Try.prog 28 #[.slice na 8 cap] w fun e w' => e = .returned (.int .u64 ((18446744073709551615 - numL l : Nat) : Int)) ∧ w = w' := by
  obtain ⟨b, o, rfl, hat⟩ := hin.resolve_left (by intro e; rw [e] at h8; cases h8)
  have H8 := Lib.hid h8
  have HAT := Lib.hid hat
  clear hat hin h8
  go_enter Try.func28, Try.ntmps28
  go_wp2_with fail
  go_loopg [3, 8] 8 (fun g x i wr => wr = w ∧ ∃ j : Nat, j + g = 8 ∧ i = .int .i64 (j : Int) ∧ x = .int .u64 (numL (l.take j) : Int))
  case atStart => exact ⟨rfl, 0, by omega, rfl, by simp [numL]⟩
  case round =>
    obtain ⟨rfl, j, hj, rfl, rfl⟩ := hrel
    by_cases h1 : j < 8
    · have hjl : j < l.length := by have := H8.out; omega
      have hc := HAT.out j hjl
      have hn := numL_take hjl
      have hlt := numL_take_lt (l := l) h1
      obtain ⟨c, hcc⟩ : ∃ c, l[j] = c := ⟨_, rfl⟩
      rw [hcc] at hc hn
      obtain ⟨y, hy⟩ : ∃ y, numL (l.take j) = y := ⟨_, rfl⟩
      rw [hy] at hn hlt ⊢
      have HN := Lib.hid hn
      have HLT := Lib.hid hlt
      have HC := Lib.hid c.toNat_lt
      have HJ := Lib.hid hj
      clear hn hlt hcc hy hj
      go_wp2_with fail
      go_roundg (gk - 1)
      case measure => have := HJ.out; omega
      case rel =>
        refine ⟨rfl, j + 1, by have := HJ.out; omega, by go_num, ?_⟩
        rw [HN.out]
        have h1 := HLT.out
        have h2 := HC.out
        congr 1
        show (((y : Int) * 256) % 18446744073709551616 + (c.toNat : Int) % 18446744073709551616) % 18446744073709551616 = _
        omega
    · obtain rfl : j = 8 := by omega
      rw [List.take_of_length_le (by have := H8.out; omega)]
      have hlt : numL l < 18446744073709551616 := numL_lt 8 l H8.out
      obtain ⟨y, hy⟩ : ∃ y, numL l = y := ⟨_, rfl⟩
      rw [hy] at hlt ⊢
      have HLT := Lib.hid hlt
      have HY := Lib.hid hy
      clear hlt hy hj
      go_wp2_with fail
      go_ret
      refine ⟨ret_u64 ?_, rfl⟩
      have := HLT.out
      rw [HY.out]
      first
        | omega
        | (show ((18446744073709551615 : Int) - (y : Int)) % 18446744073709551616 = _; omega)
end Go.Proofs.Ytfakpgfbpngfpaa
