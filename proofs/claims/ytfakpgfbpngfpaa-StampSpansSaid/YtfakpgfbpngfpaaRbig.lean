/- A number's eight bytes by the document: what the call answers; no condition but that the number is one of the language's. -/
import Derived.Test.YtfakpgfbpngfpaaByts
namespace Go.Proofs.Ytfakpgfbpngfpaa
open Go.ChangeShapes Go.WideShapes Go.Deep Go.RowKit Go.Lib

theorem set_drop {cs : List Value} {i : Nat} {u : Value} (h : i < cs.length) : (cs.set i u).drop i = u :: cs.drop (i + 1) := by
  rw [List.drop_eq_getElem_cons (by simpa using h), List.getElem_set_self, List.drop_set_of_lt (by omega)]

theorem byte_u8 (m : Nat) : Value.int .u8 ((m : Int) % 256) :: [] = Lib.byteCells [UInt8.ofNat m] := by
  simp [Lib.byteCells]

set_option maxHeartbeats 4000000 in
set_option maxRecDepth 100000 in
theorem rBig_any (n : Nat) (w : World) (hn : n < 18446744073709551616) : Calls Try.prog 26 #[.int .u64 (n : Int)] w (Gave (bigL n) w) := by
  obtain ⟨i0, hi, hz0, hz1, hz2⟩ := info_parts infoByte
  obtain ⟨w1, hr0, hown, hg⟩ := run_make_full (P := Try.prog) w w.heap.size 22 5 i0 (.int .u8 0) 1 Try.underlying22 hi hz0 hz1 .i64 .i64 8 (by rw [hz2]; omega) (by unfold maxLen; omega) (Nat.le_refl _)
  have hr : Sem.run Try.prog (Instr.makeSlice 22 (.int .i64 8) (.int .i64 8)) w = .ok (.slice (some ⟨w.heap.size, 0, none⟩) 8 8) w1 := hr0
  have hb1 : Below w.heap.size w w1 := (Below.refl _ _).grown hg (Nat.le_refl _) (fun k e => by cases e)
  obtain ⟨cs0, hcs0⟩ : ∃ cs, (madeCells (Value.int .u8 0).cells (8 * 1)).toList = cs := ⟨_, rfl⟩
  rw [hcs0] at hown
  have HO := Lib.hid hown
  have HB1 := Lib.hid hb1
  clear hr0 hown hb1 hcs0 hg hi hz0 hz1 hz2
  go_enter Try.func26, Try.ntmps26
  go_wp2_with fail
  go_loopg [0, 4] 8 (fun g x i wr => g ≤ 8 ∧ i = .int .i64 ((g : Int) - 1) ∧ x = .int .u64 ((n / 256 ^ (8 - g) : Nat) : Int) ∧ ∃ cs : List Value, wr.ownsRow w.heap.size 5 1 (.slice (some ⟨w.heap.size, 0, none⟩) 8 8) 8 cs ∧ cs.drop g = Lib.byteCells ((bigL n).drop g) ∧ Below w.heap.size w wr)
  case atStart => exact ⟨by omega, rfl, by simp, cs0, HO.out, by rw [List.drop_eq_nil_of_le (by have := HO.out.1; omega)]; rfl, HB1.out⟩
  case round =>
    obtain ⟨hg8, rfl, rfl, cs, hown, hdrop, hb⟩ := hrel
    have HOWN := Lib.hid hown
    have HD := Lib.hid hdrop
    have hlen : cs.length = 8 := hown.1
    have HLEN := Lib.hid hlen
    clear hown hdrop hlen
    by_cases h0 : gk = 0
    · subst h0
      go_wp2_with fail
      go_ret
      refine ⟨some ⟨w.heap.size, 0, none⟩, 8, rfl, BytesIn.of (B := w.heap.size) (cap := 8) ?_, hb⟩
      have e := HD.out
      simp only [List.drop_zero] at e
      rw [← e]
      exact HOWN.out
    · obtain ⟨i, rfl⟩ : ∃ i, gk = i + 1 := ⟨gk - 1, by omega⟩
      have hi8 : i < 8 := by omega
      have e8 : 8 - (i + 1) = 7 - i := by omega
      rw [e8]
      obtain ⟨m, hm⟩ : ∃ m, n / 256 ^ (7 - i) = m := ⟨_, rfl⟩
      rw [hm]
      have hdiv : n / 256 ^ (8 - i) = m / 256 := by rw [← hm, Nat.div_div_eq_div_mul, ← Nat.pow_succ]; congr 2; omega
      have hget := bigL_get n i hi8
      rw [hm] at hget
      have HM : Hid (m < 18446744073709551616) := Lib.hid (by rw [← hm]; exact Nat.lt_of_le_of_lt (Nat.div_le_self _ _) hn)
      have HDIV := Lib.hid hdiv
      have HGET := Lib.hid hget
      have c1 : wr.cell? ⟨w.heap.size, i, none⟩ = some (cs[i]'(by have := HLEN.out; omega)) := by
        rw [HOWN.out.cellAt i (by omega), List.getElem?_eq_getElem (by have := HLEN.out; omega)]
      have f1 : wr.frozen? ⟨w.heap.size, i, none⟩ = false := HOWN.out.frozenAt i
      obtain ⟨y, hy⟩ : ∃ y, cs[i]'(by have := HLEN.out; omega) = y := ⟨_, rfl⟩
      rw [hy] at c1
      clear hm hdiv hget hy h0 e8
      go_wp2_with fail
      go_roundg i
      case measure => omega
      case rel =>
        refine ⟨by omega, by go_num, ?_, cs.set i _, (HOWN.out.stored i _).1, ?_, hb.setCell (p := ⟨w.heap.size, i, none⟩) (Nat.le_refl _) _⟩
        · rw [HDIV.out]
          have := HM.out
          congr 1
          show ((m : Int) / 256) % 18446744073709551616 = _
          omega
        · rw [set_drop (by have := HLEN.out; omega), HD.out, List.drop_eq_getElem_cons (show i < (bigL n).length from hi8), HGET.out, ← List.singleton_append (l := List.drop (i + 1) (bigL n)), Lib.byteCells_append, ← byte_u8]
          rfl
end Go.Proofs.Ytfakpgfbpngfpaa
