/- The program is awake: what the statements' own call answers; and whether two keys are alike; no condition but that lengths fit a machine's. -/
import Derived.Test.YtfakpgfbpngfpaaWrite
import Derived.Test.YtfakpgfbpngfpaaBsame
import Derived.Lib.SlBytesConst
namespace Go.Proofs.Ytfakpgfbpngfpaa
open Go.ChangeShapes Go.WideShapes Go.Deep Go.RowKit Go.Lib

theorem stampR_awake : stampR 1 [97] 5 = [1, 97, 0, 0, 255, 255, 255, 255, 255, 255, 255, 250] := by
  unfold stampR
  rw [if_pos (by decide)]
  decide

set_option maxHeartbeats 2000000 in
set_option maxRecDepth 100000 in
theorem awake_any (w : World) : Calls Try.prog 8 #[] w fun e w' => e = .returned (.bool true) ∧ Below w.heap.size w w' := by
  have hin : BytesIn (w.alloc (.cells #[.int .u8 97] 5 (1, 2))) (some ⟨w.heap.size, 0, none⟩) [97] := .inr ⟨w.heap.size, 0, rfl, fun j hj => by
    have e : j = 0 := by simp at hj; exact hj
    subst e
    rw [Lib.cell_of_heap (heap_alloc_new w _)]
    rfl⟩
  have hb0 : Below w.heap.size w (w.alloc (.cells #[.int .u8 97] 5 (1, 2))) := (Below.refl _ _).alloc (Nat.le_refl _) _
  have CALL := Write_any (some ⟨w.heap.size, 0, none⟩) 1 [97] 1 5 (w.alloc (.cells #[.int .u8 97] 5 (1, 2))) hin (by decide) (by decide)
  rw [stampR_awake, show errK 1 ([97] : List UInt8).length = 0 from by decide] at CALL
  unfold WriteGave at CALL
  have CALL2 := Lib.hid CALL
  have hcv : (convert 22 22 (.slice (some ⟨w.heap.size, 0, none⟩) 1 1)).run Try.prog (w.alloc (.cells #[.int .u8 97] 5)) = .ok (.slice (some ⟨w.heap.size, 0, none⟩) 1 1) (w.alloc (.cells #[.int .u8 97] 5 (1, 2))) := run_convert_bytes_const w 22 5 #[.int .u8 97] 1 1 Try.underlying22 Try.underlying5
  have HB0 := Lib.hid hb0
  clear CALL hin hb0
  go_enter Try.func8, Try.ntmps8
  go_wp2_with fail
  refine (CALL2.out).mono ?_
  rintro e w1 ⟨na, cap, rfl, hi, -, hb⟩
  obtain ⟨b, o, rfl, h⟩ := hi.resolve_left (by simp)
  have c0 : w1.cell? ⟨b, o + 11, none⟩ = some (.int .u8 250) := h 11 (by simp)
  have HB := Lib.hid (HB0.out.trans (hb.mono HB0.out.size))
  clear hi h hb
  go_wp2_with fail
  go_ret
  exact ⟨rfl, HB.out⟩

set_option maxHeartbeats 2000000 in
set_option maxRecDepth 100000 in
theorem same_any (sp sp' : Int) (t t' : Nat) (na nb : Option Addr) (ca cb : Nat) (l l' : List UInt8) (w : World) (ha : BytesIn w na l) (hb : BytesIn w nb l') (hla : l.length ≤ 9223372036854775807) (hlb : l'.length ≤ 9223372036854775807) :
    Calls Try.prog 14 #[.agg #[.int .i64 sp, .slice na l.length ca, .int .u64 (t : Int)], .agg #[.int .i64 sp', .slice nb l'.length cb, .int .u64 (t' : Int)]] w fun e w' => e = .returned (.bool (decide (sp = sp' ∧ t = t' ∧ l = l'))) ∧ Below w.heap.size w w' := by
  obtain ⟨D, hD⟩ : ∃ D, decide (sp = sp' ∧ t = t' ∧ l = l') = D := ⟨_, rfl⟩
  rw [hD]
  have SAME := Lib.hid (fun W (h : Below w.heap.size w W) => sameB_any na nb ca cb l l' W (ha.below h) (hb.below h) hla hlb)
  have hb0 : Below w.heap.size w ((w.alloc (.cells #[.int .i64 sp, .slice na l.length ca, .int .u64 (t : Int)] 25)).alloc (.cells #[.int .i64 sp', .slice nb l'.length cb, .int .u64 (t' : Int)] 31)) := ((Below.refl _ _).alloc (Nat.le_refl _) _).alloc (by simp) _
  have HB0 := Lib.hid hb0
  clear ha hb hb0
  by_cases h1 : sp = sp'
  · subst h1
    by_cases h2 : t = t'
    · subst h2
      have HE : Hid (decide (l = l') = D) := Lib.hid (decide_eq_decide.2 ⟨fun h => ⟨rfl, rfl, h⟩, fun h => h.2.2⟩ |>.trans hD)
      obtain ⟨E, hE⟩ : ∃ E, decide (l = l') = E := ⟨_, rfl⟩
      rw [hE] at HE
      simp only [hE] at SAME
      clear hE hD
      go_enter Try.func14, Try.ntmps14
      go_wp2_with fail
      refine (SAME.out _ HB0.out).mono ?_
      rintro e w1 ⟨rfl, hb1⟩
      have HB1 := Lib.hid (HB0.out.trans (hb1.mono HB0.out.size))
      clear hb1
      go_wp2_with fail
      go_ret
      exact ⟨ret_bool (by rw [← HE.out]), HB1.out⟩
    · have HE : Hid (D = false) := Lib.hid (hD.symm.trans (decide_eq_false fun h => h2 h.2.1))
      have e1 : ((t : Int) == (t' : Int)) = false := by rw [beq_eq_false_iff_ne]; omega
      clear h2 hD
      go_enter Try.func14, Try.ntmps14
      go_wp2_with fail
      go_ret
      exact ⟨ret_bool (by rw [HE.out]), HB0.out⟩
  · have HE : Hid (D = false) := Lib.hid (hD.symm.trans (decide_eq_false fun h => h1 h.1))
    have e1 : (sp == sp') = false := by rw [beq_eq_false_iff_ne]; exact h1
    clear h1 hD
    go_enter Try.func14, Try.ntmps14
    go_wp2_with fail
    go_ret
    exact ⟨ret_bool (by rw [HE.out]), HB0.out⟩
end Go.Proofs.Ytfakpgfbpngfpaa
