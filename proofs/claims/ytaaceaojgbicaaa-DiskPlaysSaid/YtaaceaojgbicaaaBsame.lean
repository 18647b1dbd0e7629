/- Two rows of bytes held against each other by the document: what the call answers; under Go's own limit of length. -/
import Derived.Test.YtaaceaojgbicaaaWof
import Derived.Deep.QuietTactic
import Derived.Lib.QuietBelow
import Derived.BigQuiet
namespace Go.Proofs.Ytaaceaojgbicaaa
open Go.ChangeShapes Go.WideShapes Go.Deep Go.RowKit Go.Lib

theorem cell_kept2 {w w' : World} {p : Addr} {v : Value} (hb : Below w.heap.size w w') (h : w.cell? p = some v) : w'.cell? p = some v := by
  rw [hb.cell (World.block_lt_of_cell? w _ h)]; exact h

theorem take_next {a b : List UInt8} {j : Nat} (ha : j < a.length) (hb : j < b.length) (h : a.take j = b.take j) (he : a[j] = b[j]) : a.take (j + 1) = b.take (j + 1) := by
  rw [List.take_succ_eq_append_getElem ha, List.take_succ_eq_append_getElem hb, h, he]

set_option maxHeartbeats 4000000 in
set_option maxRecDepth 100000 in
theorem sameB_any (na nb : Option Addr) (ca cb : Nat) (a b : List UInt8) (w : World) (ha : BytesIn w na a) (hb : BytesIn w nb b) (hla : a.length ≤ 9223372036854775807) (_hlb : b.length ≤ 9223372036854775807) :
    Calls Try.prog 23 #[.slice na a.length ca, .slice nb b.length cb] w fun e w' => e = .returned (.bool (decide (a = b))) ∧ Below w.heap.size w w' := by
  by_cases hl : b.length = a.length
  rotate_left
  · rw [decide_eq_false (fun e => hl (by rw [e]))]
    have e1 : ((a.length : Int) == (b.length : Int)) = false := by rw [beq_eq_false_iff_ne]; omega
    have e2 : ((a.length : Int) != (b.length : Int)) = true := by simp; omega
    clear hl ha hb
    go_enter Try.func23, Try.ntmps23
    go_wp2_with fail
    go_ret
    exact ⟨rfl, Below.refl _ _⟩
  rw [hl]
  have HL := Lib.hid hl
  have HA := Lib.hid ha
  have HBB := Lib.hid hb
  clear hl ha hb
  go_enter Try.func23, Try.ntmps23
  go_wp2_with fail
  go_loopg [5] a.length (fun g i wr => ∃ j : Nat, j + g = a.length ∧ i = .int .i64 (j : Int) ∧ a.take j = b.take j ∧ Below w.heap.size w wr)
  case atStart => exact ⟨0, by omega, rfl, rfl, Below.refl _ _⟩
  case round =>
    obtain ⟨j, hj, rfl, htake, hb⟩ := hrel
    have HJ := Lib.hid hj
    have HTAKE := Lib.hid htake
    clear hj htake
    by_cases hlt : j < a.length
    · have hltb : j < b.length := by have := HL.out; omega
      obtain ⟨ba, oa, rfl, ha⟩ := (HA.out).resolve_left (by intro e; rw [e] at hlt; simp at hlt)
      obtain ⟨bb, ob, rfl, hbb⟩ := (HBB.out).resolve_left (by intro e; rw [e] at hltb; simp at hltb)
      have c1 := cell_kept2 hb (ha j hlt)
      have c2 := cell_kept2 hb (hbb j hltb)
      have d1 := fun d os => cell_regrown c1 d os
      have d2 := fun d os => cell_regrown c2 d os
      obtain ⟨x, hx⟩ : ∃ x, a[j] = x := ⟨_, rfl⟩
      obtain ⟨y, hy⟩ : ∃ y, b[j] = y := ⟨_, rfl⟩
      rw [hx] at c1 d1
      rw [hy] at c2 d2
      have HX := Lib.hid hx
      have HY := Lib.hid hy
      clear hx hy ha hbb
      by_cases hxy : x = y
      · subst hxy
        have HN := Lib.hid (take_next hlt hltb HTAKE.out (HX.out.trans HY.out.symm))
        go_wp2_with fail
        go_quiet (fail)
        go_wp2_with fail
        go_roundg (gk - 1)
        case measure => have := HJ.out; omega
        case rel => exact ⟨j + 1, by have := HJ.out; omega, by go_num, HN.out, hb.trans ⟨rfl, rfl, rfl, Nat.le_refl _, fun _ _ => rfl⟩⟩
      · have e0 : x.toNat ≠ y.toNat := fun e => hxy (UInt8.toNat_inj.1 e)
        have e1 : ((x.toNat : Int) == (y.toNat : Int)) = false := by rw [beq_eq_false_iff_ne]; omega
        have e2 : ((x.toNat : Int) != (y.toNat : Int)) = true := by simp; omega
        have HD : Hid (decide (a = b) = false) := Lib.hid (decide_eq_false fun e => hxy (by rw [← HX.out, ← HY.out]; simp only [e]))
        clear hxy
        go_wp2_with fail
        go_quiet (fail)
        go_wp2_with fail
        go_ret
        exact ⟨ret_bool HD.out.symm, hb.trans ⟨rfl, rfl, rfl, Nat.le_refl _, fun _ _ => rfl⟩⟩
    · have HD : Hid (decide (a = b) = true) := Lib.hid (decide_eq_true (by
        have h := HTAKE.out
        rw [List.take_of_length_le (by omega), List.take_of_length_le (by have := HL.out; omega)] at h
        exact h))
      go_wp2_with fail
      go_ret
      exact ⟨ret_bool HD.out.symm, hb⟩
end Go.Proofs.Ytaaceaojgbicaaa
