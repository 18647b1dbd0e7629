/- Two keys compared by the program: what the calls answer; no condition but that lengths fit a machine's. -/
import Derived.Test.YtfakpgfbpngfpaaWrite
import Derived.Deep.RegionHeldLaw
import Derived.Lib.BytesEntry
import Derived.Deep.Cut
namespace Go.Proofs.Ytfakpgfbpngfpaa
open Go.ChangeShapes Go.WideShapes Go.Deep Go.RowKit Go.Lib

theorem run_bytesOf {w : World} {na : Option Addr} {c : Nat} {l : List UInt8} (h : BytesIn w na l) : (Extern.Bytes.bytesOf (.slice na l.length c)).run Try.prog w = .ok ⟨l.toArray⟩ w := by
  rcases h with rfl | ⟨b, o, rfl, h⟩
  · cases na with
    | none => rfl
    | some a => rfl
  · have hx := run_loadBytesX (P := Try.prog) w (l.map fun x => (x.toNat : Int)) ⟨b, o, none⟩ .empty (fun j x hx => by
      rw [List.getElem?_map] at hx
      obtain ⟨c', hc', rfl⟩ := Option.map_eq_some_iff.1 hx
      obtain ⟨hj, hx'⟩ := List.getElem?_eq_some_iff.1 hc'
      rw [WideShapes.add_plain, h j hj, hx'])
    rw [List.length_map] at hx
    show (Extern.Bytes.loadBytes ⟨b, o, none⟩ l.length .empty).run Try.prog w = _
    rw [hx]
    congr 1
    have e : Lib.bytesOf (l.map fun x => (x.toNat : Int)) = l := by simp [Lib.bytesOf, Function.comp_def]
    rw [e]
    apply ByteArray.ext
    show (#[] : Array UInt8) ++ l.toArray = l.toArray
    simp

theorem run_compare {w : World} {na nb : Option Addr} {ca cb : Nat} {a b : List UInt8} (ha : BytesIn w na a) (hb : BytesIn w nb b) : (Extern.BytealgCompare.compare #[.slice na a.length ca, .slice nb b.length cb]).run Try.prog w = .ok (.int .i64 (compareBytes a b)) w := by
  change Sem.run Try.prog (do pure (goInt (Extern.BytealgCompare.cmp (← Extern.Bytes.bytesOf (.slice na a.length ca)) (← Extern.Bytes.bytesOf (.slice nb b.length cb))))) w = _
  simp only [Sem.run_bind, Sem.run_pure, Result.andThen, run_bytesOf ha, run_bytesOf hb]
  rw [cmp_eq]
  rfl

set_option maxHeartbeats 1000000 in
theorem bytesCompare_any (na nb : Option Addr) (ca cb : Nat) (a b : List UInt8) (w : World) (ha : BytesIn w na a) (hb : BytesIn w nb b) : Calls Try.prog 31 #[.slice na a.length ca, .slice nb b.length cb] w fun e w' => e = .returned (.int .i64 (compareBytes a b)) ∧ w = w' := by
  have HR := run_compare (ca := ca) (cb := cb) ha hb
  have HR2 := Lib.hid HR
  clear HR ha hb
  go_enter Try.func31, Try.ntmps31
  go_wp2_with fail
  rw [run_callFunc_extern Try.func34 (by kernel_rfl) (by kernel_rfl) (by kernel_rfl) (e := Extern.BytealgCompare.compare) (by kernel_rfl), HR2.out]
  simp only [Result.andThen]
  rw [Oper.upon_value]
  go_wp2_with fail
  go_ret
  exact ⟨rfl, rfl⟩

set_option maxHeartbeats 1000000 in
theorem isNaNi_any (x : Int) (w : World) : Calls Try.prog 33 #[.int .i64 x] w fun e w' => e = .returned (.bool false) ∧ w = w' := by
  go_enter Try.func33, Try.ntmps33
  go_wp2_with fail
  go_ret
  exact ⟨by simp, rfl⟩

set_option maxHeartbeats 1000000 in
theorem isNaNu_any (x : Int) (w : World) : Calls Try.prog 35 #[.int .u64 x] w fun e w' => e = .returned (.bool false) ∧ w = w' := by
  go_enter Try.func35, Try.ntmps35
  go_wp2_with fail
  go_ret
  exact ⟨by simp, rfl⟩

set_option maxHeartbeats 2000000 in
theorem cmpI_any (x y : Int) (w : World) : Calls Try.prog 30 #[.int .i64 x, .int .i64 y] w fun e w' => e = .returned (.int .i64 (compareInt x y)) ∧ w = w' := by
  obtain ⟨C, hC⟩ : ∃ C, compareInt x y = C := ⟨_, rfl⟩
  rw [hC]
  have HC := Lib.hid hC
  clear hC
  by_cases h1 : x < y
  · have HV : Hid (C = -1) := Lib.hid (by rw [← HC.out]; exact cmpI_lt h1)
    go_enter Try.func30, Try.ntmps30
    go_wp2_with ((with_reducible refine (isNaNi_any _ _).mono ?_); rintro e w' ⟨rfl, rfl⟩)
    go_ret
    exact ⟨ret_i64 HV.out.symm, rfl⟩
  · by_cases h2 : y < x
    · have HV : Hid (C = 1) := Lib.hid (by rw [← HC.out]; exact cmpI_gt h2)
      go_enter Try.func30, Try.ntmps30
      go_wp2_with ((with_reducible refine (isNaNi_any _ _).mono ?_); rintro e w' ⟨rfl, rfl⟩)
      go_ret
      exact ⟨ret_i64 HV.out.symm, rfl⟩
    · have HV : Hid (C = 0) := Lib.hid (by rw [← HC.out]; exact cmpI_zero.2 (by omega))
      go_enter Try.func30, Try.ntmps30
      go_wp2_with ((with_reducible refine (isNaNi_any _ _).mono ?_); rintro e w' ⟨rfl, rfl⟩)
      go_ret
      exact ⟨ret_i64 HV.out.symm, rfl⟩

set_option maxHeartbeats 2000000 in
theorem cmpU_any (x y : Nat) (w : World) : Calls Try.prog 32 #[.int .u64 (x : Int), .int .u64 (y : Int)] w fun e w' => e = .returned (.int .i64 (compareInt x y)) ∧ w = w' := by
  obtain ⟨C, hC⟩ : ∃ C, compareInt (x : Int) (y : Int) = C := ⟨_, rfl⟩
  rw [hC]
  have HC := Lib.hid hC
  clear hC
  by_cases h1 : x < y
  · have HV : Hid (C = -1) := Lib.hid (by rw [← HC.out]; exact cmpI_lt (by omega))
    go_enter Try.func32, Try.ntmps32
    go_wp2_with ((with_reducible refine (isNaNu_any _ _).mono ?_); rintro e w' ⟨rfl, rfl⟩)
    go_ret
    exact ⟨ret_i64 HV.out.symm, rfl⟩
  · by_cases h2 : y < x
    · have HV : Hid (C = 1) := Lib.hid (by rw [← HC.out]; exact cmpI_gt (by omega))
      go_enter Try.func32, Try.ntmps32
      go_wp2_with ((with_reducible refine (isNaNu_any _ _).mono ?_); rintro e w' ⟨rfl, rfl⟩)
      go_ret
      exact ⟨ret_i64 HV.out.symm, rfl⟩
    · have HV : Hid (C = 0) := Lib.hid (by rw [← HC.out]; exact cmpI_zero.2 (by omega))
      go_enter Try.func32, Try.ntmps32
      go_wp2_with ((with_reducible refine (isNaNu_any _ _).mono ?_); rintro e w' ⟨rfl, rfl⟩)
      go_ret
      exact ⟨ret_i64 HV.out.symm, rfl⟩

/-- The first that is not 0. -/
def orL : List Int → Int
  | [] => 0
  | a :: l => lexI a (orL l)

set_option maxHeartbeats 2000000 in
theorem or_any (b : Nat) (l : List Int) (w : World) (hl : l.length = 3) (hc : ∀ j (h : j < l.length), w.cell? ⟨b, j, none⟩ = some (.int .i64 l[j])) :
    Calls Try.prog 29 #[.slice (some ⟨b, 0, none⟩) 3 3] w fun e w' => e = .returned (.int .i64 (orL l)) ∧ w = w' := by
  obtain ⟨C, hC⟩ : ∃ C, orL l = C := ⟨_, rfl⟩
  rw [hC]
  have HC := Lib.hid hC
  have HCELL := Lib.hid hc
  have HL := Lib.hid hl
  clear hC hc hl
  go_enter Try.func29, Try.ntmps29
  go_wp2_with fail
  go_loopg [8] 3 (fun g i wr => wr = w ∧ ∃ j : Nat, j + g = 3 ∧ i = .int .i64 (j : Int) ∧ orL (l.drop j) = C)
  case atStart => exact ⟨rfl, 0, by omega, rfl, HC.out⟩
  case round =>
    obtain ⟨rfl, j, hj, rfl, hrest⟩ := hrel
    by_cases h1 : j < 3
    · have hjl : j < l.length := by have := HL.out; omega
      have c0 := HCELL.out j hjl
      rw [List.drop_eq_getElem_cons hjl, orL] at hrest
      obtain ⟨x, hx⟩ : ∃ x, l[j] = x := ⟨_, rfl⟩
      rw [hx] at c0 hrest
      have HREST := Lib.hid hrest
      have HJ := Lib.hid hj
      clear hrest hj hx
      by_cases hx0 : x = 0
      · subst hx0
        go_wp2_with fail
        go_roundg (gk - 1)
        case measure => have := HJ.out; omega
        case rel => exact ⟨rfl, j + 1, by have := HJ.out; omega, by go_num, by rw [← HREST.out, lexI_of rfl]⟩
      · have e1 : (x == 0) = false := by rw [beq_eq_false_iff_ne]; exact hx0
        have e2 : (x != 0) = true := by rw [bne, e1]; rfl
        have HV : Hid (x = C) := Lib.hid (by rw [← HREST.out, lexI_at hx0])
        clear hx0
        go_wp2_with fail
        go_ret
        exact ⟨ret_i64 HV.out, rfl⟩
    · have HV : Hid (C = 0) := Lib.hid (by rw [← hrest, List.drop_eq_nil_of_le (by have := HL.out; omega), orL])
      clear hrest
      go_wp2_with fail
      go_ret
      exact ⟨ret_i64 HV.out.symm, rfl⟩

/-- How two keys are ordered. -/
def cmpK (sp : Int) (l : List UInt8) (t : Nat) (sp' : Int) (l' : List UInt8) (t' : Nat) : Int := lexI (compareInt sp sp') (lexI (compareBytes l l') (compareInt (t' : Int) (t : Int)))

end Go.Proofs.Ytfakpgfbpngfpaa
