/- A step's place in a value, by the document's answer. -/
import Derived.Test.YtijibjdgnaphiaaDoorPfindv
import Derived.Test.YtijibjdgnaphiaaDoorRsteps
namespace Go.Proofs.YtijibjdgnaphiaaDoor
open Go.ChangeShapes Go.WideShapes Go.Deep Go.RowKit Go.Lib

/-- What the document's calls tell: -1, where there is none. -/
def numI : Option Nat → Int
  | some u => u
  | none => -1

theorem num_plain {l : List UInt8} (h0 : l ≠ []) (h4 : l.length ≤ 4) (hz : l.length = 1 ∨ l.head? ≠ some 48) : numL l = match Lib.parseUintM 4294967295 0 l with | .ok u => some u | _ => none := by
  unfold numL Lib.parseUintB
  rw [if_neg h0, show (2 ^ 32 - 1 : Nat) = 4294967295 from rfl]
  have hc : l.length ≤ 4 ∧ (l = [48] ∨ l.head? ≠ some 48) := by
    refine ⟨h4, ?_⟩
    rcases hz with h1 | h1
    · match l, h1 with
      | [c], _ =>
        by_cases hc : c = 48
        · exact .inl (by rw [hc])
        · exact .inr (by simpa using hc)
    · exact .inr h1
  cases Lib.parseUintM 4294967295 0 l <;> simp [hc]

theorem num_long {l : List UInt8} (h : ¬ l.length ≤ 4) : numL l = none := by
  unfold numL
  cases Lib.parseUintB 32 l <;> simp [h]

theorem num_lead {l : List UInt8} (h1 : 1 < l.length) (h2 : l.head? = some 48) : numL l = none := by
  unfold numL
  have : ¬ (l = [48] ∨ l.head? ≠ some 48) := by
    rintro (h | h)
    · rw [h] at h1; simp at h1
    · exact h h2
  cases Lib.parseUintB 32 l <;> simp [this]

set_option maxHeartbeats 800000 in
set_option maxRecDepth 100000 in
theorem rnumber_any (p : ByteArray) (w : World) (hs : p.size ≤ 2000) : Calls Tryd.prog 71 #[.string p] w fun e w' => e = .returned (.int .i64 (numI (numL p.data.toList))) ∧ Below w.heap.size w w' := by
  have hz : p.data.toList.length = p.size := by simp
  by_cases h0 : p.size = 0
  · have hn : numL p.data.toList = none := by
      rw [show p.data.toList = [] from List.length_eq_zero_iff.1 (by omega)]; rfl
    have e0 : ((p.size : Int) == 0) = true := by simpa using h0
    rw [hn]
    clear hn hz h0
    go_enter Tryd.func71, Tryd.ntmps71
    go_wp2_with fail
    go_ret
    exact ⟨rfl, Below.refl _ _⟩
  · have e0 : ((p.size : Int) == 0) = false := by simpa using h0
    have h00 : 0 < p.size := by omega
    by_cases h4 : p.size ≤ 4
    · have hh : p.data.toList.head? = some (p[0]'h00) := by
        rw [List.head?_eq_getElem?, List.getElem?_eq_getElem (by rw [hz]; omega)]; rfl
      have h4' : (p.size : Int) ≤ 4 := by omega
      by_cases hl : 1 < p.size ∧ (p[0]'h00) = 48
      · have hn : numL p.data.toList = none := num_lead (by rw [hz]; exact hl.1) (by rw [hh, hl.2])
        have e1 : (1 : Int) < (p.size : Int) := by omega
        have e2 : (((p[0]'h00).toNat : Int) == 48) = true := by rw [hl.2]; rfl
        rw [hn]
        clear hn hz hh
        go_enter Tryd.func71, Tryd.ntmps71
        go_wp2_with fail
        go_ret
        exact ⟨rfl, Below.refl _ _⟩
      · have hn := num_plain (l := p.data.toList) (by intro e; rw [e] at hz; simp at hz; omega) (by omega) (by
          by_cases h1 : p.size = 1
          · left; omega
          · right
            rw [hh]
            intro e
            exact hl ⟨by omega, Option.some.inj e⟩)
        have ends : (¬ (1 : Int) < (p.size : Int)) ∨ ((1 : Int) < (p.size : Int) ∧ (((p[0]'h00).toNat : Int) == 48) = false) := by
          by_cases h1 : p.size = 1
          · left; omega
          · right
            refine ⟨by omega, ?_⟩
            simp only [beq_eq_false_iff_ne, ne_eq]
            intro e
            exact hl ⟨by omega, UInt8.toNat_inj.1 (by simpa using (show (p[0]'h00).toNat = 48 by omega))⟩
        obtain ⟨R, hR⟩ : ∃ R, Lib.parseUintM 4294967295 0 p.data.toList = R := ⟨_, rfl⟩
        rw [hR] at hn
        obtain ⟨A, hA⟩ : ∃ A, numL p.data.toList = A := ⟨_, rfl⟩
        rw [hA] at hn ⊢
        have HN := Lib.hid hn
        have HR := Lib.hid hR
        have HZ := Lib.hid hz
        clear hn hR hA hz hh hl
        rcases ends with g1 | ⟨g1, g2⟩
        all_goals
          go_enter Tryd.func71, Tryd.ntmps71
          go_wp2_with fail
          go_loopg [3, 4] p.size (fun g nv iv wr => ∃ j acc : Nat, j + g = p.size ∧ iv = .int .i64 (j : Int) ∧ nv = .int .i64 (acc : Int) ∧ acc < 10 ^ j ∧ Lib.parseUintM 4294967295 acc (p.data.toList.drop j) = R ∧ Below w.heap.size w wr)
          case atStart => exact ⟨0, 0, by omega, rfl, rfl, by decide, HR.out, Below.refl _ _⟩
          case round =>
            obtain ⟨j, acc, hj, rfl, rfl, hacc, hrest, hb⟩ := hrel
            have HJ := Lib.hid hj
            have HREST := Lib.hid hrest
            have HACC := Lib.hid hacc
            have hpow : acc ≤ 9999 := by
              have h5 : 10 ^ j ≤ 10 ^ 4 := Nat.pow_le_pow_right (by decide) (by omega)
              omega
            clear hj hrest hacc
            by_cases hlt : j < p.size
            · have hd : p.data.toList.drop j = p[j] :: p.data.toList.drop (j + 1) := by
                rw [List.drop_eq_getElem_cons (by rw [HZ.out]; exact hlt)]; rfl
              have hst := HREST.out
              rw [hd, Lib.parseUintM] at hst
              obtain ⟨c, hc⟩ : ∃ c, p[j].toNat = c := ⟨_, rfl⟩
              rw [hc] at hst
              have HC := Lib.hid hc
              by_cases hdig : 48 ≤ c ∧ c ≤ 57
              · rw [if_pos hdig, if_neg (by omega), if_neg (by omega)] at hst
                have HST := Lib.hid hst
                obtain ⟨q1, q2⟩ := hdig
                have q1' : (48 : Int) ≤ (p[j].toNat : Int) := by omega
                have q2' : (p[j].toNat : Int) ≤ 57 := by omega
                have q3 : (0 : Int) ≤ (acc : Int) := by omega
                have q4 : (acc : Int) ≤ 9999 := by omega
                clear hst hd hc
                go_wp2_with fail
                go_roundg (gk - 1)
                case measure => have := HJ.out; omega
                case rel =>
                  refine ⟨j + 1, acc * 10 + (c - 48), by have := HJ.out; omega, by go_num, ?_, ?_, HST.out, hb⟩
                  · have := HC.out
                    refine int_eq ?_
                    omega
                  · have := HACC.out
                    rw [Nat.pow_succ]
                    omega
              · rw [if_neg hdig] at hst
                have hno : A = none := by rw [HN.out, ← hst]
                subst hno
                have hbad : (p[j].toNat : Int) < 48 ∨ (¬ (p[j].toNat : Int) < 48 ∧ ¬ (p[j].toNat : Int) ≤ 57) := by omega
                clear hst hd hc hdig
                rcases hbad with q1 | ⟨q1, q2⟩
                · go_wp2_with fail
                  go_ret
                  exact ⟨rfl, hb⟩
                · go_wp2_with fail
                  go_ret
                  exact ⟨rfl, hb⟩
            · have hst := HREST.out
              rw [List.drop_eq_nil_of_le (by rw [HZ.out]; omega), Lib.parseUintM] at hst
              have hyes : A = some acc := by rw [HN.out, ← hst]
              subst hyes
              clear hst
              go_wp2_with fail
              go_ret
              exact ⟨rfl, hb⟩
    · have hn : numL p.data.toList = none := num_long (by rw [hz]; exact h4)
      have h4' : ¬ (p.size : Int) ≤ 4 := by omega
      rw [hn]
      clear hn hz
      go_enter Tryd.func71, Tryd.ntmps71
      go_wp2_with fail
      go_ret
      exact ⟨rfl, Below.refl _ _⟩

theorem str_eq_true {x y : ByteArray} (h : x = y) : (x.toList == y.toList) = true := by rw [h]; simp
theorem str_eq_no {x y : ByteArray} (h : x ≠ y) : (x.toList == y.toList) = false := by
  rw [beq_eq_false_iff_ne]
  intro e
  rw [ByteArray.toList_eq, ByteArray.toList_eq] at e
  exact h (ByteArray.ext (Array.ext' e))

set_option maxHeartbeats 800000 in
set_option maxRecDepth 100000 in
theorem rplace_any (t : AV) (p : ByteArray) (w : World) (hin : t.In w) (h2 : p.size ≤ 2000) (lv : Nat) (hf : AV.formedJ t lv = true) : Calls Tryd.prog 47 #[t.val, .string p] w fun e w' => e = .returned (.int .i64 (numI (t.place p))) ∧ Below w.heap.size w w' := by
  obtain ⟨k, n, s, na, nc, ns, xa, xc, xs⟩ := t
  have hx := formed_len hf
  by_cases h6 : k = 6
  · subst h6
    obtain ⟨hr, hln⟩ := formed_names hf
    have hin' := hin
    rw [AV.In] at hin'
    have hnin := hin'.2.2.2.2.2.2.2.2.1
    have hl : ns.length ≤ 24 := by omega
    have hpl : (AV.mk 6 n s na nc ns xa xc xs).place p = idxOf ns p := by rw [AV.place, if_pos rfl]
    rw [hpl]
    have HR := Lib.hid hr
    have HIN := Lib.hid hnin
    simp only [AV.val, AV.row]
    clear hin hin' hnin hf hpl hr hln hx
    go_enter Tryd.func47, Tryd.ntmps47
    go_wp2_with fail
    go_loopg [6] ns.length (fun g iv wr => ∃ j : Nat, j + g = ns.length ∧ iv = .int .i64 (j : Int) ∧ (∀ i (hi : i < ns.length), i < j → ns[i] ≠ p) ∧ Below w.heap.size w wr ∧ wr.cell? ⟨w.heap.size, 3, none⟩ = some (.slice na ns.length nc))
    case atStart => exact ⟨0, by omega, rfl, fun i _ h => absurd h (Nat.not_lt_zero _), (Below.refl _ _).alloc (Nat.le_refl _) _, by simp⟩
    case round =>
      obtain ⟨j, hj, rfl, hno, hb, hc3⟩ := hrel
      have HJ := Lib.hid hj
      have HNO := Lib.hid hno
      clear hj hno
      by_cases hlt : j < ns.length
      · obtain ⟨b, o, rfl, hit⟩ := (HIN.out).resolve_left (by intro e; rw [e] at hlt; simp at hlt)
        have hc : wr.cell? ⟨b, o + j, none⟩ = some (.string ns[j]) := by rw [hb.cell (World.block_lt_of_cell? w _ (hit j hlt))]; exact hit j hlt
        by_cases he : ns[j] = p
        · have hh := idx_hit HR.out hlt he
          have HH := Lib.hid hh
          rw [he] at hc
          clear hh he hit
          go_wp2_with fail
          go_ret
          exact ⟨by rw [HH.out]; rfl, hb⟩
        · have hne := str_eq_no he
          have HNE := Lib.hid (show ∀ i (hi : i < ns.length), i < j + 1 → ns[i] ≠ p from fun i hi h => by
            by_cases e : i = j
            · subst e; exact he
            · exact HNO.out i hi (by omega))
          obtain ⟨y, hy⟩ : ∃ y, ns[j] = y := ⟨_, rfl⟩
          rw [hy] at hc hne
          clear he hit hy
          go_wp2_with fail
          go_roundg (gk - 1)
          case measure => have := HJ.out; omega
          case rel => exact ⟨j + 1, by have := HJ.out; omega, by go_num, HNE.out, hb, hc3⟩
      · have hn : idxOf ns p = none := idx_none fun i hi => HNO.out i hi (by have := HJ.out; omega)
        have HN := Lib.hid hn
        clear hn
        go_wp2_with fail
        go_ret
        exact ⟨by rw [HN.out]; rfl, hb⟩
  · have h6a : (k == 6) = false := by simpa using h6
    by_cases h5 : k = 5
    · subst h5
      have CALL := Lib.hid (fun W => rnumber_any p W h2)
      have hpl : (AV.mk 5 n s na nc ns xa xc xs).place p = match numL p.data.toList with | some u => if u < xs.length then some u else none | none => none := by
        rw [AV.place, if_neg (by decide), if_pos rfl]
        cases numL p.data.toList <;> rfl
      cases hR : numL p.data.toList with
      | none =>
        rw [hR] at CALL hpl
        have HPL := Lib.hid hpl
        simp only [numI] at CALL
        simp only [AV.val, AV.row]
        clear hin hf hpl hR
        go_enter Tryd.func47, Tryd.ntmps47
        go_wp2_with fail
        refine (CALL.out _).mono ?_
        rintro e w1 ⟨rfl, hb1⟩
        have hc4 : w1.cell? ⟨w.heap.size, 4, none⟩ = some (.slice xa xs.length xc) := cell_later (by simp) hb1
        have hb2 : Below w.heap.size w w1 := ((Below.refl w.heap.size w).alloc (Nat.le_refl _) _).trans (hb1.mono (by simp))
        have hneg : (-1 : Int) < (xs.length : Int) := by omega
        clear hb1
        go_wp2_with fail
        go_ret
        exact ⟨by rw [HPL.out]; rfl, hb2⟩
      | some u =>
        rw [hR] at CALL hpl
        simp only [] at hpl
        have HPL := Lib.hid hpl
        simp only [numI] at CALL
        simp only [AV.val, AV.row]
        clear hin hf hpl hR
        go_enter Tryd.func47, Tryd.ntmps47
        go_wp2_with fail
        refine (CALL.out _).mono ?_
        rintro e w1 ⟨rfl, hb1⟩
        have hc4 : w1.cell? ⟨w.heap.size, 4, none⟩ = some (.slice xa xs.length xc) := cell_later (by simp) hb1
        have hc0 : w1.cell? ⟨w.heap.size, 0, none⟩ = some (.int .i64 5) := cell_later (by simp) hb1
        have hb2 : Below w.heap.size w w1 := ((Below.refl w.heap.size w).alloc (Nat.le_refl _) _).trans (hb1.mono (by simp))
        clear hb1
        by_cases hu : u < xs.length
        · go_wp2_with fail
          go_ret
          exact ⟨by rw [HPL.out, if_pos hu]; rfl, hb2⟩
        · go_wp2_with fail
          go_ret
          exact ⟨by rw [HPL.out, if_neg hu]; rfl, hb2⟩
    · have h5a : (k == 5) = false := by simpa using h5
      have hpl : (AV.mk k n s na nc ns xa xc xs).place p = none := by simp [AV.place, h5, h6]
      rw [hpl]
      simp only [AV.val, AV.row]
      clear hin hf hpl
      go_enter Tryd.func47, Tryd.ntmps47
      go_wp2_with fail
      go_ret
      exact ⟨rfl, (Below.refl _ _).alloc (Nat.le_refl _) _⟩
end Go.Proofs.YtijibjdgnaphiaaDoor
