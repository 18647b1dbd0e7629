/- The document's Steps once more, with the room of what is answered. -/
import Derived.Test.YtijibjdgnaphiaaDoorRsteps
import Derived.Test.YtijibjdgnaphiaaDoorPstepsc
import Derived.Test.YtijibjdgnaphiaaDoorPclone
namespace Go.Proofs.YtijibjdgnaphiaaDoor
open Go.ChangeShapes Go.WideShapes Go.Deep Go.RowKit Go.Lib

set_option maxHeartbeats 1600000 in
set_option maxRecDepth 100000 in
theorem rSteps_cap (s : ByteArray) (w : World) (hs : s.size ≤ 2000) : Calls Tryd.prog 27 #[.string s] w (StepsCap s w) := by
  have hz : s.data.toList.length = s.size := by simp
  obtain ⟨i0, hi, hz0, hz1, hz2⟩ := info_parts info9
  have HZ := Lib.hid hz
  clear hz
  go_enter Tryd.func27, Tryd.ntmps27
  go_wp2_with fail
  go_loopg [4, 5, 6] (s.size + 1) (fun g out av iv wr => ∃ (i a : Nat) (ns : List ByteArray), i + g = s.size + 1 ∧ iv = .int .i64 (i : Int) ∧ av = .int .i64 (a : Int) ∧ a ≤ i ∧ wr.ownsRow w.heap.size 9 1 out ns.length (ns.map Value.string) ∧ Below w.heap.size w wr ∧
    ns.length ≤ 4 ∧ ns.all stepB = true ∧ Scan s.data.toList a i ns)
  case atStart => exact ⟨0, 0, [], by omega, rfl, rfl, Nat.le_refl _, World.ownsRow_nil _ _ _ _, Below.refl _ _, by simp, rfl, scan_start _⟩
  case round =>
    obtain ⟨i, a, ns, hg, rfl, rfl, hai, hown, hb, h4, hall, hscan⟩ := hrel
    obtain ⟨na, cap, rfl⟩ := ownsRow_slice hown
    have HG := Lib.hid hg
    have HALL := Lib.hid hall
    have HSCAN := Lib.hid hscan
    clear hg hall hscan
    by_cases hle : i ≤ s.size
    · by_cases hon : i < s.size ∧ s.data.toList[i]? ≠ some 46
      · obtain ⟨hlt, hne⟩ := hon
        have hb1 : s.data.toList[i]? = some s[i] := by
          rw [List.getElem?_eq_getElem (by rw [HZ.out]; exact hlt)]; rfl
        have hc : s[i] ≠ 46 := fun e => hne (by rw [hb1, e])
        have hN := Lib.hid (scan_on HSCAN.out hai hb1 hc)
        have h46 : ((s[i].toNat : Int) == 46) = false := by
          simp only [beq_eq_false_iff_ne, ne_eq]
          intro e
          exact hc (UInt8.toNat_inj.1 (by simpa using (show s[i].toNat = 46 by omega)))
        have h46' : ((s[i].toNat : Int) != 46) = true := by simpa using h46
        clear hne hb1 hc
        go_wp2_with fail
        go_roundg (gk - 1)
        case measure => have := HG.out; omega
        case rel => exact ⟨i + 1, a, ns, by have := HG.out; omega, by go_num, rfl, by omega, hown, hb, h4, HALL.out, hN.out⟩
      · have hend : i = s.size ∨ s.data.toList[i]? = some 46 := by
          by_cases h1 : i < s.size
          · by_cases h2 : s.data.toList[i]? = some 46
            · exact .inr h2
            · exact absurd ⟨h1, h2⟩ hon
          · exact .inl (by omega)
        obtain ⟨rest, hd, hnext⟩ := scan_piece HSCAN.out hai hle hend
        have hst := stepB_eq (s.extract a i)
        have hysz : (s.extract a i).size = i - a := by simp; omega
        rw [hysz] at hst
        have HD := Lib.hid hd
        have HNEXT := Lib.hid hnext
        have CALL := Lib.hid (fun W => Valid_any (s.extract a i) W (by omega))
        obtain ⟨V, hV⟩ : ∃ V, validD (s.extract a i).data.toList = V := ⟨_, rfl⟩
        rw [hV] at hst CALL
        have hle' : (i : Int) ≤ (s.size : Int) := by omega
        have hai' : (a : Int) ≤ (i : Int) := by omega
        have hsub : IntKind.i64.wrap ((i : Int) - (a : Int)) = (i : Int) - (a : Int) := IntWalk.i64_in _ (by omega)
        have HSUB := Lib.hid hsub
        have HYSZ := Lib.hid hysz
        clear hon hd hnext hV hsub hysz
        have ends : (¬ (i : Int) < (s.size : Int)) ∨ ∃ h : i < s.size, ((s[i].toNat : Int) == 46) = true := by
          rcases hend with he | he
          · exact .inl (by omega)
          · right
            obtain ⟨h1, h2⟩ := List.getElem?_eq_some_iff.1 he
            refine ⟨by rw [HZ.out] at h1; exact h1, ?_⟩
            have : s[i] = 46 := h2
            simp [this]
        clear hend
        by_cases hia : i = a
        · have hno : stepB (s.extract a i) = false := by
            rw [hst]
            have : (s.extract a i).toList = [] := by
              rw [ByteArray.toList_eq, ← List.length_eq_zero_iff]
              have := HYSZ.out
              simp; omega
            rw [this]; rfl
          have HNO := Lib.hid (steps_bad HD.out hno)
          have hia' : ((i : Int) == (a : Int)) = true := by simpa using (show (i : Int) = (a : Int) by omega)
          clear hno hst hia
          rcases ends with hn | ⟨hlt, h46⟩
          · go_wp2_with fail
            go_ret2
            exact ⟨hb, .inl ⟨HNO.out, rfl⟩⟩
          · have h46' : ((s[i].toNat : Int) != 46) = false := by simpa using h46
            go_wp2_with fail
            go_ret2
            exact ⟨hb, .inl ⟨HNO.out, rfl⟩⟩
        · have hia' : ((i : Int) == (a : Int)) = false := by simpa using (show ¬ (i : Int) = (a : Int) by omega)
          have hne : (s.extract a i).toList.isEmpty = false := by
            rw [ByteArray.toList_eq]
            have h1 : (s.extract a i).data.toList.length = i - a := by rw [Array.length_toList]; exact HYSZ.out
            cases h2 : (s.extract a i).data.toList with
            | nil => rw [h2] at h1; simp at h1; omega
            | cons => rfl
          rw [hne, Bool.not_false, Bool.true_and] at hst
          clear hne
          by_cases h60 : i - a ≤ 60
          · rw [decide_eq_true h60, Bool.true_and] at hst
            have HST := Lib.hid hst
            have h60' : (i : Int) - (a : Int) ≤ 60 := by omega
            clear hst
            by_cases hl4 : ns.length = 4
            · have HNO := Lib.hid (steps_many HD.out (by simpa using hl4))
              have hl4' : ((ns.length : Int) == 4) = true := by simp only [beq_iff_eq]; omega
              clear hl4 h4
              rcases ends with hn | ⟨hlt, h46⟩
              · go_wp2_with fail
                go_ret2
                exact ⟨hb, .inl ⟨HNO.out, rfl⟩⟩
              · have h46' : ((s[i].toNat : Int) != 46) = false := by simpa using h46
                go_wp2_with fail
                go_ret2
                exact ⟨hb, .inl ⟨HNO.out, rfl⟩⟩
            · have hl4' : ((ns.length : Int) == 4) = false := by simp only [beq_eq_false_iff_ne, ne_eq]; omega
              cases V
              · have HNO := Lib.hid (steps_bad HD.out HST.out)
                rcases ends with hn | ⟨hlt, h46⟩
                · go_wp2_with (go_at_call 44; refine (CALL.out _).mono ?_; rintro e w2 ⟨rfl, hb2⟩)
                  go_ret2
                  exact ⟨hb.trans (hb2.mono hb.size), .inl ⟨HNO.out, rfl⟩⟩
                · have h46' : ((s[i].toNat : Int) != 46) = false := by simpa using h46
                  go_wp2_with (go_at_call 44; refine (CALL.out _).mono ?_; rintro e w2 ⟨rfl, hb2⟩)
                  go_ret2
                  exact ⟨hb.trans (hb2.mono hb.size), .inl ⟨HNO.out, rfl⟩⟩
              · rcases ends with hn | ⟨hlt, h46⟩
                · go_wp2_with fail
                  refine (CALL.out _).mono ?_
                  rintro e w2 ⟨rfl, hb2⟩
                  have hown2 := ownsRow_later hown hb2
                  have hbb := hb.trans (hb2.mono hb.size)
                  have hbs := hbb.size
                  go_wp2_with (at_builtin; refine wpList_append_own _ rfl _ _ 22 rfl w.heap.size 9 i0 (.string ⟨#[]⟩) 1 16 Tryd.underlying22 hi hz0 hz1 hz2 rfl (by decide) _ _ _ rfl (hown2.alloc _) ⟨w2.heap.size, 0, none⟩ 1 1 [.string (s.extract a i)] rfl rfl ?c1 ?c2 ?c3 ?c4 ?c5 ?_)
                  case c1 =>
                    intro j u hj
                    match j, hj with
                    | 0, hj => simp at hj; subst hj; simp [Addr.add]
                  case c2 => intro u hu; simp at hu; subst hu; rfl
                  case c3 => unfold maxLen; omega
                  case c4 => omega
                  case c5 => simp; omega
                  intro v' w3 hown3 hgrow _
                  have hb3 : Below w.heap.size w w3 := (hbb.alloc hbs _).grown hgrow (by simp; omega) (fun k hk => (hown2.lt k hk).1)
                  obtain ⟨na3, cap3, rfl⟩ := ownsRow_slice hown3
                  clear hgrow hown2 hbb
                  go_wp2_with fail
                  go_roundg (gk - 1)
                  case measure => have := HG.out; omega
                  case rel => exact ⟨i + 1, i + 1, ns ++ [s.extract a i], by have := HG.out; omega, by go_num, by go_num, Nat.le_refl _, by simpa using hown3, hb3, by simp; omega, by rw [List.all_append, HALL.out]; simpa using HST.out, HNEXT.out⟩
                · have h46' : ((s[i].toNat : Int) != 46) = false := by simpa using h46
                  go_wp2_with fail
                  refine (CALL.out _).mono ?_
                  rintro e w2 ⟨rfl, hb2⟩
                  have hown2 := ownsRow_later hown hb2
                  have hbb := hb.trans (hb2.mono hb.size)
                  have hbs := hbb.size
                  go_wp2_with (at_builtin; refine wpList_append_own _ rfl _ _ 22 rfl w.heap.size 9 i0 (.string ⟨#[]⟩) 1 16 Tryd.underlying22 hi hz0 hz1 hz2 rfl (by decide) _ _ _ rfl (hown2.alloc _) ⟨w2.heap.size, 0, none⟩ 1 1 [.string (s.extract a i)] rfl rfl ?c1 ?c2 ?c3 ?c4 ?c5 ?_)
                  case c1 =>
                    intro j u hj
                    match j, hj with
                    | 0, hj => simp at hj; subst hj; simp [Addr.add]
                  case c2 => intro u hu; simp at hu; subst hu; rfl
                  case c3 => unfold maxLen; omega
                  case c4 => omega
                  case c5 => simp; omega
                  intro v' w3 hown3 hgrow _
                  have hb3 : Below w.heap.size w w3 := (hbb.alloc hbs _).grown hgrow (by simp; omega) (fun k hk => (hown2.lt k hk).1)
                  obtain ⟨na3, cap3, rfl⟩ := ownsRow_slice hown3
                  clear hgrow hown2 hbb
                  go_wp2_with fail
                  go_roundg (gk - 1)
                  case measure => have := HG.out; omega
                  case rel => exact ⟨i + 1, i + 1, ns ++ [s.extract a i], by have := HG.out; omega, by go_num, by go_num, Nat.le_refl _, by simpa using hown3, hb3, by simp; omega, by rw [List.all_append, HALL.out]; simpa using HST.out, HNEXT.out⟩
          · have hno : stepB (s.extract a i) = false := by rw [hst, decide_eq_false h60]; simp
            have HNO := Lib.hid (steps_bad HD.out hno)
            have h60' : ¬ (i : Int) - (a : Int) ≤ 60 := by omega
            clear hno hst h60
            rcases ends with hn | ⟨hlt, h46⟩
            · go_wp2_with fail
              go_ret2
              exact ⟨hb, .inl ⟨HNO.out, rfl⟩⟩
            · have h46' : ((s[i].toNat : Int) != 46) = false := by simpa using h46
              go_wp2_with fail
              go_ret2
              exact ⟨hb, .inl ⟨HNO.out, rfl⟩⟩
    · have hdone := scan_done HSCAN.out (by rw [HZ.out]; omega)
      have hle' : ¬ (i : Int) ≤ (s.size : Int) := by omega
      have HDONE := Lib.hid hdone
      clear hdone
      go_wp2_with fail
      go_ret2
      exact ⟨hb, .inr ⟨_, _, ns, steps_good HDONE.out (by simpa using h4) (by rw [all_map]; exact HALL.out), rfl, ownsRow_names hown, ownsRow_from hown, (ownsRow_caps hown).1⟩⟩
end Go.Proofs.YtijibjdgnaphiaaDoor
