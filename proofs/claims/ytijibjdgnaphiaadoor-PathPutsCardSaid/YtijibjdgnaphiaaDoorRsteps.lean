/- A path's steps, by the document's answer: its pieces between points, or that it is no path; for every text of at most 2000 bytes. -/
import Derived.Test.YtijibjdgnaphiaaDoorPsteps
namespace Go.Proofs.YtijibjdgnaphiaaDoor
open Go.ChangeShapes Go.WideShapes Go.Deep Go.RowKit Go.Lib

theorem ownsRow_later {w w' : World} {base : Nat} {e : TypeId} {size : Nat} {v : Value} {n : Nat} {xs : List Value} (h : w.ownsRow base e size v n xs) (hb : Below w.heap.size w w') : w'.ownsRow base e size v n xs := by
  refine ⟨h.1, ?_⟩
  rcases h.2 with hn | ⟨g, cap, cur, rfl, hb1, hgg, rest⟩
  · exact .inl hn
  · refine .inr ⟨g, cap, cur, rfl, hb1, ?_, rest⟩
    rw [hb.block g (Array.getElem?_eq_some_iff.1 hgg).1]
    exact hgg

theorem ownsRow_slice {w : World} {base : Nat} {e : TypeId} {size : Nat} {v : Value} {n : Nat} {xs : List Value} (h : w.ownsRow base e size v n xs) : ∃ na cap, v = .slice na n cap := by
  rcases h.2 with ⟨hv, h0⟩ | ⟨g, cap, cur, hv, _⟩
  · exact ⟨_, _, by rw [hv, h0]⟩
  · exact ⟨_, _, hv⟩

theorem ownsRow_names {w : World} {base : Nat} {na : Option Addr} {n cap : Nat} {ns : List ByteArray} (h : w.ownsRow base 9 1 (.slice na n cap) ns.length (ns.map Value.string)) : AV.NamesIn w na ns := by
  rcases h.2 with ⟨_, h0⟩ | ⟨g, cap, cur, hv, _, hgg, _, _, _, ht⟩
  · exact .inl (List.length_eq_zero_iff.1 h0)
  · simp only [Value.slice.injEq] at hv
    refine .inr ⟨g, 0, hv.1, fun i hi => ?_⟩
    rw [cell_of_row _ _ _ _ _ _ hgg, Nat.zero_add]
    have h1 := congrArg (·[i]?) ht
    simp only [List.getElem?_take, Nat.mul_one, if_pos hi, List.getElem?_map, List.getElem?_eq_getElem hi, Option.map_some] at h1
    rw [← h1, Array.getElem?_toList]

theorem ownsRow_from {w : World} {base : Nat} {e : TypeId} {size : Nat} {na : Option Addr} {n c : Nat} {xs : List Value} (h : w.ownsRow base e size (.slice na n c) n xs) : ∀ a, na = some a → base ≤ a.block := fun a ha => by
  rcases h.2 with ⟨hv, _⟩ | ⟨g, cap, cur, hv, hge, _⟩
  · simp only [Value.slice.injEq] at hv
    rw [hv.1] at ha
    cases ha
  · simp only [Value.slice.injEq] at hv
    rw [hv.1] at ha
    cases ha
    exact hge

/-- How far the scan has come. -/
def Scan (l : List UInt8) (a i : Nat) (ns : List ByteArray) : Prop :=
  (i ≤ l.length ∧ dots l = ns.map (·.data.toList) ++ dots (l.drop a) ∧ ∀ c ∈ (l.drop a).take (i - a), c ≠ 46) ∨ (i = l.length + 1 ∧ dots l = ns.map (·.data.toList))

theorem scan_start (l : List UInt8) : Scan l 0 0 [] := .inl ⟨Nat.zero_le _, rfl, by simp⟩

theorem scan_on {l : List UInt8} {a i : Nat} {ns : List ByteArray} (h : Scan l a i ns) (ha : a ≤ i) {c : UInt8} (hi : l[i]? = some c) (hc : c ≠ 46) : Scan l a (i + 1) ns := by
  have hlt : i < l.length := (List.getElem?_eq_some_iff.1 hi).1
  rcases h with ⟨h1, h2, h3⟩ | ⟨h1, _⟩
  · exact .inl ⟨hlt, h2, no_next ha hi hc h3⟩
  · omega

theorem piece_data (s : ByteArray) (a i : Nat) : (s.extract a i).data.toList = (s.data.toList.drop a).take (i - a) := extract_data s a i

/-- A piece's end: a point, or the text's end. -/
theorem scan_piece {s : ByteArray} {a i : Nat} {ns : List ByteArray} (h : Scan s.data.toList a i ns) (ha : a ≤ i) (hi : i ≤ s.size) (hend : i = s.size ∨ s.data.toList[i]? = some 46) :
    ∃ rest, dots s.data.toList = ns.map (·.data.toList) ++ (s.extract a i).data.toList :: rest ∧ Scan s.data.toList (i + 1) (i + 1) (ns ++ [s.extract a i]) := by
  have hz : s.data.toList.length = s.size := by simp
  rcases h with ⟨h1, h2, h3⟩ | ⟨h1, _⟩
  · rw [piece_data]
    rcases hend with he | he
    · have e := at_end (l := s.data.toList) (a := a) (i := i) (by omega) h3
      rw [e] at h2
      refine ⟨[], h2, .inr ⟨by omega, ?_⟩⟩
      rw [h2, List.map_append]
      simp
    · have hlt : i < s.data.toList.length := (List.getElem?_eq_some_iff.1 he).1
      have e := at_dot ha he h3
      rw [e] at h2
      refine ⟨_, h2, .inl ⟨hlt, ?_, no_start _ _⟩⟩
      rw [h2, List.map_append]
      simp
  · omega

theorem scan_done {l : List UInt8} {a i : Nat} {ns : List ByteArray} (h : Scan l a i ns) (hi : l.length < i) : dots l = ns.map (·.data.toList) := by
  rcases h with ⟨h1, _⟩ | ⟨_, h2⟩
  · omega
  · exact h2

theorem info9 : (Tryd.prog.info? 9).map (fun i => (i.zero, i.size, i.bytes)) = some (some (.string ⟨#[]⟩), 1, 16) := by kernel_rfl

set_option maxHeartbeats 1600000 in
set_option maxRecDepth 100000 in
theorem rSteps_any (s : ByteArray) (w : World) (hs : s.size ≤ 2000) : Calls Tryd.prog 27 #[.string s] w (StepsEnd s w) := by
  have hz : s.data.toList.length = s.size := by simp
  obtain ⟨i0, hi, hz0, hz1, hz2⟩ := info_parts info9
  have HZ := Lib.hid hz
  clear hz
  go_enter Tryd.func27, Tryd.ntmps27
  go_wp2_with fail
  go_loopg [4, 5, 6] (s.size + 1) (fun g out av iv wr => ∃ (i a : Nat) (ns : List ByteArray), i + g = s.size + 1 ∧ iv = .int .i64 (i : Int) ∧ av = .int .i64 (a : Int) ∧ a ≤ i ∧ wr.ownsRow w.heap.size 9 1 out ns.length (ns.map Value.string) ∧ Below w.heap.size w wr ∧
    ns.length ≤ 4 ∧ ns.all stepB = true ∧ Scan s.data.toList a i ns)
  case atStart => exact ⟨0, 0, [], by omega, rfl, rfl, Nat.le_refl _, World.ownsRow_nil _ _ _ _, Below.refl _ _, by simp, rfl, scan_start _⟩
  case round =>
    obtain ⟨i, a, ns, hg, rfl, rfl, hai, hown, hb, h4, hall, hscan⟩ := hrel
    obtain ⟨na, cap, rfl⟩ := ownsRow_slice hown
    have HG := Lib.hid hg
    have HALL := Lib.hid hall
    have HSCAN := Lib.hid hscan
    clear hg hall hscan
    by_cases hle : i ≤ s.size
    · by_cases hon : i < s.size ∧ s.data.toList[i]? ≠ some 46
      · obtain ⟨hlt, hne⟩ := hon
        have hb1 : s.data.toList[i]? = some s[i] := by
          rw [List.getElem?_eq_getElem (by rw [HZ.out]; exact hlt)]; rfl
        have hc : s[i] ≠ 46 := fun e => hne (by rw [hb1, e])
        have hN := Lib.hid (scan_on HSCAN.out hai hb1 hc)
        have h46 : ((s[i].toNat : Int) == 46) = false := by
          simp only [beq_eq_false_iff_ne, ne_eq]
          intro e
          exact hc (UInt8.toNat_inj.1 (by simpa using (show s[i].toNat = 46 by omega)))
        have h46' : ((s[i].toNat : Int) != 46) = true := by simpa using h46
        clear hne hb1 hc
        go_wp2_with fail
        go_roundg (gk - 1)
        case measure => have := HG.out; omega
        case rel => exact ⟨i + 1, a, ns, by have := HG.out; omega, by go_num, rfl, by omega, hown, hb, h4, HALL.out, hN.out⟩
      · have hend : i = s.size ∨ s.data.toList[i]? = some 46 := by
          by_cases h1 : i < s.size
          · by_cases h2 : s.data.toList[i]? = some 46
            · exact .inr h2
            · exact absurd ⟨h1, h2⟩ hon
          · exact .inl (by omega)
        obtain ⟨rest, hd, hnext⟩ := scan_piece HSCAN.out hai hle hend
        have hst := stepB_eq (s.extract a i)
        have hysz : (s.extract a i).size = i - a := by simp; omega
        rw [hysz] at hst
        have HD := Lib.hid hd
        have HNEXT := Lib.hid hnext
        have CALL := Lib.hid (fun W => Valid_any (s.extract a i) W (by omega))
        obtain ⟨V, hV⟩ : ∃ V, validD (s.extract a i).data.toList = V := ⟨_, rfl⟩
        rw [hV] at hst CALL
        have hle' : (i : Int) ≤ (s.size : Int) := by omega
        have hai' : (a : Int) ≤ (i : Int) := by omega
        have hsub : IntKind.i64.wrap ((i : Int) - (a : Int)) = (i : Int) - (a : Int) := IntWalk.i64_in _ (by omega)
        have HSUB := Lib.hid hsub
        have HYSZ := Lib.hid hysz
        clear hon hd hnext hV hsub hysz
        have ends : (¬ (i : Int) < (s.size : Int)) ∨ ∃ h : i < s.size, ((s[i].toNat : Int) == 46) = true := by
          rcases hend with he | he
          · exact .inl (by omega)
          · right
            obtain ⟨h1, h2⟩ := List.getElem?_eq_some_iff.1 he
            refine ⟨by rw [HZ.out] at h1; exact h1, ?_⟩
            have : s[i] = 46 := h2
            simp [this]
        clear hend
        by_cases hia : i = a
        · have hno : stepB (s.extract a i) = false := by
            rw [hst]
            have : (s.extract a i).toList = [] := by
              rw [ByteArray.toList_eq, ← List.length_eq_zero_iff]
              have := HYSZ.out
              simp; omega
            rw [this]; rfl
          have HNO := Lib.hid (steps_bad HD.out hno)
          have hia' : ((i : Int) == (a : Int)) = true := by simpa using (show (i : Int) = (a : Int) by omega)
          clear hno hst hia
          rcases ends with hn | ⟨hlt, h46⟩
          · go_wp2_with fail
            go_ret2
            exact ⟨hb, .inl ⟨HNO.out, rfl⟩⟩
          · have h46' : ((s[i].toNat : Int) != 46) = false := by simpa using h46
            go_wp2_with fail
            go_ret2
            exact ⟨hb, .inl ⟨HNO.out, rfl⟩⟩
        · have hia' : ((i : Int) == (a : Int)) = false := by simpa using (show ¬ (i : Int) = (a : Int) by omega)
          have hne : (s.extract a i).toList.isEmpty = false := by
            rw [ByteArray.toList_eq]
            have h1 : (s.extract a i).data.toList.length = i - a := by rw [Array.length_toList]; exact HYSZ.out
            cases h2 : (s.extract a i).data.toList with
            | nil => rw [h2] at h1; simp at h1; omega
            | cons => rfl
          rw [hne, Bool.not_false, Bool.true_and] at hst
          clear hne
          by_cases h60 : i - a ≤ 60
          · rw [decide_eq_true h60, Bool.true_and] at hst
            have HST := Lib.hid hst
            have h60' : (i : Int) - (a : Int) ≤ 60 := by omega
            clear hst
            by_cases hl4 : ns.length = 4
            · have HNO := Lib.hid (steps_many HD.out (by simpa using hl4))
              have hl4' : ((ns.length : Int) == 4) = true := by simp only [beq_iff_eq]; omega
              clear hl4 h4
              rcases ends with hn | ⟨hlt, h46⟩
              · go_wp2_with fail
                go_ret2
                exact ⟨hb, .inl ⟨HNO.out, rfl⟩⟩
              · have h46' : ((s[i].toNat : Int) != 46) = false := by simpa using h46
                go_wp2_with fail
                go_ret2
                exact ⟨hb, .inl ⟨HNO.out, rfl⟩⟩
            · have hl4' : ((ns.length : Int) == 4) = false := by simp only [beq_eq_false_iff_ne, ne_eq]; omega
              cases V
              · have HNO := Lib.hid (steps_bad HD.out HST.out)
                rcases ends with hn | ⟨hlt, h46⟩
                · go_wp2_with (go_at_call 44; refine (CALL.out _).mono ?_; rintro e w2 ⟨rfl, hb2⟩)
                  go_ret2
                  exact ⟨hb.trans (hb2.mono hb.size), .inl ⟨HNO.out, rfl⟩⟩
                · have h46' : ((s[i].toNat : Int) != 46) = false := by simpa using h46
                  go_wp2_with (go_at_call 44; refine (CALL.out _).mono ?_; rintro e w2 ⟨rfl, hb2⟩)
                  go_ret2
                  exact ⟨hb.trans (hb2.mono hb.size), .inl ⟨HNO.out, rfl⟩⟩
              · rcases ends with hn | ⟨hlt, h46⟩
                · go_wp2_with fail
                  refine (CALL.out _).mono ?_
                  rintro e w2 ⟨rfl, hb2⟩
                  have hown2 := ownsRow_later hown hb2
                  have hbb := hb.trans (hb2.mono hb.size)
                  have hbs := hbb.size
                  go_wp2_with (at_builtin; refine wpList_append_own _ rfl _ _ 22 rfl w.heap.size 9 i0 (.string ⟨#[]⟩) 1 16 Tryd.underlying22 hi hz0 hz1 hz2 rfl (by decide) _ _ _ rfl (hown2.alloc _) ⟨w2.heap.size, 0, none⟩ 1 1 [.string (s.extract a i)] rfl rfl ?c1 ?c2 ?c3 ?c4 ?c5 ?_)
                  case c1 =>
                    intro j u hj
                    match j, hj with
                    | 0, hj => simp at hj; subst hj; simp [Addr.add]
                  case c2 => intro u hu; simp at hu; subst hu; rfl
                  case c3 => unfold maxLen; omega
                  case c4 => omega
                  case c5 => simp; omega
                  intro v' w3 hown3 hgrow _
                  have hb3 : Below w.heap.size w w3 := (hbb.alloc hbs _).grown hgrow (by simp; omega) (fun k hk => (hown2.lt k hk).1)
                  obtain ⟨na3, cap3, rfl⟩ := ownsRow_slice hown3
                  clear hgrow hown2 hbb
                  go_wp2_with fail
                  go_roundg (gk - 1)
                  case measure => have := HG.out; omega
                  case rel => exact ⟨i + 1, i + 1, ns ++ [s.extract a i], by have := HG.out; omega, by go_num, by go_num, Nat.le_refl _, by simpa using hown3, hb3, by simp; omega, by rw [List.all_append, HALL.out]; simpa using HST.out, HNEXT.out⟩
                · have h46' : ((s[i].toNat : Int) != 46) = false := by simpa using h46
                  go_wp2_with fail
                  refine (CALL.out _).mono ?_
                  rintro e w2 ⟨rfl, hb2⟩
                  have hown2 := ownsRow_later hown hb2
                  have hbb := hb.trans (hb2.mono hb.size)
                  have hbs := hbb.size
                  go_wp2_with (at_builtin; refine wpList_append_own _ rfl _ _ 22 rfl w.heap.size 9 i0 (.string ⟨#[]⟩) 1 16 Tryd.underlying22 hi hz0 hz1 hz2 rfl (by decide) _ _ _ rfl (hown2.alloc _) ⟨w2.heap.size, 0, none⟩ 1 1 [.string (s.extract a i)] rfl rfl ?c1 ?c2 ?c3 ?c4 ?c5 ?_)
                  case c1 =>
                    intro j u hj
                    match j, hj with
                    | 0, hj => simp at hj; subst hj; simp [Addr.add]
                  case c2 => intro u hu; simp at hu; subst hu; rfl
                  case c3 => unfold maxLen; omega
                  case c4 => omega
                  case c5 => simp; omega
                  intro v' w3 hown3 hgrow _
                  have hb3 : Below w.heap.size w w3 := (hbb.alloc hbs _).grown hgrow (by simp; omega) (fun k hk => (hown2.lt k hk).1)
                  obtain ⟨na3, cap3, rfl⟩ := ownsRow_slice hown3
                  clear hgrow hown2 hbb
                  go_wp2_with fail
                  go_roundg (gk - 1)
                  case measure => have := HG.out; omega
                  case rel => exact ⟨i + 1, i + 1, ns ++ [s.extract a i], by have := HG.out; omega, by go_num, by go_num, Nat.le_refl _, by simpa using hown3, hb3, by simp; omega, by rw [List.all_append, HALL.out]; simpa using HST.out, HNEXT.out⟩
          · have hno : stepB (s.extract a i) = false := by rw [hst, decide_eq_false h60]; simp
            have HNO := Lib.hid (steps_bad HD.out hno)
            have h60' : ¬ (i : Int) - (a : Int) ≤ 60 := by omega
            clear hno hst h60
            rcases ends with hn | ⟨hlt, h46⟩
            · go_wp2_with fail
              go_ret2
              exact ⟨hb, .inl ⟨HNO.out, rfl⟩⟩
            · have h46' : ((s[i].toNat : Int) != 46) = false := by simpa using h46
              go_wp2_with fail
              go_ret2
              exact ⟨hb, .inl ⟨HNO.out, rfl⟩⟩
    · have hdone := scan_done HSCAN.out (by rw [HZ.out]; omega)
      have hle' : ¬ (i : Int) ≤ (s.size : Int) := by omega
      have HDONE := Lib.hid hdone
      clear hdone
      go_wp2_with fail
      go_ret2
      exact ⟨hb, .inr ⟨_, _, ns, steps_good HDONE.out (by simpa using h4) (by rw [all_map]; exact HALL.out), rfl, ownsRow_names hown, ownsRow_from hown⟩⟩
end Go.Proofs.YtijibjdgnaphiaaDoor
