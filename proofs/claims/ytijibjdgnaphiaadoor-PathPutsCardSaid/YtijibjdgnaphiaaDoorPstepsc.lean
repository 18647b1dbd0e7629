/- Steps once more, with the room of what is answered. -/
import Derived.Test.YtijibjdgnaphiaaDoorLawsteps
namespace Go.Proofs.YtijibjdgnaphiaaDoor
open Go.ChangeShapes Go.WideShapes Go.Deep Go.RowKit Go.Lib

def StepsCap (s : ByteArray) (w : World) (e : Ending) (w' : World) : Prop := Below w.heap.size w w' ∧
  ((stepsOf s.data.toList = none ∧ e = .returned (.tuple #[.slice none 0 0, .int .i64 2])) ∨
    ∃ (na : Option Addr) (c : Nat) (ns : List ByteArray), stepsOf s.data.toList = some (ns.map (·.data.toList)) ∧ e = .returned (.tuple #[.slice na ns.length c, .int .i64 0]) ∧ AV.NamesIn w' na ns ∧ (∀ a, na = some a → w.heap.size ≤ a.block) ∧ ns.length ≤ c)

theorem StepsCap.told {s : ByteArray} {w : World} {e : Ending} {w' : World} (h : StepsCap s w e w') :
    ∃ na c, e = .returned (.tuple #[.slice na (stepNames s.data.toList).length c, .int .i64 (stepErr s.data.toList)]) ∧ AV.NamesIn w' na (stepNames s.data.toList) ∧ Below w.heap.size w w' ∧ (stepNames s.data.toList).length ≤ c := by
  obtain ⟨hb, ⟨h1, rfl⟩ | ⟨na, c, ns, h1, rfl, hin, _, hc⟩⟩ := h
  · refine ⟨none, 0, ?_, ?_, hb, ?_⟩
    · simp [stepNames, stepErr, h1]
    · simp [stepNames, h1, AV.NamesIn]
    · simp [stepNames, h1]
  · have e : stepNames s.data.toList = ns := by
      simp only [stepNames, h1, List.map_map]
      conv => rhs; rw [← List.map_id ns]
      exact List.map_congr_left fun b _ => ofList_data b
    refine ⟨na, c, ?_, ?_, hb, ?_⟩
    · rw [e]; simp [stepErr, h1]
    · rw [e]; exact hin
    · rw [e]; exact hc

set_option maxHeartbeats 800000 in
set_option maxRecDepth 100000 in
theorem Steps_cap (s : ByteArray) (w : World) (hs : s.size ≤ 2000) (hT : Tabs w) (hM : MaxL w) : Calls Tryd.prog 26 #[.string s] w (StepsCap s w) := by
  obtain ⟨m, hm⟩ := hM
  have CUT := Lib.hid (Tryd.strings_SplitN s ⟨#[46]⟩ 5 m w (by omega) hm (by decide) (by decide) (by decide))
  have hnl : (Lib.splitB ⟨#[46]⟩ 0 (min 5 (s.size + 1) - 1) s).length ≤ 5 := by
    have := splitB_length_le ⟨#[46]⟩ 0 (min 5 (s.size + 1) - 1) s
    omega
  obtain ⟨L, hL⟩ : ∃ L, Lib.splitB ⟨#[46]⟩ 0 (min 5 (s.size + 1) - 1) s = L := ⟨_, rfl⟩
  obtain ⟨C, hC⟩ : ∃ C, min 5 (s.size + 1) = C := ⟨_, rfl⟩
  have hcap : L.length ≤ C := by
    have h := splitB_length_le ⟨#[46]⟩ 0 (min 5 (s.size + 1) - 1) s
    rw [hL] at h
    omega
  obtain ⟨hbad, hgood⟩ := cut_tells s L hL
  rw [hL] at CUT hnl
  rw [hC] at CUT
  have NM := cells_names w 9 L C
  clear hL hC hm
  by_cases h4 : L.length ≤ 4
  · have hd := Lib.hid (hgood h4)
    clear hgood hbad
    have HT := Lib.hid hT
    have HCAP := Lib.hid hcap
    clear hT hcap
    go_enter Tryd.func26, Tryd.ntmps26
    go_wp2_with (go_at_call 42; refine CUT.out.mono ?_; rintro e w1 ⟨rfl, rfl⟩)
    have NMH := Lib.hid NM
    clear NM
    go_wp2_with fail
    go_loopg [14] L.length (fun g i wr => ∃ j : Nat, j + g = L.length ∧ i = .int .i64 (j : Int) ∧ (L.take j).all stepB = true ∧ Below (w.alloc (.cells (cellsOf L C) 9)).heap.size (w.alloc (.cells (cellsOf L C) 9)) wr)
    case atStart => exact ⟨0, by omega, rfl, rfl, Below.refl _ _⟩
    case round =>
      obtain ⟨j, hj, rfl, hall, hb⟩ := hrel
      have HJ := Lib.hid hj
      have HALL := Lib.hid hall
      have HB : Hid (Below w.heap.size w wr) := Lib.hid (((Below.refl w.heap.size w).alloc (Nat.le_refl _) _).trans (hb.mono (by simp)))
      clear hj hall
      by_cases hlt : j < L.length
      · have hne : L ≠ [] := by intro e; rw [e] at hlt; simp at hlt
        obtain ⟨b, o, hbo, hit⟩ := (NMH.out).resolve_left hne
        obtain ⟨rfl, rfl⟩ : w.heap.size = b ∧ 0 = o := by cases hbo; exact ⟨rfl, rfl⟩
        have hc1 := cell_later (hit j hlt) hb
        rw [Nat.zero_add] at hc1
        obtain ⟨y, hy⟩ : ∃ y, L[j] = y := ⟨_, rfl⟩
        have HY := Lib.hid hy
        rw [hy] at hc1
        have HBB := Lib.hid hb
        have hsz : w.heap.size < wr.heap.size := by have := hb.size; simp at this; omega
        clear hit hbo hy hb
        by_cases he : y.toList = []
        · have hno : stepB y = false := by rw [stepB_eq, he]; rfl
          have HNO := Lib.hid (bad_at hd.out hlt (by rw [HY.out]; exact hno))
          clear hno
          go_wp2_with fail
          go_ret2
          exact ⟨HB.out, .inl ⟨HNO.out, rfl⟩⟩
        · by_cases h60 : y.size ≤ 60
          · have CALL := Lib.hid (Tryd.utf8_ValidString y wr (by omega) (HT.out.later HB.out))
            have hst := stepB_eq y
            obtain ⟨V, hV⟩ : ∃ V, validD y.data.toList = V := ⟨_, rfl⟩
            rw [hV, decide_eq_true h60, Bool.and_true] at hst
            rw [hV] at CALL
            have hne1 : y.toList.isEmpty = false := by cases h : y.toList with | nil => exact absurd h he | cons => rfl
            rw [hne1, Bool.not_false, Bool.true_and] at hst
            have HST := Lib.hid hst
            clear hV hst hne
            cases V
            · have HNO := Lib.hid (bad_at hd.out hlt (by rw [HY.out]; exact HST.out))
              go_wp2_with (go_at_call 43; refine CALL.out.mono ?_; rintro e w2 ⟨rfl, hb2⟩)
              go_ret2
              exact ⟨HB.out.trans (hb2.mono (by omega)), .inl ⟨HNO.out, rfl⟩⟩
            · go_wp2_with (go_at_call 43; refine CALL.out.mono ?_; rintro e w2 ⟨rfl, hb2⟩)
              go_roundg (gk - 1)
              case measure => have := HJ.out; omega
              case rel => exact ⟨j + 1, by have := HJ.out; omega, by go_num, all_take hlt HALL.out (by rw [HY.out]; exact HST.out), HBB.out.trans (hb2.mono HBB.out.size)⟩
          · have hno : stepB y = false := by rw [stepB_eq, decide_eq_false h60]; simp
            have HNO := Lib.hid (bad_at hd.out hlt (by rw [HY.out]; exact hno))
            have h60' : ¬ (y.size : Int) ≤ 60 := by omega
            clear hno
            go_wp2_with fail
            go_ret2
            exact ⟨HB.out, .inl ⟨HNO.out, rfl⟩⟩
      · have hj : j = L.length := by have := HJ.out; omega
        have HJJ := Lib.hid hj
        have HBB := Lib.hid hb
        clear hj hb
        go_wp2_with fail
        go_ret2
        refine ⟨HB.out, .inr ⟨_, _, L, ?_, rfl, NamesIn.later NMH.out HBB.out, (fun a ha => by cases ha; exact Nat.le_refl _), HCAP.out⟩⟩
        have h1 := HALL.out
        rw [HJJ.out, List.take_length] at h1
        exact steps_good hd.out (by simpa using h4) (by rw [all_map]; exact h1)
  · have h4' : ¬ (L.length : Int) ≤ 4 := by omega
    have hno := Lib.hid (hbad (by omega))
    clear hgood hbad NM hT hcap
    go_enter Tryd.func26, Tryd.ntmps26
    go_wp2_with (go_at_call 42; refine CUT.out.mono ?_; rintro e w1 ⟨rfl, rfl⟩)
    go_ret2
    exact ⟨(Below.refl _ _).alloc (Nat.le_refl _) _, .inl ⟨hno.out, rfl⟩⟩
end Go.Proofs.YtijibjdgnaphiaaDoor
