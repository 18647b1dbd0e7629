/- PathSteps: the program and the document tell every text's steps alike (2000 bytes): the walk of the statement. -/
import Derived.Test.YtijibjdgnaphiaaDoorRsteps
import Derived.Deep.QuietTactic
import Derived.BigQuiet
namespace Go.Proofs.YtijibjdgnaphiaaDoor
open Go.ChangeShapes Go.WideShapes Go.Deep Go.RowKit Go.Lib

def ofList (l : List UInt8) : ByteArray := ⟨l.toArray⟩

theorem ofList_data (b : ByteArray) : ofList b.data.toList = b := by
  unfold ofList
  apply ByteArray.ext
  simp

/-- The steps that are answered, and the error. -/
def stepNames (l : List UInt8) : List ByteArray := match stepsOf l with
  | some ps => ps.map ofList
  | none => []
def stepErr (l : List UInt8) : Int := match stepsOf l with
  | some _ => 0
  | none => 2

theorem StepsEnd.told {s : ByteArray} {w : World} {e : Ending} {w' : World} (h : StepsEnd s w e w') :
    ∃ na c, e = .returned (.tuple #[.slice na (stepNames s.data.toList).length c, .int .i64 (stepErr s.data.toList)]) ∧ AV.NamesIn w' na (stepNames s.data.toList) ∧ Below w.heap.size w w' ∧ ∀ a, na = some a → w.heap.size ≤ a.block := by
  obtain ⟨hb, ⟨h1, rfl⟩ | ⟨na, c, ns, h1, rfl, hin, hfr⟩⟩ := h
  · refine ⟨none, 0, ?_, ?_, hb, by simp⟩
    · simp [stepNames, stepErr, h1]
    · simp [stepNames, h1, AV.NamesIn]
  · have e : stepNames s.data.toList = ns := by
      simp only [stepNames, h1, List.map_map]
      conv => rhs; rw [← List.map_id ns]
      exact List.map_congr_left fun b _ => ofList_data b
    refine ⟨na, c, ?_, ?_, hb, hfr⟩
    · rw [e]; simp [stepErr, h1]
    · rw [e]; exact hin

theorem names_ab : stepNames [97, 46, 98] = [⟨#[97]⟩, ⟨#[98]⟩] ∧ stepErr [97, 46, 98] = 0 := by decide +kernel

theorem steps_len (l : List UInt8) : (stepNames l).length ≤ 4 := by
  unfold stepNames stepsOf
  split
  · rename_i ps h
    split at h
    · rename_i h1
      rw [← Option.some.inj h]
      simpa using h1.1
    · cases h
  · simp

set_option maxRecDepth 100000 in
theorem awakep_any (w : World) (hT : Tabs w) (hM : MaxL w) : Calls Tryd.prog 25 #[] w fun e w' => e = .returned (.bool true) ∧ Below w.heap.size w w' := by
  have CALL := Lib.hid ((Steps_any ⟨#[97, 46, 98]⟩ w (by decide) hT hM).mono fun _ _ h => StepsEnd.told h)
  rw [show (⟨#[97, 46, 98]⟩ : ByteArray).data.toList = [97, 46, 98] from rfl, names_ab.1, names_ab.2] at CALL
  go_enter Tryd.func25, Tryd.ntmps25
  go_wp2_with fail
  refine CALL.out.mono ?_
  rintro e w1 ⟨na, c, rfl, hin, hb, _⟩
  obtain ⟨b, o, rfl, hit⟩ := hin.resolve_left (by simp)
  have h1 : w1.cell? ⟨b, o + 1, none⟩ = some (.string ⟨#[98]⟩) := hit 1 (by decide)
  clear hit hin
  go_wp2_with fail
  go_ret
  exact ⟨rfl, hb⟩

set_option maxHeartbeats 800000 in
set_option maxRecDepth 100000 in
theorem lawsteps_any (s : ByteArray) (w : World) (hs : s.size ≤ maxLen) (hT : Tabs w) (hM : MaxL w) : Calls Tryd.prog 9 #[.string s] w fun e w' => e = .returned (.bool true) ∧ Below w.heap.size w w' := by
  unfold maxLen at hs
  have AW := Lib.hid (fun W (h : Below w.heap.size w W) => awakep_any W (hT.later h) (hM.later h))
  by_cases h2 : s.size ≤ 2000
  · have PR := Lib.hid (fun W (h : Below w.heap.size w W) => (Steps_any s W h2 (hT.later h) (hM.later h)).mono fun _ _ h => StepsEnd.told h)
    have RE := Lib.hid (fun W => (rSteps_any s W h2).mono fun _ _ h => StepsEnd.told h)
    have hlen := steps_len s.data.toList
    obtain ⟨ns, hns⟩ : ∃ ns, stepNames s.data.toList = ns := ⟨_, rfl⟩
    obtain ⟨er, her⟩ : ∃ er, stepErr s.data.toList = er := ⟨_, rfl⟩
    rw [hns, her] at PR RE
    rw [hns] at hlen
    clear hns her hT hM
    go_enter Tryd.func9, Tryd.ntmps9
    go_wp2_with fail
    refine (AW.out _ (Below.refl _ _)).mono ?_
    rintro e w1 ⟨rfl, hb1⟩
    go_wp2_with fail
    refine (PR.out _ hb1).mono ?_
    rintro e w2 ⟨na, c, rfl, hin, hq2, _⟩
    have hb2 := hb1.trans (hq2.mono hb1.size)
    have HIN := Lib.hid hin
    clear hin hb1 hq2
    go_wp2_with fail
    refine (RE.out _).mono ?_
    rintro e w3 ⟨na', c', rfl, hin', hq3, _⟩
    have hb3 := hb2.trans (hq3.mono hb2.size)
    have HIN2 := Lib.hid (NamesIn.later HIN.out hq3)
    have HIN' := Lib.hid hin'
    clear hin' hb2 hq3 HIN
    go_wp2_with fail
    go_loopg [7] ns.length (fun g i wr => ∃ j : Nat, j + g = ns.length ∧ i = .int .i64 (j : Int) ∧ Below w3.heap.size w3 wr)
    case atStart => exact ⟨0, by omega, rfl, Below.refl _ _⟩
    case round =>
      obtain ⟨j, hj, rfl, hb⟩ := hrel
      have HJ := Lib.hid hj
      clear hj
      by_cases hlt : j < ns.length
      · obtain ⟨bx, ox, rfl, hit⟩ := (HIN2.out).resolve_left (by intro e; rw [e] at hlt; simp at hlt)
        obtain ⟨by', oy, rfl, hit'⟩ := (HIN'.out).resolve_left (by intro e; rw [e] at hlt; simp at hlt)
        have f1 : wr.cell? ⟨bx, ox + j, none⟩ = some (.string ns[j]) := cell_later (hit j hlt) hb
        have f2 : wr.cell? ⟨by', oy + j, none⟩ = some (.string ns[j]) := cell_later (hit' j hlt) hb
        obtain ⟨x, hx⟩ : ∃ x, ns[j] = x := ⟨_, rfl⟩
        rw [hx] at f1 f2
        clear hx hit hit'
        have g1 : ∀ q, (wr.drewN q).cell? ⟨bx, ox + j, none⟩ = some (.string x) := fun _ => f1
        go_wp2_with fail
        go_quiet (fail)
        go_wp2_with fail
        go_roundg (gk - 1)
        case measure => have := HJ.out; omega
        case rel => exact ⟨j + 1, by have := HJ.out; omega, by go_num, hb.trans ⟨rfl, rfl, rfl, Nat.le_refl _, fun _ _ => rfl⟩⟩
      · go_wp2_with fail
        go_ret
        exact ⟨rfl, hb3.trans (hb.mono hb3.size)⟩
  · have h2' : ¬ (s.size : Int) ≤ 2000 := by omega
    clear hT hM
    go_enter Tryd.func9, Tryd.ntmps9
    go_wp2_with fail
    refine (AW.out _ (Below.refl _ _)).mono ?_
    rintro e w1 ⟨rfl, hb1⟩
    go_wp2_with fail
    refine (AW.out _ hb1).mono ?_
    rintro e w2 ⟨rfl, hq2⟩
    go_wp2_with fail
    go_ret
    exact ⟨rfl, hb1.trans (hq2.mono hb1.size)⟩
end Go.Proofs.YtijibjdgnaphiaaDoor
