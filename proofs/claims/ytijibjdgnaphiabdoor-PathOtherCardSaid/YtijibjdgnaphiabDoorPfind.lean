/- A step's place in a value, by the program: the document's place; for values whose names rise. -/
import Derived.Test.YtijibjdgnaphiabDoorPplace
import Derived.Deep.QuietTactic
import Derived.BigQuiet
import Derived.Lib.AtoiErrMem
namespace Go.Proofs.YtijibjdgnaphiabDoor
open Go.ChangeShapes Go.WideShapes Go.Deep Go.RowKit Go.Lib

/-- The errors of the library's are something. -/
def ErrV (w : World) : Prop := (∃ ev, w.cell? ⟨3, 0, none⟩ = some ev ∧ (ev = .nilIface ∨ ∃ te pe, ev = .iface te pe)) ∧ (∃ ev, w.cell? ⟨4, 0, none⟩ = some ev ∧ (ev = .nilIface ∨ ∃ te pe, ev = .iface te pe))

theorem ErrV.later {w w' : World} (h : ErrV w) (hb : Below w.heap.size w w') : ErrV w' :=
  ⟨h.1.imp fun _ ⟨h1, h2⟩ => ⟨cell_later h1 hb, h2⟩, h.2.imp fun _ ⟨h1, h2⟩ => ⟨cell_later h1 hb, h2⟩⟩

/-- The number that ParseUint answers. -/
def numV (l : List UInt8) : Int := match Lib.parseUintB 32 l with
  | .ok u => u
  | .range => 4294967295
  | _ => 0

theorem numV_some {l : List UInt8} {u : Nat} (h : numL l = some u) : numV l = u := by
  unfold numL at h
  unfold numV
  split at h
  · rename_i v hv
    rw [hv]
    split at h
    · rw [Option.some.inj h]
    · cases h
  · cases h

set_option maxHeartbeats 800000 in
set_option maxRecDepth 100000 in
theorem number_any (p : ByteArray) (w : World) (h1 : 0 < p.size) (h2 : p.size ≤ 60) (hE : ErrV w) :
    Calls Tryd.prog 25 #[.string p] w fun e w' => Below w.heap.size w w' ∧ e = .returned (.tuple #[.int .i64 (numV p.data.toList), .bool (numL p.data.toList).isSome]) := by
  obtain ⟨⟨e1, he1, hv1⟩, ⟨e2, he2, hv2⟩⟩ := hE
  rcases hp : Lib.parseUintB 32 p.data.toList with u | _ | _
  · have CALL := Lib.hid (Tryd.strconv_ParseUint_10_at32_ok p (by omega) u hp w)
    have hnv : numV p.data.toList = u := by unfold numV; rw [hp]
    rw [hnv]
    clear hnv
    have hu := parse_bound hp
    have hn : numL p.data.toList = if p.data.toList.length ≤ 4 ∧ (p.data.toList = [48] ∨ p.data.toList.head? ≠ some 48) then some u else none := by
      unfold numL; rw [hp]
    have hz : p.data.toList.length = p.size := by simp
    rw [hz] at hn
    have hh : p.data.toList.head? = some p[0] := by
      rw [List.head?_eq_getElem?, List.getElem?_eq_getElem (by rw [hz]; omega)]; rfl
    rw [hh] at hn
    have hl : p.toList = p.data.toList := ByteArray.toList_eq p
    have hcv : IntKind.i64.wrap (u : Int) = (u : Int) := IntWalk.i64_in _ (by omega)
    have hcv' : IntKind.i64.wrap ((u : Nat) : Int) = (u : Int) := hcv
    obtain ⟨R, hR⟩ : ∃ R, numL p.data.toList = R := ⟨_, rfl⟩
    rw [hR] at hn ⊢
    have ways : (decide ((p.size : Int) ≤ 4) = false ∧ R = none) ∨ (decide ((p.size : Int) ≤ 4) = true ∧ (p.toList == [48]) = true ∧ R = some u) ∨ (decide ((p.size : Int) ≤ 4) = true ∧ (p.toList == [48]) = false ∧ ((p[0].toNat : Int) != 48) = false ∧ ((p[0].toNat : Int) == 48) = true ∧ R = none) ∨
        (decide ((p.size : Int) ≤ 4) = true ∧ (p.toList == [48]) = false ∧ ((p[0].toNat : Int) != 48) = true ∧ ((p[0].toNat : Int) == 48) = false ∧ R = some u) := by
      by_cases g4 : p.size ≤ 4
      · right
        by_cases g0 : p.data.toList = [48]
        · left
          exact ⟨by simp; omega, by rw [hl, g0]; rfl, by rw [hn, if_pos ⟨g4, .inl g0⟩]⟩
        · right
          by_cases g1 : p[0] = 48
          · left
            refine ⟨by simp; omega, by rw [hl]; simpa using g0, by rw [g1]; rfl, by rw [g1]; rfl, ?_⟩
            rw [hn, if_neg]
            rintro ⟨_, h | h⟩
            · exact g0 h
            · exact h (by rw [g1])
          · right
            have g2 : ((p[0].toNat : Int) == 48) = false := by
              simp only [beq_eq_false_iff_ne, ne_eq]
              intro e
              exact g1 (UInt8.toNat_inj.1 (by simpa using (show p[0].toNat = 48 by omega)))
            refine ⟨by simp; omega, by rw [hl]; simpa using g0, by simpa using g2, g2, ?_⟩
            rw [hn, if_pos ⟨g4, .inr fun e => g1 (Option.some.inj e)⟩]
      · left
        refine ⟨by simp; omega, ?_⟩
        rw [hn, if_neg (fun h => g4 h.1)]
    clear hn hp hz he1 he2 hv1 hv2 hR hh hl
    go_enter Tryd.func25, Tryd.ntmps25
    go_wp2_with fail
    refine CALL.out.mono ?_
    rintro e w1 ⟨rfl, hw1⟩
    have hb : Below w.heap.size w w1 := by
      rcases hw1 with rfl | rfl
      · exact Below.refl _ _
      · exact Lib.bytesWorld_below _ _ _
    clear hw1
    rcases ways with ⟨g1, rfl⟩ | ⟨g1, g2, rfl⟩ | ⟨g1, g2, g3, g4, rfl⟩ | ⟨g1, g2, g3, g4, rfl⟩
    all_goals
      go_wp2_with fail
      go_quiet (fail)
      go_wp2_with fail
      go_ret2
      exact ⟨hb.trans ⟨rfl, rfl, rfl, Nat.le_refl _, fun _ _ => rfl⟩, rfl⟩
  · have CALL := Lib.hid (Tryd.strconv_ParseUint_10_at32_syntax p (by omega) hp e1 w he1 hv1)
    have hn : numL p.data.toList = none := by unfold numL; rw [hp]
    have hnv : numV p.data.toList = 0 := by unfold numV; rw [hp]
    rw [hn, hnv]
    clear hnv
    clear hn hp he1 he2 hv1 hv2
    go_enter Tryd.func25, Tryd.ntmps25
    go_wp2_with fail
    refine CALL.out.mono ?_
    rintro e w1 ⟨N, rfl, _, _, hb⟩
    go_wp2_with fail
    go_quiet (fail)
    go_wp2_with fail
    go_ret2
    exact ⟨hb.trans ⟨rfl, rfl, rfl, Nat.le_refl _, fun _ _ => rfl⟩, rfl⟩
  · have CALL := Lib.hid (Tryd.strconv_ParseUint_10_at32_range p (by omega) hp e2 w he2 hv2)
    have hn : numL p.data.toList = none := by unfold numL; rw [hp]
    have hnv : numV p.data.toList = 4294967295 := by unfold numV; rw [hp]
    rw [hn, hnv]
    clear hnv
    clear hn hp he1 he2 hv1 hv2
    go_enter Tryd.func25, Tryd.ntmps25
    go_wp2_with fail
    refine CALL.out.mono ?_
    rintro e w1 ⟨N, rfl, _, _, hb⟩
    go_wp2_with fail
    go_quiet (fail)
    go_wp2_with fail
    go_ret2
    exact ⟨hb.trans ⟨rfl, rfl, rfl, Nat.le_refl _, fun _ _ => rfl⟩, rfl⟩
end Go.Proofs.YtijibjdgnaphiabDoor
