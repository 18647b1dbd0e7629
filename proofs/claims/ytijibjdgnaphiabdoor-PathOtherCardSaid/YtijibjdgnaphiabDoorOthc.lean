/- PathOther, proved: the row and its tied card: what is put at a path leaves what stands at every other first step as it was; for all values and texts (those of more than 300 nodes and 2000 bytes are looked at by no promise). -/
import Derived.Test.YtijibjdgnaphiabDoorLawoth
import Derived.Test.YtijibjdgnaphiabDoorErrs
import Derived.Test.YtijibjdgnaphiabDoorTabs
namespace Go.Proofs.YtijibjdgnaphiabDoor
open Go.ChangeShapes Go.WideShapes Go.ChangeAt Go.RowKit

theorem readable26 : Tryd.prog.readableRec 26 = true := by kernel_rfl
theorem row26 : 26 < Tryd.prog.types.size := of_decide_eq_true (by kernel_rfl)

set_option maxRecDepth 100000 in
theorem open_texts {H : Type} {enc : TypeId × Value → H} {W : World} {sp : Nat → Bool} {held : Bool} {r : Reach} {base0 base : Nat} {v : Value} {d : DataW H} {ps : List MemPlace} (hv : Value.okWide Tryd.prog W r base 26 v) (h : DataW.Trod enc Tryd.prog W base0 sp held 26 v d ps) :
    ∃ s s' : ByteArray, v = .agg #[.string s, .string s'] ∧ s.size ≤ maxLen ∧ s'.size ≤ maxLen := by
  have hu : Tryd.prog.underlying 26 = some (.array 2 9) := Tryd.underlying26
  simp only [Value.okWide, hu] at hv
  obtain ⟨cs, rfl, hsz, _⟩ := hv
  obtain ⟨fuel, hf⟩ := h
  have c9 : Tryd.prog.cellsOf 9 = 1 := by kernel_rfl
  have c26 : Tryd.prog.cellsOf 26 = 2 := by kernel_rfl
  obtain ⟨xs, m, _, _, hl, hxl, hat⟩ := DataW.trod_array hu hf
  rw [c26] at hl
  have h0 := hat 0 (by omega)
  have h1 := hat 1 (by omega)
  rw [c9] at h0 h1
  simp only [Value.cells] at hl h0 h1
  match cs, hl with
  | ⟨[y0, y1]⟩, _ =>
    match xs, hxl with
    | [z0, z1], _ =>
      obtain ⟨s, hs, _, ws⟩ := DataW.trod_string Tryd.underlying9 (by simpa using h0)
      obtain ⟨s', hs', _, ws'⟩ := DataW.trod_string Tryd.underlying9 (by simpa using h1)
      refine ⟨s, s', ?_, ws, ws'⟩
      simp only [List.cons.injEq, and_true] at hs hs'
      rw [hs, hs']

set_option maxRecDepth 100000 in
theorem oth_contract (H : Type) (enc : TypeId × Value → H) (W : World) (base : Nat) (args : Array Value) (ds gs : List (DataW H)) (before : List MemPlace)
    (hval : ∀ (j : Nat) t v, Tryd.f3.params[j]? = some t → args[j]? = some v → Value.okWide Tryd.prog W .any base t v)
    (hW : DataW.Whole enc Tryd.prog Tryd.f3.params.toList Rows.pathOtherSpec.vars false W args.toList ds gs before) (hL : laidMetH Tryd.prog Rows.pathOtherRow.laid W) (hsh : W.ShapedOpen Tryd.prog) :
    Calls Tryd.prog 3 args W fun e W' => ∃ v, e = .returned v ∧ Rows.pathOtherSpec.post enc Tryd.prog Tryd.f3 false true false false W args v W' := by
  rw [MakeChecks.laidMetH_plain _ _ _ (by kernel_rfl)] at hL
  have hT := tabs_of hL (by simp [Rows.pathOtherRow]) (by simp [Rows.pathOtherRow])
  have hM := maxl_of hsh
  have hE := errv_of hL (by simp [Rows.pathOtherRow]) (by simp [Rows.pathOtherRow])
  obtain ⟨p, q, hA0, hV, rfl, hfz, hnd⟩ := id hW
  have hA : DataW.TrodAll enc Tryd.prog W 0 (fun _ => true) true Tryd.f3.params.toList args.toList ds p := hA0
  rw [Tryd.params3] at hA hval
  obtain ⟨v0, vs0, d0, ds0, p0, q0, hargs, rfl, rfl, h0, r0⟩ := trodAll_cons hA
  obtain ⟨v1, vs1, d1, ds1, p1, q1, rfl, rfl, rfl, h1, r1⟩ := trodAll_cons r0
  obtain ⟨v2, vs2, d2, ds2, p2, q2, rfl, rfl, rfl, h2, r2⟩ := trodAll_cons r1
  obtain ⟨rfl, rfl, rfl⟩ := trodAll_nil r2
  obtain rfl : args = #[v0, v1, v2] := by cases args; simp_all
  obtain ⟨rfl, rfl⟩ := trodVars_none hV
  obtain ⟨t, rfl, hin⟩ := AV.open_val tables (hval 0 25 v0 rfl rfl) h0
  obtain ⟨s, s', rfl, ws, ws'⟩ := open_texts (hval 1 26 v1 rfl rfl) h1
  obtain ⟨x, rfl, hxin⟩ := AV.open_val tables (hval 2 25 v2 rfl rfl) h2
  refine (lawoth_any t x s s' W hin hxin ws ws' hT hM hE).mono fun e W' ⟨he, hb⟩ => ?_
  subst he
  exact ⟨_, rfl, post_law laidOutD hW rfl rfl rfl rfl (by kernel_rfl) Tryd.underlying4 (fun t ht => by
    rw [Tryd.params3] at ht
    have ht' : t = 25 ∨ t = 26 ∨ t = 25 := by simpa using ht
    rcases ht' with rfl | rfl | rfl
    · exact ⟨readable25, row25⟩
    · exact ⟨readable26, row26⟩
    · exact ⟨readable25, row25⟩) hb⟩

/-- The witness' arguments: the least value, empty texts. -/
def leastB : Array Value := #[.agg #[.int .i64 0, .int .i64 0, .string ⟨#[]⟩, .slice none 0 0, .slice none 0 0], .agg #[.string ⟨#[]⟩, .string ⟨#[]⟩], .agg #[.int .i64 0, .int .i64 0, .string ⟨#[]⟩, .slice none 0 0, .slice none 0 0]]

set_option maxRecDepth 100000 in
theorem oth_lifted (os : Os) (started : os.Started) (H : Type) (enc : TypeId × Value → H) :
    ReturnsInHanded {} Tryd.checked os 3 .any (fun w args => (Rows.pathOtherSpec.pre enc Tryd.prog Tryd.f3 Rows.pathOtherRow.domain false w args ∧ laidMetH Tryd.prog Rows.pathOtherRow.laid w) ∧ sizedMet enc Tryd.prog Tryd.f3 (OpenSpec.ofChange Rows.pathOtherSpec) false w args)
      (Rows.pathOtherSpec.post enc Tryd.prog Tryd.f3 false true false false) := by
  refine handed_and_shaped (C := Tryd.checked) (X := fun w _ => laidMetH Tryd.prog Rows.pathOtherRow.laid w) (fun _ _ _ hh h => h.of_heap hh) own started (by kernel_rfl) Tryd.func3
    (ChangeSpec.witness_shaped (enc := enc) (C := Tryd.checked) (os := os) (X := fun w _ => laidMetH Tryd.prog Rows.pathOtherRow.laid w) false (World.laidAll Tryd.prog os Rows.pathOtherRow.laid) leastB 8 (World.laidAll_os _ _ _)
      (World.shaped_of_ZipB (by kernel_rfl) (by kernel_rfl)) (by kernel_rfl) (by kernel_rfl) (by kernel_rfl)
      (by rw [MakeChecks.laidMetH_plain _ _ _ (by kernel_rfl)]; exact laidMet_laidAll _ (by kernel_rfl) (by kernel_rfl))) ?_
  intro W base args ds gs before hval hW hL hsh
  exact oth_contract H enc W base args ds gs before hval hW hL hsh

theorem oth_said : Rows.PathOtherSaid :=
  OpenClaim.holds_of_wide 3 Tryd.f3 rfl rfl rfl rfl rfl rfl rfl ⟨rfl, rfl, rfl, rfl, rfl⟩ rfl rfl rfl rfl rfl (by kernel_rfl) Tryd.func3 (by kernel_rfl)
    (of_decide_eq_true (by kernel_rfl)) (by unfold Func.isWrapper; first | (rw [if_pos (by decide +kernel)]; kernel_rfl) | (rw [if_neg (by decide +kernel)]; exact ⟨rfl, rfl⟩))
    (fun os started H enc _ => oth_lifted os started H enc)

theorem oth_card : Rows.PathOtherCardSaid :=
  Claim7.holds_tied_plain_at .later [] _ _ _ _ oth_said (fun _ h => by cases h) (by kernel_rfl) (fun _ h => by cases h) pathOther_row_tie rfl ⟨rfl, rfl⟩ (by kernel_rfl) rfl
    (fun f fn hf hfn => by
      obtain rfl : f = 3 := Option.some.inj ((show Tryd.prog.funcNamed "muniment/munimentlaw02.PathOther" = some 3 by kernel_rfl).symm.trans hf) |>.symm
      obtain rfl : fn = Tryd.f3 := (Option.some.inj (Tryd.func3.symm.trans hfn)).symm
      exact ⟨by kernel_rfl, fun j t ht => by
        rw [Tryd.params3] at ht
        have hm : t ∈ [25, 26, 25] := by simpa using Array.mem_of_getElem? ht
        have hall : ([25, 26, 25].all fun u => !Tryd.prog.wantsStandIn u) = true := by kernel_rfl
        exact (show Tryd.prog.wantsStandIn t = false by simpa using List.all_eq_true.1 hall t hm)⟩)
    (by kernel_rfl)
#print axioms oth_card
end Go.Proofs.YtijibjdgnaphiabDoor
