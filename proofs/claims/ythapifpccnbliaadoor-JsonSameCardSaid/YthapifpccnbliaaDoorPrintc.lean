/- JsonPrints, proved: the row and its tied card; for every value. -/
import Derived.Test.YthapifpccnbliaaDoorLawprint
import Derived.Test.YthapifpccnbliaaDoorFormc
import Derived.Lib.LaidTab
namespace Go.Proofs.YthapifpccnbliaaDoor
open Go.ChangeShapes Go.WideShapes Go.ChangeAt Go.RowKit

theorem pow_global : Tryd.prog.globalNamed "internal/strconv.uint64pow10" = some 2 := by kernel_rfl
theorem pow_type : (Tryd.prog.globals[2]?).map (·.type) = some 106 := by kernel_rfl
theorem pow_array : Tryd.prog.underlying 106 = some (.array 20 87) := by kernel_rfl
theorem pow_elem : Tryd.prog.underlying 87 = some (.int .u64) := by kernel_rfl
theorem pow_data : (Rows.laid_internal_strconv_uint64pow10 : DataW Unit) = Go.Lib.tabData .u64 Go.Lib.pow10Tab := by kernel_rfl

theorem pow_of {W : World} {l : List (String × DataW Unit)} (h : laidMet Tryd.prog l W) (h1 : ("internal/strconv.uint64pow10", (Rows.laid_internal_strconv_uint64pow10 : DataW Unit)) ∈ l) : Pow W := by
  obtain ⟨g', t', cs, fuel, p, hg', ht', hvar, hd⟩ := Go.Lib.laidMet.reads h h1
  obtain rfl := Option.some.inj (pow_global.symm.trans hg')
  obtain rfl := Option.some.inj (pow_type.symm.trans ht')
  rw [pow_data] at hd
  unfold Pow Go.Lib.TabIs
  rw [hvar, ← Go.Lib.cells_of_tab pow_array pow_elem (by kernel_rfl) (by kernel_rfl) hd]

set_option maxRecDepth 100000 in
theorem print_contract (H : Type) (enc : TypeId × Value → H) (W : World) (base : Nat) (args : Array Value) (ds gs : List (DataW H)) (before : List MemPlace)
    (hval : ∀ (j : Nat) t v, Tryd.f5.params[j]? = some t → args[j]? = some v → Value.okWide Tryd.prog W .any base t v)
    (hW : DataW.Whole enc Tryd.prog Tryd.f5.params.toList Rows.jsonPrintsSpec.vars false W args.toList ds gs before) (hL : laidMetH Tryd.prog Rows.jsonPrintsRow.laid W) :
    Calls Tryd.prog 5 args W fun e W' => ∃ v, e = .returned v ∧ Rows.jsonPrintsSpec.post enc Tryd.prog Tryd.f5 false true false false W args v W' := by
  rw [MakeChecks.laidMetH_plain _ _ _ (by kernel_rfl)] at hL
  have hT := tabs_of hL (by simp [Rows.jsonPrintsRow]) (by simp [Rows.jsonPrintsRow])
  have hP := pow_of hL (by simp [Rows.jsonPrintsRow])
  obtain ⟨p, q, hA0, hV, rfl, hfz, hnd⟩ := id hW
  have hA : DataW.TrodAll enc Tryd.prog W 0 (fun _ => true) true Tryd.f5.params.toList args.toList ds p := hA0
  rw [Tryd.params5] at hA hval
  obtain ⟨v0, vs0, d0, ds0, p0, q0, hargs, rfl, rfl, h0, r0⟩ := trodAll_cons hA
  obtain ⟨rfl, rfl, rfl⟩ := trodAll_nil r0
  obtain rfl : args = #[v0] := by cases args; simp_all
  obtain ⟨rfl, rfl⟩ := trodVars_none hV
  obtain ⟨t, rfl, hin⟩ := AV.open_val tables (hval 0 25 v0 rfl rfl) h0
  refine (lawprint_any t W hin hT hP).mono fun e W' ⟨he, hb⟩ => ?_
  subst he
  exact ⟨_, rfl, post_law laidOutD hW rfl rfl rfl rfl (by kernel_rfl) Tryd.underlying4 (fun t ht => by
    rw [Tryd.params5] at ht
    obtain rfl : t = 25 := by simpa using ht
    exact ⟨readable25, row25⟩) hb⟩

set_option maxRecDepth 100000 in
theorem print_lifted (os : Os) (started : os.Started) (H : Type) (enc : TypeId × Value → H) :
    ReturnsInHanded {} Tryd.checked os 5 .any (fun w args => (Rows.jsonPrintsSpec.pre enc Tryd.prog Tryd.f5 Rows.jsonPrintsRow.domain false w args ∧ laidMetH Tryd.prog Rows.jsonPrintsRow.laid w) ∧ sizedMet enc Tryd.prog Tryd.f5 (OpenSpec.ofChange Rows.jsonPrintsSpec) false w args)
      (Rows.jsonPrintsSpec.post enc Tryd.prog Tryd.f5 false true false false) := by
  refine returnsInHanded_of_change_and (C := Tryd.checked) (X := fun w _ => laidMetH Tryd.prog Rows.jsonPrintsRow.laid w) (fun _ _ _ hh h => h.of_heap hh) own started (by kernel_rfl) Tryd.func5
    (ChangeSpec.witness_shaped (enc := enc) (C := Tryd.checked) (os := os) (X := fun w _ => laidMetH Tryd.prog Rows.jsonPrintsRow.laid w) false (World.laidAll Tryd.prog os Rows.jsonPrintsRow.laid) leastV 8 (World.laidAll_os _ _ _)
      (World.shaped_of_ZipB (by kernel_rfl) (by kernel_rfl)) (by kernel_rfl) (by kernel_rfl) (by kernel_rfl)
      (by rw [MakeChecks.laidMetH_plain _ _ _ (by kernel_rfl)]; exact laidMet_laidAll _ (by kernel_rfl) (by kernel_rfl))) ?_
  intro W base args ds gs before hval hW _ _ hL _
  exact print_contract H enc W base args ds gs before hval hW hL

theorem print_said : Rows.JsonPrintsSaid :=
  OpenClaim.holds_of_wide 5 Tryd.f5 rfl rfl rfl rfl rfl rfl rfl ⟨rfl, rfl, rfl, rfl, rfl⟩ rfl rfl rfl rfl rfl (by kernel_rfl) Tryd.func5 (by kernel_rfl)
    (of_decide_eq_true (by kernel_rfl)) (by unfold Func.isWrapper; first | (rw [if_pos (by decide +kernel)]; kernel_rfl) | (rw [if_neg (by decide +kernel)]; exact ⟨rfl, rfl⟩))
    (fun os started H enc _ => print_lifted os started H enc)

theorem print_card : Rows.JsonPrintsCardSaid :=
  Claim7.holds_tied_plain_at .later [] _ _ _ _ print_said (fun _ h => by cases h) (by kernel_rfl) (fun _ h => by cases h) jsonPrints_row_tie rfl ⟨rfl, rfl⟩ (by kernel_rfl) rfl
    (fun f fn hf hfn => by
      obtain rfl : f = 5 := Option.some.inj ((show Tryd.prog.funcNamed "muniment/munimentlaw01.JsonPrints" = some 5 by kernel_rfl).symm.trans hf) |>.symm
      obtain rfl : fn = Tryd.f5 := (Option.some.inj (Tryd.func5.symm.trans hfn)).symm
      exact ⟨by kernel_rfl, fun j t ht => by
        rw [Tryd.params5] at ht
        have hm : t ∈ [25] := by simpa using Array.mem_of_getElem? ht
        have hall : ([25].all fun u => !Tryd.prog.wantsStandIn u) = true := by kernel_rfl
        exact (show Tryd.prog.wantsStandIn t = false by simpa using List.all_eq_true.1 hall t hm)⟩)
    (by kernel_rfl)
#print axioms print_card
end Go.Proofs.YthapifpccnbliaaDoor
