/- JsonNumbers, proved: the row and its tied card: every integer is printed as its decimal digits, and read as it was, whatever blanks stand around it. -/
import Derived.Test.YtijibjdgnaphiaaDoorLawnum
import Derived.Test.YtijibjdgnaphiaaDoorTabs
import Derived.Lib.LaidTab
namespace Go.Proofs.YtijibjdgnaphiaaDoor
open Go.ChangeShapes Go.WideShapes Go.ChangeAt Go.RowKit

theorem pow_global : Tryd.prog.globalNamed "internal/strconv.uint64pow10" = some 2 := by kernel_rfl
theorem pow_type : (Tryd.prog.globals[2]?).map (·.type) = some 137 := by kernel_rfl
theorem pow_array : Tryd.prog.underlying 137 = some (.array 20 104) := by kernel_rfl
theorem pow_elem : Tryd.prog.underlying 104 = some (.int .u64) := by kernel_rfl
theorem pow_data : (Rows.laid_internal_strconv_uint64pow10 : DataW Unit) = Go.Lib.tabData .u64 Go.Lib.pow10Tab := by kernel_rfl

theorem pow_of {W : World} {l : List (String × DataW Unit)} (h : laidMet Tryd.prog l W) (h1 : ("internal/strconv.uint64pow10", (Rows.laid_internal_strconv_uint64pow10 : DataW Unit)) ∈ l) : Pow W := by
  obtain ⟨g', t', cs, fuel, p, hg', ht', hvar, hd⟩ := Go.Lib.laidMet.reads h h1
  obtain rfl := Option.some.inj (pow_global.symm.trans hg')
  obtain rfl := Option.some.inj (pow_type.symm.trans ht')
  rw [pow_data] at hd
  unfold Pow Go.Lib.TabIs
  rw [hvar, ← Go.Lib.cells_of_tab pow_array pow_elem (by kernel_rfl) (by kernel_rfl) hd]


set_option maxRecDepth 100000 in
theorem open_two {H : Type} {enc : TypeId × Value → H} {W : World} {sp : Nat → Bool} {held : Bool} {r : Reach} {base0 base : Nat} {v : Value} {d : DataW H} {ps : List MemPlace} (hv : Value.okWide Tryd.prog W r base 37 v) (h : DataW.Trod enc Tryd.prog W base0 sp held 37 v d ps) :
    ∃ a b : Nat, v = .agg #[.int .u8 (a : Int), .int .u8 (b : Int)] := by
  have hu : Tryd.prog.underlying 37 = some (.array 2 5) := Tryd.underlying37
  simp only [Value.okWide, hu] at hv
  obtain ⟨cs, rfl, hsz, _⟩ := hv
  obtain ⟨fuel, hf⟩ := h
  have c5 : Tryd.prog.cellsOf 5 = 1 := by kernel_rfl
  have c37 : Tryd.prog.cellsOf 37 = 2 := by kernel_rfl
  obtain ⟨xs, m, _, _, hl, hxl, hat⟩ := DataW.trod_array hu hf
  rw [c37] at hl
  have h0 := hat 0 (by omega)
  have h1 := hat 1 (by omega)
  rw [c5] at h0 h1
  simp only [Value.cells] at hl h0 h1
  match cs, hl with
  | ⟨[y0, y1]⟩, _ =>
    match xs, hxl with
    | [z0, z1], _ =>
      obtain ⟨a, ha, _, wa⟩ := DataW.trod_int (k := .u8) Tryd.underlying5 (by simpa using h0)
      obtain ⟨b, hb, _, wb⟩ := DataW.trod_int (k := .u8) Tryd.underlying5 (by simpa using h1)
      obtain ⟨a1, a2⟩ := bounds_u8 wa
      obtain ⟨b1, b2⟩ := bounds_u8 wb
      obtain ⟨a', rfl⟩ : ∃ n : Nat, a = (n : Int) := ⟨a.toNat, by omega⟩
      obtain ⟨b', rfl⟩ : ∃ n : Nat, b = (n : Int) := ⟨b.toNat, by omega⟩
      refine ⟨a', b', ?_⟩
      simp only [List.cons.injEq, and_true] at ha hb
      rw [ha, hb]

theorem readable37 : Tryd.prog.readableRec 37 = true := by kernel_rfl
theorem row37 : 37 < Tryd.prog.types.size := of_decide_eq_true (by kernel_rfl)
theorem readable2 : Tryd.prog.readableRec 2 = true := by kernel_rfl
theorem row2 : 2 < Tryd.prog.types.size := of_decide_eq_true (by kernel_rfl)

set_option maxRecDepth 100000 in
theorem num_contract (H : Type) (enc : TypeId × Value → H) (W : World) (base : Nat) (args : Array Value) (ds gs : List (DataW H)) (before : List MemPlace)
    (hval : ∀ (j : Nat) t v, Tryd.f8.params[j]? = some t → args[j]? = some v → Value.okWide Tryd.prog W .any base t v)
    (hW : DataW.Whole enc Tryd.prog Tryd.f8.params.toList Rows.jsonNumbersSpec.vars false W args.toList ds gs before) (hL : laidMetH Tryd.prog Rows.jsonNumbersRow.laid W) :
    Calls Tryd.prog 8 args W fun e W' => ∃ v, e = .returned v ∧ Rows.jsonNumbersSpec.post enc Tryd.prog Tryd.f8 false true false false W args v W' := by
  rw [MakeChecks.laidMetH_plain _ _ _ (by kernel_rfl)] at hL
  have hT := tabs_of hL (by simp [Rows.jsonNumbersRow]) (by simp [Rows.jsonNumbersRow])
  have hP := pow_of hL (by simp [Rows.jsonNumbersRow])
  obtain ⟨p, q, hA0, hV, rfl, hfz, hnd⟩ := id hW
  have hA : DataW.TrodAll enc Tryd.prog W 0 (fun _ => true) true Tryd.f8.params.toList args.toList ds p := hA0
  rw [Tryd.params8] at hA hval
  obtain ⟨v0, vs0, d0, ds0, p0, q0, hargs, rfl, rfl, h0, r0⟩ := trodAll_cons hA
  obtain ⟨v1, vs1, d1, ds1, p1, q1, rfl, rfl, rfl, h1, r1⟩ := trodAll_cons r0
  obtain ⟨rfl, rfl, rfl⟩ := trodAll_nil r1
  obtain rfl : args = #[v0, v1] := by cases args; simp_all
  obtain ⟨rfl, rfl⟩ := trodVars_none hV
  obtain ⟨n, rfl, rfl, rfl, wn⟩ := open_int Tryd.underlying2 (hval 0 2 v0 rfl rfl) h0
  obtain ⟨a, b, rfl⟩ := open_two (hval 1 37 v1 rfl rfl) h1
  obtain ⟨n1, n2⟩ := bounds_i64 wn
  refine (lawnum_any n a b W n1 n2 hT hP).mono fun e W' ⟨he, hb⟩ => ?_
  subst he
  exact ⟨_, rfl, post_law laidOutD hW rfl rfl rfl rfl (by kernel_rfl) Tryd.underlying4 (fun t ht => by
    rw [Tryd.params8] at ht
    have ht' : t = 2 ∨ t = 37 := by simpa using ht
    rcases ht' with rfl | rfl
    · exact ⟨readable2, row2⟩
    · exact ⟨readable37, row37⟩) hb⟩

/-- The witness' arguments: 0, and no blanks. -/
def leastN : Array Value := #[.int .i64 0, .agg #[.int .u8 0, .int .u8 0]]

set_option maxRecDepth 100000 in
theorem num_lifted (os : Os) (started : os.Started) (H : Type) (enc : TypeId × Value → H) :
    ReturnsInHanded {} Tryd.checked os 8 .any (fun w args => (Rows.jsonNumbersSpec.pre enc Tryd.prog Tryd.f8 Rows.jsonNumbersRow.domain false w args ∧ laidMetH Tryd.prog Rows.jsonNumbersRow.laid w) ∧ sizedMet enc Tryd.prog Tryd.f8 (OpenSpec.ofChange Rows.jsonNumbersSpec) false w args)
      (Rows.jsonNumbersSpec.post enc Tryd.prog Tryd.f8 false true false false) := by
  refine handed_and_shaped (C := Tryd.checked) (X := fun w _ => laidMetH Tryd.prog Rows.jsonNumbersRow.laid w) (fun _ _ _ hh h => h.of_heap hh) own started (by kernel_rfl) Tryd.func8
    (ChangeSpec.witness_shaped (enc := enc) (C := Tryd.checked) (os := os) (X := fun w _ => laidMetH Tryd.prog Rows.jsonNumbersRow.laid w) false (World.laidAll Tryd.prog os Rows.jsonNumbersRow.laid) leastN 8 (World.laidAll_os _ _ _)
      (World.shaped_of_ZipB (by kernel_rfl) (by kernel_rfl)) (by kernel_rfl) (by kernel_rfl) (by kernel_rfl)
      (by rw [MakeChecks.laidMetH_plain _ _ _ (by kernel_rfl)]; exact laidMet_laidAll _ (by kernel_rfl) (by kernel_rfl))) ?_
  intro W base args ds gs before hval hW hL _
  exact num_contract H enc W base args ds gs before hval hW hL

theorem num_said : Rows.JsonNumbersSaid :=
  OpenClaim.holds_of_wide 8 Tryd.f8 rfl rfl rfl rfl rfl rfl rfl ⟨rfl, rfl, rfl, rfl, rfl⟩ rfl rfl rfl rfl rfl (by kernel_rfl) Tryd.func8 (by kernel_rfl)
    (of_decide_eq_true (by kernel_rfl)) (by unfold Func.isWrapper; first | (rw [if_pos (by decide +kernel)]; kernel_rfl) | (rw [if_neg (by decide +kernel)]; exact ⟨rfl, rfl⟩))
    (fun os started H enc _ => num_lifted os started H enc)

theorem num_card : Rows.JsonNumbersCardSaid :=
  Claim7.holds_tied_plain_at .later [] _ _ _ _ num_said (fun _ h => by cases h) (by kernel_rfl) (fun _ h => by cases h) jsonNumbers_row_tie rfl ⟨rfl, rfl⟩ (by kernel_rfl) rfl
    (fun f fn hf hfn => by
      obtain rfl : f = 8 := Option.some.inj ((show Tryd.prog.funcNamed "muniment/munimentlaw01.JsonNumbers" = some 8 by kernel_rfl).symm.trans hf) |>.symm
      obtain rfl : fn = Tryd.f8 := (Option.some.inj (Tryd.func8.symm.trans hfn)).symm
      exact ⟨by kernel_rfl, fun j t ht => by
        rw [Tryd.params8] at ht
        have hm : t ∈ [2, 37] := by simpa using Array.mem_of_getElem? ht
        have hall : ([2, 37].all fun u => !Tryd.prog.wantsStandIn u) = true := by kernel_rfl
        exact (show Tryd.prog.wantsStandIn t = false by simpa using List.all_eq_true.1 hall t hm)⟩)
    (by kernel_rfl)
#print axioms num_card
end Go.Proofs.YtijibjdgnaphiaaDoor
