/- OrderNumbers, proved: the row and its tied card: numbers are ordered as the language orders them, texts byte by byte, and both stand behind null, false and true; for all numbers and bytes. -/
import Derived.Test.YtdmpcoicniihhaaDoorLawnumb
import Derived.Test.YtdmpcoicniihhaaDoorTabs
import Derived.OpenShut
namespace Go.Proofs.YtdmpcoicniihhaaDoor
open Go.ChangeShapes Go.WideShapes Go.ChangeAt Go.RowKit

theorem readable35 : Tryd.prog.readableRec 35 = true := by kernel_rfl
theorem row35 : 35 < Tryd.prog.types.size := of_decide_eq_true (by kernel_rfl)
theorem readable37 : Tryd.prog.readableRec 37 = true := by kernel_rfl
theorem row37 : 37 < Tryd.prog.types.size := of_decide_eq_true (by kernel_rfl)

set_option maxRecDepth 100000 in
theorem open_pair {H : Type} {enc : TypeId × Value → H} {W : World} {sp : Nat → Bool} {held : Bool} {r : Reach} {base0 base : Nat} {v : Value} {d : DataW H} {ps : List MemPlace} (hv : Value.okWide Tryd.prog W r base 35 v) (h : DataW.Trod enc Tryd.prog W base0 sp held 35 v d ps) :
    ∃ n m : Int, v = .agg #[.int .i64 n, .int .i64 m] ∧ (Lit.int .i64 n).wf = true ∧ (Lit.int .i64 m).wf = true := by
  have hu : Tryd.prog.underlying 35 = some (.array 2 2) := Tryd.underlying35
  simp only [Value.okWide, hu] at hv
  obtain ⟨cs, rfl, hsz, _⟩ := hv
  obtain ⟨fuel, hf⟩ := h
  have c2 : Tryd.prog.cellsOf 2 = 1 := by kernel_rfl
  have c35 : Tryd.prog.cellsOf 35 = 2 := by kernel_rfl
  obtain ⟨xs, m, _, _, hl, hxl, hat⟩ := DataW.trod_array hu hf
  rw [c35] at hl
  have h0 := hat 0 (by omega)
  have h1 := hat 1 (by omega)
  rw [c2] at h0 h1
  simp only [Value.cells] at hl h0 h1
  match cs, hl with
  | ⟨[y0, y1]⟩, _ =>
    match xs, hxl with
    | [z0, z1], _ =>
      obtain ⟨a, ha, _, wa⟩ := DataW.trod_int (k := .i64) Tryd.underlying2 (by simpa using h0)
      obtain ⟨b, hb, _, wb⟩ := DataW.trod_int (k := .i64) Tryd.underlying2 (by simpa using h1)
      refine ⟨a, b, ?_, wa, wb⟩
      simp only [List.cons.injEq, and_true] at ha hb
      rw [ha, hb]

set_option maxRecDepth 100000 in
theorem open_trio {H : Type} {enc : TypeId × Value → H} {W : World} {sp : Nat → Bool} {held : Bool} {base0 fuel : Nat} {y0 y1 y2 : Value} {x : DataW H × List MemPlace} (hf : DataW.trod enc Tryd.prog W base0 sp held fuel 36 [y0, y1, y2] = some x) :
    ∃ a b c : Nat, y0 = .int .u8 (a : Int) ∧ y1 = .int .u8 (b : Int) ∧ y2 = .int .u8 (c : Int) ∧ a < 256 ∧ b < 256 ∧ c < 256 := by
  have hu : Tryd.prog.underlying 36 = some (.array 3 5) := Tryd.underlying36
  have c5 : Tryd.prog.cellsOf 5 = 1 := by kernel_rfl
  obtain ⟨xs, m, _, _, hl, hxl, hat⟩ := DataW.trod_array hu hf
  have h0 := hat 0 (by omega)
  have h1 := hat 1 (by omega)
  have h2 := hat 2 (by omega)
  rw [c5] at h0 h1 h2
  match xs, hxl with
  | [z0, z1, z2], _ =>
    obtain ⟨a, ha, _, wa⟩ := DataW.trod_int (k := .u8) Tryd.underlying5 (by simpa using h0)
    obtain ⟨b, hb, _, wb⟩ := DataW.trod_int (k := .u8) Tryd.underlying5 (by simpa using h1)
    obtain ⟨c, hc, _, wc⟩ := DataW.trod_int (k := .u8) Tryd.underlying5 (by simpa using h2)
    obtain ⟨a1, a2⟩ := bounds_u8 wa
    obtain ⟨b1, b2⟩ := bounds_u8 wb
    obtain ⟨c1, c2⟩ := bounds_u8 wc
    obtain ⟨a', rfl⟩ : ∃ n : Nat, a = (n : Int) := ⟨a.toNat, by omega⟩
    obtain ⟨b', rfl⟩ : ∃ n : Nat, b = (n : Int) := ⟨b.toNat, by omega⟩
    obtain ⟨c', rfl⟩ : ∃ n : Nat, c = (n : Int) := ⟨c.toNat, by omega⟩
    simp only [List.cons.injEq, and_true] at ha hb hc
    exact ⟨a', b', c', ha, hb, hc, by omega, by omega, by omega⟩

set_option maxRecDepth 100000 in
theorem open_six {H : Type} {enc : TypeId × Value → H} {W : World} {sp : Nat → Bool} {held : Bool} {r : Reach} {base0 base : Nat} {v : Value} {d : DataW H} {ps : List MemPlace} (hv : Value.okWide Tryd.prog W r base 37 v) (h : DataW.Trod enc Tryd.prog W base0 sp held 37 v d ps) :
    ∃ a b c d e f : Nat, v = .agg #[.int .u8 (a : Int), .int .u8 (b : Int), .int .u8 (c : Int), .int .u8 (d : Int), .int .u8 (e : Int), .int .u8 (f : Int)] ∧ a < 256 ∧ b < 256 ∧ c < 256 ∧ d < 256 ∧ e < 256 ∧ f < 256 := by
  have hu : Tryd.prog.underlying 37 = some (.array 2 36) := Tryd.underlying37
  simp only [Value.okWide, hu] at hv
  obtain ⟨cs, rfl, hsz, _⟩ := hv
  obtain ⟨fuel, hf⟩ := h
  have c36 : Tryd.prog.cellsOf 36 = 3 := by kernel_rfl
  have c37 : Tryd.prog.cellsOf 37 = 6 := by kernel_rfl
  obtain ⟨xs, m, _, _, hl, hxl, hat⟩ := DataW.trod_array hu hf
  rw [c37] at hl
  have h0 := hat 0 (by omega)
  have h1 := hat 1 (by omega)
  rw [c36] at h0 h1
  simp only [Value.cells] at hl h0 h1
  match cs, hl with
  | ⟨[y0, y1, y2, y3, y4, y5]⟩, _ =>
    match xs, hxl with
    | [z0, z1], _ =>
      obtain ⟨a, b, c, ha, hb, hc, la, lb, lc⟩ := open_trio (x := z0) (by simpa using h0)
      obtain ⟨d, e, f, hd, he, hf', ld, le, lf⟩ := open_trio (x := z1) (by simpa using h1)
      exact ⟨a, b, c, d, e, f, by rw [ha, hb, hc, hd, he, hf'], la, lb, lc, ld, le, lf⟩

set_option maxRecDepth 100000 in
theorem numb_contract (H : Type) (enc : TypeId × Value → H) (W : World) (base : Nat) (args : Array Value) (ds gs : List (DataW H)) (before : List MemPlace)
    (hval : ∀ (j : Nat) t v, Tryd.f7.params[j]? = some t → args[j]? = some v → Value.okWide Tryd.prog W .any base t v)
    (hW : DataW.Whole enc Tryd.prog Tryd.f7.params.toList Rows.orderNumbersSpec.vars false W args.toList ds gs before) (hL : laidMetH Tryd.prog Rows.orderNumbersRow.laid W) :
    Calls Tryd.prog 7 args W fun e W' => ∃ v, e = .returned v ∧ Rows.orderNumbersSpec.post enc Tryd.prog Tryd.f7 false true false false W args v W' := by
  rw [MakeChecks.laidMetH_plain _ _ _ (by kernel_rfl)] at hL
  have hT := tabs_of hL (by simp [Rows.orderNumbersRow]) (by simp [Rows.orderNumbersRow])
  obtain ⟨p, q, hA0, hV, rfl, hfz, hnd⟩ := id hW
  have hA : DataW.TrodAll enc Tryd.prog W 0 (fun _ => true) true Tryd.f7.params.toList args.toList ds p := hA0
  rw [Tryd.params7] at hA hval
  obtain ⟨v0, vs0, d0, ds0, p0, q0, hargs, rfl, rfl, h0, r0⟩ := trodAll_cons hA
  obtain ⟨v1, vs1, d1, ds1, p1, q1, rfl, rfl, rfl, h1, r1⟩ := trodAll_cons r0
  obtain ⟨rfl, rfl, rfl⟩ := trodAll_nil r1
  obtain rfl : args = #[v0, v1] := by cases args; simp_all
  obtain ⟨rfl, rfl⟩ := trodVars_none hV
  obtain ⟨n, m, rfl, wn, wm⟩ := open_pair (hval 0 35 v0 rfl rfl) h0
  obtain ⟨a, b, c, d, e, f, rfl, hs⟩ := open_six (hval 1 37 v1 rfl rfl) h1
  refine (lawnumb_any n m a b c d e f W wn wm hs hT).mono fun e W' ⟨he, hb⟩ => ?_
  subst he
  exact ⟨_, rfl, post_law laidOutD hW rfl rfl rfl rfl (by kernel_rfl) Tryd.underlying4 (fun t ht => by
    rw [Tryd.params7] at ht
    have ht' : t = 35 ∨ t = 37 := by simpa using ht
    rcases ht' with rfl | rfl
    · exact ⟨readable35, row35⟩
    · exact ⟨readable37, row37⟩) hb⟩

/-- The witness' arguments: zeroes. -/
def leastN : Array Value := #[.agg #[.int .i64 0, .int .i64 0], .agg #[.int .u8 0, .int .u8 0, .int .u8 0, .int .u8 0, .int .u8 0, .int .u8 0]]

set_option maxRecDepth 100000 in
theorem numb_lifted (os : Os) (started : os.Started) (H : Type) (enc : TypeId × Value → H) :
    ReturnsInHanded {} Tryd.checked os 7 .any (fun w args => (Rows.orderNumbersSpec.pre enc Tryd.prog Tryd.f7 Rows.orderNumbersRow.domain false w args ∧ laidMetH Tryd.prog Rows.orderNumbersRow.laid w) ∧ sizedMet enc Tryd.prog Tryd.f7 (OpenSpec.ofChange Rows.orderNumbersSpec) false w args)
      (Rows.orderNumbersSpec.post enc Tryd.prog Tryd.f7 false true false false) := by
  refine returnsInHanded_of_change_and (C := Tryd.checked) (X := fun w _ => laidMetH Tryd.prog Rows.orderNumbersRow.laid w) (fun _ _ _ hh h => h.of_heap hh) own started (by kernel_rfl) Tryd.func7
    (ChangeSpec.witness_shaped (enc := enc) (C := Tryd.checked) (os := os) (X := fun w _ => laidMetH Tryd.prog Rows.orderNumbersRow.laid w) false (World.laidAll Tryd.prog os Rows.orderNumbersRow.laid) leastN 8 (World.laidAll_os _ _ _)
      (World.shaped_of_ZipB (by kernel_rfl) (by kernel_rfl)) (by kernel_rfl) (by kernel_rfl) (by kernel_rfl)
      (by rw [MakeChecks.laidMetH_plain _ _ _ (by kernel_rfl)]; exact laidMet_laidAll _ (by kernel_rfl) (by kernel_rfl))) ?_
  intro W base args ds gs before hval hW _ _ hL _
  exact numb_contract H enc W base args ds gs before hval hW hL

theorem numb_said : Rows.OrderNumbersSaid :=
  OpenClaim.holds_of_wide 7 Tryd.f7 rfl rfl rfl rfl rfl rfl rfl ⟨rfl, rfl, rfl, rfl, rfl⟩ rfl rfl rfl rfl rfl (by kernel_rfl) Tryd.func7 (by kernel_rfl)
    (of_decide_eq_true (by kernel_rfl)) (by unfold Func.isWrapper; first | (rw [if_pos (by decide +kernel)]; kernel_rfl) | (rw [if_neg (by decide +kernel)]; exact ⟨rfl, rfl⟩))
    (fun os started H enc _ => numb_lifted os started H enc)

theorem numb_card : Rows.OrderNumbersCardSaid :=
  Claim7.holds_tied_plain_at .later [] _ _ _ _ numb_said (fun _ h => by cases h) (by kernel_rfl) (fun _ h => by cases h) orderNumbers_row_tie rfl ⟨rfl, rfl⟩ (by kernel_rfl) rfl
    (fun f fn hf hfn => by
      obtain rfl : f = 7 := Option.some.inj ((show Tryd.prog.funcNamed "muniment/munimentlaw03.OrderNumbers" = some 7 by kernel_rfl).symm.trans hf) |>.symm
      obtain rfl : fn = Tryd.f7 := (Option.some.inj (Tryd.func7.symm.trans hfn)).symm
      exact ⟨by kernel_rfl, fun j t ht => by
        rw [Tryd.params7] at ht
        have hm : t ∈ [35, 37] := by simpa using Array.mem_of_getElem? ht
        have hall : ([35, 37].all fun u => !Tryd.prog.wantsStandIn u) = true := by kernel_rfl
        exact (show Tryd.prog.wantsStandIn t = false by simpa using List.all_eq_true.1 hall t hm)⟩)
    (by kernel_rfl)
#print axioms numb_card
end Go.Proofs.YtdmpcoicniihhaaDoor
