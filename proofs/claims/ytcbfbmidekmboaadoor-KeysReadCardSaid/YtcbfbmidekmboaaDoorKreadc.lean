/- KeysRead, proved: the row and its tied card: all bytes are read as the value whose key they begin with, or refused; for every input, no condition of ours. -/
import Derived.Test.YtcbfbmidekmboaaDoorLawkread
import Derived.Test.YtcbfbmidekmboaaDoorTabs
namespace Go.Proofs.YtcbfbmidekmboaaDoor
open Go.ChangeShapes Go.WideShapes Go.ChangeAt Go.RowKit

theorem readable28 : Tryd.prog.readableRec 28 = true := by kernel_rfl
theorem row28 : 28 < Tryd.prog.types.size := of_decide_eq_true (by kernel_rfl)

set_option maxRecDepth 100000 in
theorem open_sl {H : Type} {enc : TypeId × Value → H} {W : World} {sp : Nat → Bool} {held : Bool} {r : Reach} {base0 base : Nat} {v : Value} {d : DataW H} {ps : List MemPlace} (hv : Value.okWide Tryd.prog W r base 28 v) (h : DataW.Trod enc Tryd.prog W base0 sp held 28 v d ps) :
    ∃ l : List UInt8, Sl W v l := by
  have hu : Tryd.prog.underlying 28 = some (.slice 5) := Tryd.underlying28
  obtain ⟨a, n, c, rfl⟩ := okWide_slice hu hv
  obtain ⟨fuel, hf⟩ := h
  rcases open_ints (k := .u8) hu Tryd.underlying5 (by kernel_rfl) hf with ⟨h0, _⟩ | ⟨a', len, cap, zs, h0, _, hl, hm, hlen, _, hat, hwf⟩
  · simp only [Value.cells, List.cons.injEq, Value.slice.injEq, and_true] at h0
    obtain ⟨rfl, rfl, rfl⟩ := h0
    exact ⟨[], none, 0, rfl, .inl rfl, by simp, by omega⟩
  · simp only [Value.cells, List.cons.injEq, Value.slice.injEq, and_true] at h0
    obtain ⟨rfl, rfl, rfl⟩ := h0
    have htl : (zs.take n).length = n := by rw [List.length_take]; split at hlen <;> omega
    have hb : ∀ z ∈ zs, ∃ c : UInt8, z = (c.toNat : Int) := fun z hz => by
      obtain ⟨b0, b1⟩ := bounds_u8 (hwf z hz)
      exact ⟨UInt8.ofNat z.toNat, by rw [UInt8.toNat_ofNat_of_lt' (show z.toNat < 2 ^ 8 by omega)]; omega⟩
    refine ⟨(zs.take n).map fun z => UInt8.ofNat z.toNat, some a', c, by rw [List.length_map, htl], ?_, by rw [List.length_map, htl]; exact hl, by simp only [maxLen] at hm; omega⟩
    by_cases hz : zs.take n = []
    · exact .inl (by rw [hz]; rfl)
    · right
      have h00 := hat 0 (by
        rcases Nat.eq_zero_or_pos zs.length with h | h
        · exact absurd (by rw [List.length_eq_zero_iff.1 h]; simp) hz
        · exact h)
      obtain ⟨b, off, spot⟩ := a'
      have hspot : spot = none := by simpa [Addr.add] using World.cell?_spot h00
      subst hspot
      refine ⟨b, off, rfl, fun i hi => ?_⟩
      have hi1 : i < (zs.take n).length := by simpa using hi
      have hi' : i < zs.length := by rw [List.length_take] at hi1; omega
      have h1 := hat i hi'
      rw [WideShapes.add_plain] at h1
      obtain ⟨c', hc'⟩ := hb _ (List.getElem_mem hi')
      rw [List.getElem_map, List.getElem_take, hc']
      rw [show zs.getD i 0 = zs[i] by simp [List.getD_eq_getElem?_getD, List.getElem?_eq_getElem hi'], hc'] at h1
      rw [h1]
      have e : UInt8.ofNat ((c'.toNat : Int)).toNat = c' := by simp
      rw [e]

set_option maxRecDepth 100000 in
theorem kread_contract (H : Type) (enc : TypeId × Value → H) (W : World) (base : Nat) (args : Array Value) (ds gs : List (DataW H)) (before : List MemPlace)
    (hval : ∀ (j : Nat) t v, Tryd.f4.params[j]? = some t → args[j]? = some v → Value.okWide Tryd.prog W .any base t v)
    (hW : DataW.Whole enc Tryd.prog Tryd.f4.params.toList Rows.keysReadSpec.vars false W args.toList ds gs before) (hL : laidMetH Tryd.prog Rows.keysReadRow.laid W) :
    Calls Tryd.prog 4 args W fun e W' => ∃ v, e = .returned v ∧ Rows.keysReadSpec.post enc Tryd.prog Tryd.f4 false true false false W args v W' := by
  rw [MakeChecks.laidMetH_plain _ _ _ (by kernel_rfl)] at hL
  have hT := tabs_of hL (by simp [Rows.keysReadRow]) (by simp [Rows.keysReadRow])
  obtain ⟨p, q, hA0, hV, rfl, hfz, hnd⟩ := id hW
  have hA : DataW.TrodAll enc Tryd.prog W 0 (fun _ => true) true Tryd.f4.params.toList args.toList ds p := hA0
  rw [Tryd.params4] at hA hval
  obtain ⟨v0, vs0, d0, ds0, p0, q0, hargs, rfl, rfl, h0, r0⟩ := trodAll_cons hA
  obtain ⟨rfl, rfl, rfl⟩ := trodAll_nil r0
  obtain rfl : args = #[v0] := by cases args; simp_all
  obtain ⟨rfl, rfl⟩ := trodVars_none hV
  obtain ⟨l, hs⟩ := open_sl (hval 0 28 v0 rfl rfl) h0
  refine (lawkread_any v0 l W hs hT).mono fun e W' ⟨he, hb⟩ => ?_
  subst he
  exact ⟨_, rfl, post_law laidOutD hW rfl rfl rfl rfl (by kernel_rfl) Tryd.underlying4 (fun t ht => by
    rw [Tryd.params4] at ht
    obtain rfl : t = 28 := by simpa using ht
    exact ⟨readable28, row28⟩) hb⟩

/-- The witness' arguments. -/
def kread_least : Array Value := #[.slice none 0 0]

set_option maxRecDepth 100000 in
theorem kread_lifted (os : Os) (started : os.Started) (H : Type) (enc : TypeId × Value → H) :
    ReturnsInHanded {} Tryd.checked os 4 .any (fun w args => (Rows.keysReadSpec.pre enc Tryd.prog Tryd.f4 Rows.keysReadRow.domain false w args ∧ laidMetH Tryd.prog Rows.keysReadRow.laid w) ∧ sizedMet enc Tryd.prog Tryd.f4 (OpenSpec.ofChange Rows.keysReadSpec) false w args)
      (Rows.keysReadSpec.post enc Tryd.prog Tryd.f4 false true false false) := by
  refine returnsInHanded_of_change_and (C := Tryd.checked) (X := fun w _ => laidMetH Tryd.prog Rows.keysReadRow.laid w) (fun _ _ _ hh h => h.of_heap hh) own started (by kernel_rfl) Tryd.func4
    (ChangeSpec.witness_shaped (enc := enc) (C := Tryd.checked) (os := os) (X := fun w _ => laidMetH Tryd.prog Rows.keysReadRow.laid w) false (World.laidAll Tryd.prog os Rows.keysReadRow.laid) kread_least 8 (World.laidAll_os _ _ _)
      (World.shaped_of_ZipB (by kernel_rfl) (by kernel_rfl)) (by kernel_rfl) (by kernel_rfl) (by kernel_rfl)
      (by rw [MakeChecks.laidMetH_plain _ _ _ (by kernel_rfl)]; exact laidMet_laidAll _ (by kernel_rfl) (by kernel_rfl))) ?_
  intro W base args ds gs before hval hW _ _ hL _
  exact kread_contract H enc W base args ds gs before hval hW hL

theorem kread_said : Rows.KeysReadSaid :=
  OpenClaim.holds_of_wide 4 Tryd.f4 rfl rfl rfl rfl rfl rfl rfl ⟨rfl, rfl, rfl, rfl, rfl⟩ rfl rfl rfl rfl rfl (by kernel_rfl) Tryd.func4 (by kernel_rfl)
    (of_decide_eq_true (by kernel_rfl)) (by unfold Func.isWrapper; first | (rw [if_pos (by decide +kernel)]; kernel_rfl) | (rw [if_neg (by decide +kernel)]; exact ⟨rfl, rfl⟩))
    (fun os started H enc _ => kread_lifted os started H enc)

theorem kread_card : Rows.KeysReadCardSaid :=
  Claim7.holds_tied_plain_at .later [] _ _ _ _ kread_said (fun _ h => by cases h) (by kernel_rfl) (fun _ h => by cases h) keysRead_row_tie rfl ⟨rfl, rfl⟩ (by kernel_rfl) rfl
    (fun f fn hf hfn => by
      obtain rfl : f = 4 := Option.some.inj ((show Tryd.prog.funcNamed "muniment/munimentlaw04.KeysRead" = some 4 by kernel_rfl).symm.trans hf) |>.symm
      obtain rfl : fn = Tryd.f4 := (Option.some.inj (Tryd.func4.symm.trans hfn)).symm
      exact ⟨by kernel_rfl, fun j t ht => by
        rw [Tryd.params4] at ht
        have hm : t ∈ [28] := by simpa using Array.mem_of_getElem? ht
        have hall : ([28].all fun u => !Tryd.prog.wantsStandIn u) = true := by kernel_rfl
        exact (show Tryd.prog.wantsStandIn t = false by simpa using List.all_eq_true.1 hall t hm)⟩)
    (by kernel_rfl)
#print axioms kread_card
end Go.Proofs.YtcbfbmidekmboaaDoor
