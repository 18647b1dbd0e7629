/- OrderLists, proved: the row and its tied card: arrays of numbers are ordered as their first unlike numbers are, and where there are none by how many they have; for all lists (those of more than 24 numbers are looked at by no promise). -/
import Derived.Test.YtdmpcoicniihhaaDoorLawlst
import Derived.Test.YtdmpcoicniihhaaDoorTabs
import Derived.OpenShut
import Derived.ChangeSlices
import Derived.WideShapes
namespace Go.Proofs.YtdmpcoicniihhaaDoor
open Go.ChangeShapes Go.WideShapes Go.ChangeAt Go.RowKit

theorem readable40 : Tryd.prog.readableRec 40 = true := by kernel_rfl
theorem row40 : 40 < Tryd.prog.types.size := of_decide_eq_true (by kernel_rfl)

theorem open_list {H : Type} {enc : TypeId × Value → H} {W : World} {held : Bool} {r : Reach} {base0 base : Nat} {v : Value} {d : DataW H} {ps : List MemPlace} (hv : Value.okWide Tryd.prog W r base 40 v) (h : DataW.Trod enc Tryd.prog W base0 (fun _ => true) held 40 v d ps) :
    ∃ (na : Option Addr) (nc : Nat) (ls : List Int), v = .slice na ls.length nc ∧ IntsIn W na ls ∧ ∀ x ∈ ls, (Lit.int .i64 x).wf = true := by
  have hu : Tryd.prog.underlying 40 = some (.slice 2) := Tryd.underlying40
  obtain ⟨a, n, c, rfl⟩ := okWide_slice hu hv
  obtain ⟨fuel, hf⟩ := h
  rcases open_ints (k := .i64) hu Tryd.underlying2 (by kernel_rfl) hf with ⟨h0, _⟩ | ⟨a', len, cap, zs, h0, _, hl, hm, hlen, _, hat, hwf⟩
  · simp only [Value.cells, List.cons.injEq, Value.slice.injEq, and_true] at h0
    obtain ⟨rfl, rfl, rfl⟩ := h0
    exact ⟨none, 0, [], rfl, .inl rfl, by simp⟩
  · simp only [Value.cells, List.cons.injEq, Value.slice.injEq, and_true] at h0
    obtain ⟨rfl, rfl, rfl⟩ := h0
    simp only [if_true] at hlen
    have htl : (zs.take n).length = n := by rw [List.length_take]; omega
    refine ⟨some a', c, zs.take n, by rw [htl], ?_, fun x hx => hwf x (List.mem_of_mem_take hx)⟩
    by_cases hz : zs.take n = []
    · exact .inl hz
    · right
      have h00 := hat 0 (by
        rcases Nat.eq_zero_or_pos zs.length with h | h
        · exact absurd (by rw [List.length_eq_zero_iff.1 h]; simp) hz
        · exact h)
      obtain ⟨b, off, spot⟩ := a'
      have hspot : spot = none := by simpa [Addr.add] using World.cell?_spot h00
      subst hspot
      refine ⟨b, off, rfl, fun i hi => ?_⟩
      have hi' : i < zs.length := by rw [List.length_take] at hi; omega
      have := hat i hi'
      rw [WideShapes.add_plain] at this
      rw [this, List.getElem_take, List.getD_eq_getElem?_getD, List.getElem?_eq_getElem hi']
      rfl

set_option maxRecDepth 100000 in
theorem lst_contract (H : Type) (enc : TypeId × Value → H) (W : World) (base : Nat) (args : Array Value) (ds gs : List (DataW H)) (before : List MemPlace)
    (hval : ∀ (j : Nat) t v, Tryd.f8.params[j]? = some t → args[j]? = some v → Value.okWide Tryd.prog W .any base t v)
    (hW : DataW.Whole enc Tryd.prog Tryd.f8.params.toList Rows.orderListsSpec.vars false W args.toList ds gs before) (hL : laidMetH Tryd.prog Rows.orderListsRow.laid W) :
    Calls Tryd.prog 8 args W fun e W' => ∃ v, e = .returned v ∧ Rows.orderListsSpec.post enc Tryd.prog Tryd.f8 false true false false W args v W' := by
  rw [MakeChecks.laidMetH_plain _ _ _ (by kernel_rfl)] at hL
  have hT := tabs_of hL (by simp [Rows.orderListsRow]) (by simp [Rows.orderListsRow])
  obtain ⟨p, q, hA0, hV, rfl, hfz, hnd⟩ := id hW
  have hA : DataW.TrodAll enc Tryd.prog W 0 (fun _ => true) true Tryd.f8.params.toList args.toList ds p := hA0
  rw [Tryd.params8] at hA hval
  obtain ⟨v0, vs0, d0, ds0, p0, q0, hargs, rfl, rfl, h0, r0⟩ := trodAll_cons hA
  obtain ⟨v1, vs1, d1, ds1, p1, q1, rfl, rfl, rfl, h1, r1⟩ := trodAll_cons r0
  obtain ⟨rfl, rfl, rfl⟩ := trodAll_nil r1
  obtain rfl : args = #[v0, v1] := by cases args; simp_all
  obtain ⟨rfl, rfl⟩ := trodVars_none hV
  obtain ⟨na, nc, ls, rfl, hin, hwn⟩ := open_list (hval 0 40 v0 rfl rfl) h0
  obtain ⟨ma, mc, ms, rfl, him, hwm⟩ := open_list (hval 1 40 v1 rfl rfl) h1
  refine (lawlst_any na ma nc mc ls ms W hin him hwn hwm hT).mono fun e W' ⟨he, hb⟩ => ?_
  subst he
  exact ⟨_, rfl, post_law laidOutD hW rfl rfl rfl rfl (by kernel_rfl) Tryd.underlying4 (fun t ht => by
    rw [Tryd.params8] at ht
    obtain rfl : t = 40 := by simpa using ht
    exact ⟨readable40, row40⟩) hb⟩

/-- The witness' arguments: no numbers. -/
def leastL : Array Value := #[.slice none 0 0, .slice none 0 0]

set_option maxRecDepth 100000 in
theorem lst_lifted (os : Os) (started : os.Started) (H : Type) (enc : TypeId × Value → H) :
    ReturnsInHanded {} Tryd.checked os 8 .any (fun w args => (Rows.orderListsSpec.pre enc Tryd.prog Tryd.f8 Rows.orderListsRow.domain false w args ∧ laidMetH Tryd.prog Rows.orderListsRow.laid w) ∧ sizedMet enc Tryd.prog Tryd.f8 (OpenSpec.ofChange Rows.orderListsSpec) false w args)
      (Rows.orderListsSpec.post enc Tryd.prog Tryd.f8 false true false false) := by
  refine returnsInHanded_of_change_and (C := Tryd.checked) (X := fun w _ => laidMetH Tryd.prog Rows.orderListsRow.laid w) (fun _ _ _ hh h => h.of_heap hh) own started (by kernel_rfl) Tryd.func8
    (ChangeSpec.witness_shaped (enc := enc) (C := Tryd.checked) (os := os) (X := fun w _ => laidMetH Tryd.prog Rows.orderListsRow.laid w) false (World.laidAll Tryd.prog os Rows.orderListsRow.laid) leastL 8 (World.laidAll_os _ _ _)
      (World.shaped_of_ZipB (by kernel_rfl) (by kernel_rfl)) (by kernel_rfl) (by kernel_rfl) (by kernel_rfl)
      (by rw [MakeChecks.laidMetH_plain _ _ _ (by kernel_rfl)]; exact laidMet_laidAll _ (by kernel_rfl) (by kernel_rfl))) ?_
  intro W base args ds gs before hval hW _ _ hL _
  exact lst_contract H enc W base args ds gs before hval hW hL

theorem lst_said : Rows.OrderListsSaid :=
  OpenClaim.holds_of_wide 8 Tryd.f8 rfl rfl rfl rfl rfl rfl rfl ⟨rfl, rfl, rfl, rfl, rfl⟩ rfl rfl rfl rfl rfl (by kernel_rfl) Tryd.func8 (by kernel_rfl)
    (of_decide_eq_true (by kernel_rfl)) (by unfold Func.isWrapper; first | (rw [if_pos (by decide +kernel)]; kernel_rfl) | (rw [if_neg (by decide +kernel)]; exact ⟨rfl, rfl⟩))
    (fun os started H enc _ => lst_lifted os started H enc)

theorem lst_card : Rows.OrderListsCardSaid :=
  Claim7.holds_tied_plain_at .later [] _ _ _ _ lst_said (fun _ h => by cases h) (by kernel_rfl) (fun _ h => by cases h) orderLists_row_tie rfl ⟨rfl, rfl⟩ (by kernel_rfl) rfl
    (fun f fn hf hfn => by
      obtain rfl : f = 8 := Option.some.inj ((show Tryd.prog.funcNamed "muniment/munimentlaw03.OrderLists" = some 8 by kernel_rfl).symm.trans hf) |>.symm
      obtain rfl : fn = Tryd.f8 := (Option.some.inj (Tryd.func8.symm.trans hfn)).symm
      exact ⟨by kernel_rfl, fun j t ht => by
        rw [Tryd.params8] at ht
        have hm : t ∈ [40] := by simpa using Array.mem_of_getElem? ht
        have hall : ([40].all fun u => !Tryd.prog.wantsStandIn u) = true := by kernel_rfl
        exact (show Tryd.prog.wantsStandIn t = false by simpa using List.all_eq_true.1 hall t hm)⟩)
    (by kernel_rfl)
#print axioms lst_card
end Go.Proofs.YtdmpcoicniihhaaDoor
