/- KeysLists, proved: the row and its tied card: compound keys of lists of one length are ordered value by value, those that fall the other way round, and are split as they were; for all lists (those of more than 600 nodes or 100 values are looked at by no promise). -/
import Derived.Test.YtcbfbmidekmboaaDoorLawlists
import Derived.Test.YtcbfbmidekmboaaDoorTabs
namespace Go.Proofs.YtcbfbmidekmboaaDoor
open Go.ChangeShapes Go.WideShapes Go.Deep Go.ChangeAt Go.RowKit

theorem readable42 : Tryd.prog.readableRec 42 = true := by kernel_rfl
theorem row42 : 42 < Tryd.prog.types.size := of_decide_eq_true (by kernel_rfl)
theorem readable23 : Tryd.prog.readableRec 23 = true := by kernel_rfl
theorem row23 : 23 < Tryd.prog.types.size := of_decide_eq_true (by kernel_rfl)

section
variable {H : Type} {enc : TypeId × Value → H} {w : World} {base : Nat} {spare : Nat → Bool} {held : Bool}

theorem items_open {fuel : Nat} {v : Value} {x : DataW H × List MemPlace} (h : DataW.trod enc Tryd.prog w base spare held fuel 23 [v] = some x) :
    ∃ (xa : Option Addr) (xc : Nat) (xs : List AV), v = .slice xa xs.length xc ∧ AV.Its w xa xs ∧ xs.length ≤ 9223372036854775807 := by
  rcases DataW.trod_slice tables.hXs h with ⟨h0, _⟩ | ⟨a, len, cap, elems, rest, n', hn', h0, _, _, hl, hmm, hel, hat, _, _⟩
  · exact ⟨none, 0, [], by simpa using h0, .inl rfl, by simp⟩
  · have one : ∀ i, i < len → ∃ t : AV, (∀ j v, t.row[j]? = some v → w.cell? ((a.add (i * 5)).add j) = some v) ∧ t.In w := fun i hi => by
      have h1 := hat i hi
      rw [List.getElem?_eq_getElem (by omega), tables.cV] at h1
      obtain ⟨cs', h2, h3⟩ := Option.bind_eq_some_iff.1 h1
      obtain ⟨t, rfl, ht⟩ := AV.open_cells tables _ cs' _ h3
      obtain ⟨_, _, hcell⟩ := World.cells?_some h2
      refine ⟨t, fun j v hv => ?_, ht⟩
      have hj : j < 5 := by
        have := (List.getElem?_eq_some_iff.1 hv).1
        rwa [t.row_length] at this
      rw [hcell j hj, hv]
    have : Inhabited AV := ⟨.mk 0 0 ⟨#[]⟩ none 0 [] none 0 []⟩
    obtain ⟨f, hf⟩ := choose_lt one
    have hlen' : ((List.range len).map f).length = len := by simp
    refine ⟨some a, cap, (List.range len).map f, by rw [hlen']; simpa using h0, ?_, by rw [hlen']; simp only [maxLen] at hmm; omega⟩
    by_cases hz : len = 0
    · left; subst hz; rfl
    · right
      obtain ⟨b, off, spot⟩ := a
      have h1 := (hf 0 (by omega)).1 0 (f 0).row.head! (by cases f 0; rfl)
      rw [Deep.add_add] at h1
      have hspot : spot = none := by simpa [Addr.add] using World.cell?_spot h1
      subst hspot
      refine ⟨b, off, rfl, fun i hi => ?_⟩
      have hi' : i < len := by simpa using hi
      have h2 := hf i hi'
      simp only [List.getElem_map, List.getElem_range]
      refine ⟨fun j v hv => ?_, h2.2⟩
      have := h2.1 j v hv
      rwa [WideShapes.add_plain, WideShapes.add_plain] at this

theorem bools_open {fuel : Nat} {v : Value} {x : DataW H × List MemPlace} (h : DataW.trod enc Tryd.prog w base spare held fuel 40 [v] = some x) :
    ∃ (da : Option Addr) (dc : Nat) (down : List Bool), v = .slice da down.length dc ∧ BoolsIn w da down ∧ down.length ≤ 9223372036854775807 := by
  have c4 : Tryd.prog.cellsOf 4 = 1 := by kernel_rfl
  rcases DataW.trod_slice Tryd.underlying40 h with ⟨h0, _⟩ | ⟨a, len, cap, elems, rest, n', hn', h0, _, _, hl, hmm, hel, hat, _, _⟩
  · exact ⟨none, 0, [], by simpa using h0, .inl rfl, by simp⟩
  · have one : ∀ i, i < len → ∃ b : Bool, w.cell? (a.add i) = some (.bool b) := fun i hi => by
      have h1 := hat i hi
      rw [List.getElem?_eq_getElem (by omega), c4, Nat.mul_one] at h1
      obtain ⟨cs', h2, h3⟩ := Option.bind_eq_some_iff.1 h1
      obtain ⟨b, rfl, _⟩ := DataW.trod_bool Tryd.underlying4 h3
      exact ⟨b, cell_of_cells?_one h2⟩
    obtain ⟨f, hf⟩ := choose_lt one
    have hlen' : ((List.range len).map f).length = len := by simp
    refine ⟨some a, cap, (List.range len).map f, by rw [hlen']; simpa using h0, ?_, by rw [hlen']; simp only [maxLen] at hmm; omega⟩
    by_cases hz : len = 0
    · left; subst hz; rfl
    · right
      obtain ⟨b, off, spot⟩ := a
      have h1 := hf 0 (by omega)
      have hspot : spot = none := by simpa [Addr.add] using World.cell?_spot h1
      subst hspot
      refine ⟨b, off, rfl, fun i hi => ?_⟩
      have := hf i (by simpa using hi)
      rw [WideShapes.add_plain] at this
      simpa using this

/-- The statement's own list: values, and which of them fall. -/
theorem open_pair {r : Reach} {b0 : Nat} {v : Value} {d : DataW H} {p : List MemPlace} (hv : Value.okWide Tryd.prog w r b0 42 v) (h : DataW.Trod enc Tryd.prog w base spare held 42 v d p) :
    ∃ (xa : Option Addr) (xc : Nat) (xs : List AV) (da : Option Addr) (dc : Nat) (down : List Bool), v = .agg #[.slice xa xs.length xc, .slice da down.length dc] ∧ AV.Its w xa xs ∧ xs.length ≤ 9223372036854775807 ∧ BoolsIn w da down ∧ down.length ≤ 9223372036854775807 := by
  obtain ⟨cs, rfl, _⟩ := okWide_struct Tryd.underlying42 hv
  obtain ⟨fuel, hf⟩ := h
  obtain ⟨xs, n, hn, _, hlen, hxl, hfs⟩ := DataW.trod_struct Tryd.underlying42 hf
  have c42 : Tryd.prog.cellsOf 42 = 2 := by kernel_rfl
  have c23 : Tryd.prog.cellsOf 23 = 1 := by kernel_rfl
  have c40 : Tryd.prog.cellsOf 40 = 1 := by kernel_rfl
  rw [c42] at hlen
  have g0 := hfs 0 _ rfl
  have g1 := hfs 1 _ rfl
  obtain ⟨l⟩ := cs
  simp only [Value.cells] at hlen g0 g1
  match l, hlen, xs, hxl with
  | [y0, y1], _, [z0, z1], _ =>
    simp [c23] at g0
    simp [c40] at g1
    obtain ⟨xa, xc, ts, rfl, h1, h2⟩ := items_open g0
    obtain ⟨da, dc, down, rfl, h3, h4⟩ := bools_open g1
    exact ⟨xa, xc, ts, da, dc, down, rfl, h1, h2, h3, h4⟩

/-- A list of values. -/
theorem open_values {r : Reach} {b0 : Nat} {v : Value} {d : DataW H} {p : List MemPlace} (hv : Value.okWide Tryd.prog w r b0 23 v) (h : DataW.Trod enc Tryd.prog w base spare held 23 v d p) :
    ∃ (xa : Option Addr) (xc : Nat) (xs : List AV), v = .slice xa xs.length xc ∧ AV.Its w xa xs ∧ xs.length ≤ 9223372036854775807 := by
  obtain ⟨a, n, c, rfl⟩ := okWide_slice tables.hXs hv
  obtain ⟨fuel, hf⟩ := h
  exact items_open hf
end

set_option maxRecDepth 100000 in
theorem lists_contract (H : Type) (enc : TypeId × Value → H) (W : World) (base : Nat) (args : Array Value) (ds gs : List (DataW H)) (before : List MemPlace)
    (hval : ∀ (j : Nat) t v, Tryd.f7.params[j]? = some t → args[j]? = some v → Value.okWide Tryd.prog W .any base t v)
    (hW : DataW.Whole enc Tryd.prog Tryd.f7.params.toList Rows.keysListsSpec.vars false W args.toList ds gs before) (hL : laidMetH Tryd.prog Rows.keysListsRow.laid W) :
    Calls Tryd.prog 7 args W fun e W' => ∃ v, e = .returned v ∧ Rows.keysListsSpec.post enc Tryd.prog Tryd.f7 false true false false W args v W' := by
  rw [MakeChecks.laidMetH_plain _ _ _ (by kernel_rfl)] at hL
  have hT := tabs_of hL (by simp [Rows.keysListsRow]) (by simp [Rows.keysListsRow])
  obtain ⟨p, q, hA0, hV, rfl, hfz, hnd⟩ := id hW
  have hA : DataW.TrodAll enc Tryd.prog W 0 (fun _ => true) true Tryd.f7.params.toList args.toList ds p := hA0
  rw [Tryd.params7] at hA hval
  obtain ⟨v0, vs0, d0, ds0, p0, q0, hargs, rfl, rfl, h0, r0⟩ := trodAll_cons hA
  obtain ⟨v1, vs1, d1, ds1, p1, q1, rfl, rfl, rfl, h1, r1⟩ := trodAll_cons r0
  obtain ⟨rfl, rfl, rfl⟩ := trodAll_nil r1
  obtain rfl : args = #[v0, v1] := by cases args; simp_all
  obtain ⟨rfl, rfl⟩ := trodVars_none hV
  obtain ⟨xa, xc, xs, da, dc, down, rfl, hx, hxl, hd, hdl⟩ := open_pair (hval 0 42 v0 rfl rfl) h0
  obtain ⟨ya, yc, ys, rfl, hy, hyl⟩ := open_values (hval 1 23 v1 rfl rfl) h1
  refine (lawlists_any xa xc xs da dc down ya yc ys W hx hy hxl hyl hd hdl hT).mono fun e W' ⟨he, hb⟩ => ?_
  subst he
  exact ⟨_, rfl, post_law laidOutD hW rfl rfl rfl rfl (by kernel_rfl) Tryd.underlying4 (fun t ht => by
    rw [Tryd.params7] at ht
    have ht' : t = 42 ∨ t = 23 := by simpa using ht
    rcases ht' with rfl | rfl
    · exact ⟨readable42, row42⟩
    · exact ⟨readable23, row23⟩) hb⟩

/-- The witness' arguments. -/
def lists_least : Array Value := #[.agg #[.slice none 0 0, .slice none 0 0], .slice none 0 0]

set_option maxRecDepth 100000 in
theorem lists_lifted (os : Os) (started : os.Started) (H : Type) (enc : TypeId × Value → H) :
    ReturnsInHanded {} Tryd.checked os 7 .any (fun w args => (Rows.keysListsSpec.pre enc Tryd.prog Tryd.f7 Rows.keysListsRow.domain false w args ∧ laidMetH Tryd.prog Rows.keysListsRow.laid w) ∧ sizedMet enc Tryd.prog Tryd.f7 (OpenSpec.ofChange Rows.keysListsSpec) false w args)
      (Rows.keysListsSpec.post enc Tryd.prog Tryd.f7 false true false false) := by
  refine returnsInHanded_of_change_and (C := Tryd.checked) (X := fun w _ => laidMetH Tryd.prog Rows.keysListsRow.laid w) (fun _ _ _ hh h => h.of_heap hh) own started (by kernel_rfl) Tryd.func7
    (ChangeSpec.witness_shaped (enc := enc) (C := Tryd.checked) (os := os) (X := fun w _ => laidMetH Tryd.prog Rows.keysListsRow.laid w) false (World.laidAll Tryd.prog os Rows.keysListsRow.laid) lists_least 8 (World.laidAll_os _ _ _)
      (World.shaped_of_ZipB (by kernel_rfl) (by kernel_rfl)) (by kernel_rfl) (by kernel_rfl) (by kernel_rfl)
      (by rw [MakeChecks.laidMetH_plain _ _ _ (by kernel_rfl)]; exact laidMet_laidAll _ (by kernel_rfl) (by kernel_rfl))) ?_
  intro W base args ds gs before hval hW _ _ hL _
  exact lists_contract H enc W base args ds gs before hval hW hL

theorem lists_said : Rows.KeysListsSaid :=
  OpenClaim.holds_of_wide 7 Tryd.f7 rfl rfl rfl rfl rfl rfl rfl ⟨rfl, rfl, rfl, rfl, rfl⟩ rfl rfl rfl rfl rfl (by kernel_rfl) Tryd.func7 (by kernel_rfl)
    (of_decide_eq_true (by kernel_rfl)) (by unfold Func.isWrapper; first | (rw [if_pos (by decide +kernel)]; kernel_rfl) | (rw [if_neg (by decide +kernel)]; exact ⟨rfl, rfl⟩))
    (fun os started H enc _ => lists_lifted os started H enc)

theorem lists_card : Rows.KeysListsCardSaid :=
  Claim7.holds_tied_plain_at .later [] _ _ _ _ lists_said (fun _ h => by cases h) (by kernel_rfl) (fun _ h => by cases h) keysLists_row_tie rfl ⟨rfl, rfl⟩ (by kernel_rfl) rfl
    (fun f fn hf hfn => by
      obtain rfl : f = 7 := Option.some.inj ((show Tryd.prog.funcNamed "muniment/munimentlaw04.KeysLists" = some 7 by kernel_rfl).symm.trans hf) |>.symm
      obtain rfl : fn = Tryd.f7 := (Option.some.inj (Tryd.func7.symm.trans hfn)).symm
      exact ⟨by kernel_rfl, fun j t ht => by
        rw [Tryd.params7] at ht
        have hm : t ∈ [42, 23] := by simpa using Array.mem_of_getElem? ht
        have hall : ([42, 23].all fun u => !Tryd.prog.wantsStandIn u) = true := by kernel_rfl
        exact (show Tryd.prog.wantsStandIn t = false by simpa using List.all_eq_true.1 hall t hm)⟩)
    (by kernel_rfl)
#print axioms lists_card
end Go.Proofs.YtcbfbmidekmboaaDoor
