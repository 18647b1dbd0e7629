/- The statements' arguments opened: scripts of acts, and what is kept; no condition of ours. -/
import Derived.Test.YtaaceaojgbicaaaOps
import Derived.Test.YtaaceaojgbicaaaOpens
namespace Go.Proofs.Ytaaceaojgbicaaa
open Go.ChangeShapes Go.WideShapes Go.ChangeAt Go.RowKit Go.Deep

section
variable {H : Type} {enc : TypeId × Value → H} {P : Program} {w : World} {base : Nat} {spare : Nat → Bool} {held : Bool}

theorem bools_open {tB t : TypeId} (ht : P.underlying t = some (.slice tB)) (hB : P.underlying tB = some .bool) (cB : P.cellsOf tB = 1) {fuel : Nat} {v : Value} {x : DataW H × List MemPlace}
    (h : DataW.trod enc P w base spare held fuel t [v] = some x) : ∃ (na : Option Addr) (nc : Nat) (ns : List Bool), v = .slice na ns.length nc ∧ ns.length ≤ nc ∧ nc ≤ maxLen ∧ BoolsIn w na ns := by
  rcases DataW.trod_slice ht h with ⟨h0, _⟩ | ⟨a, len, cap, elems, rest, n, _, h0, _, _, hl, hm, hlen, hel, _, _⟩
  · exact ⟨none, 0, [], by simpa using h0, by simp, by simp [maxLen], .inl rfl⟩
  · have one : ∀ i, i < len → ∃ s : Bool, w.cell? (a.add i) = some (.bool s) := fun i hi => by
      have h1 := hel i hi
      rw [List.getElem?_eq_getElem (by omega), cB, Nat.mul_one] at h1
      obtain ⟨cs', h2, h3⟩ := Option.bind_eq_some_iff.1 h1
      obtain ⟨s, rfl, _⟩ := DataW.trod_bool hB h3
      exact ⟨s, cell_of_cells?_one h2⟩
    obtain ⟨f, hf⟩ := choose_lt one
    have hlen' : ((List.range len).map f).length = len := by simp
    refine ⟨some a, cap, (List.range len).map f, by rw [hlen']; simpa using h0, by omega, hm, ?_⟩
    by_cases hz : len = 0
    · left; subst hz; rfl
    · right
      obtain ⟨b, off, spot⟩ := a
      have h1 := hf 0 (by omega)
      have hspot : spot = none := by simpa [Addr.add] using World.cell?_spot h1
      subst hspot
      refine ⟨b, off, rfl, fun i hi => ?_⟩
      have := hf i (by omega)
      rw [WideShapes.add_plain] at this
      simpa using this

/-- What the program's tables say of an act. -/
structure OpTables (P : Program) (tV tI tB tK : TypeId) (f0 f1 f2 f3 : Field) : Prop where
  hV : P.underlying tV = some (.struct #[f0, f1, f2, f3])
  hI : P.underlying tI = some (.int .i64)
  hB : P.underlying tB = some .bool
  hK : P.underlying tK = some (.slice tB)
  types : f0.type = tI ∧ f1.type = tI ∧ f2.type = tI ∧ f3.type = tK
  one : oneCellFields P #[f0, f1, f2, f3] = true
  cV : P.cellsOf tV = 4
  cB : P.cellsOf tB = 1

theorem op_open {tV tI tB tK : TypeId} {f0 f1 f2 f3 : Field} (T : OpTables P tV tI tB tK f0 f1 f2 f3) (fuel : Nat) (cs : List Value) (x : DataW H × List MemPlace)
    (h : DataW.trod enc P w base spare held fuel tV cs = some x) : ∃ t : OpV, cs = t.row ∧ t.Good w := by
  obtain ⟨xs, n, hn, _, hlen, hxl, hf⟩ := DataW.trod_struct T.hV h
  rw [T.cV] at hlen
  match cs, hlen, xs, hxl with
  | [c0, c1, c2, c3], _, [y0, y1, y2, y3], _ =>
    obtain ⟨o0, k0⟩ := hone_of T.one 0 f0 rfl
    obtain ⟨o1, k1⟩ := hone_of T.one 1 f1 rfl
    obtain ⟨o2, k2⟩ := hone_of T.one 2 f2 rfl
    obtain ⟨o3, k3⟩ := hone_of T.one 3 f3 rfl
    obtain ⟨e0, e1, e2, e3⟩ := T.types
    have g0 := hf 0 f0 rfl
    have g1 := hf 1 f1 rfl
    have g2 := hf 2 f2 rfl
    have g3 := hf 3 f3 rfl
    rw [e0] at k0 g0
    rw [e1] at k1 g1
    rw [e2] at k2 g2
    rw [e3] at k3 g3
    simp [o0, o1, o2, o3, k0, k3] at g0 g1 g2 g3
    obtain ⟨a, ha, _, wa⟩ := DataW.trod_int T.hI g0
    obtain ⟨b, hb, _, wb⟩ := DataW.trod_int T.hI g1
    obtain ⟨c, hc, _, wc⟩ := DataW.trod_int T.hI g2
    obtain ⟨na, nc, ns, hns, hnl, hnc, hnin⟩ := bools_open T.hK T.hB T.cB g3
    simp only [List.cons.injEq, and_true] at ha hb hc
    subst ha hb hc hns
    unfold maxLen at hnc
    exact ⟨⟨a, b, c, na, nc, ns⟩, rfl, wa, wb, wc, by dsimp only; omega, hnin⟩

theorem script_open {tS tV tI tB tK : TypeId} {f0 f1 f2 f3 : Field} (hS : P.underlying tS = some (.slice tV)) (T : OpTables P tV tI tB tK f0 f1 f2 f3) {fuel : Nat} {v : Value} {x : DataW H × List MemPlace}
    (h : DataW.trod enc P w base spare held fuel tS [v] = some x) : ∃ (na : Option Addr) (nc : Nat) (l : List OpV), v = .slice na l.length nc ∧ ScriptIn w na l := by
  rcases DataW.trod_slice hS h with ⟨h0, _⟩ | ⟨a, len, cap, elems, rest, n', _, h0, _, _, hl, hmm, hel, hat, _, _⟩
  · simp only [List.cons.injEq, and_true] at h0
    subst h0
    exact ⟨none, 0, [], rfl, by simp, .inl rfl, by simp⟩
  · simp only [List.cons.injEq, and_true] at h0
    subst h0
    have one : ∀ i, i < len → ∃ t : OpV, (∀ j v, t.row[j]? = some v → w.cell? ((a.add (i * 4)).add j) = some v) ∧ t.Good w := fun i hi => by
      have h1 := hat i hi
      rw [List.getElem?_eq_getElem (by omega), T.cV] at h1
      obtain ⟨cs', h2, h3⟩ := Option.bind_eq_some_iff.1 h1
      obtain ⟨t, rfl, ht⟩ := op_open T _ cs' _ h3
      obtain ⟨_, _, hcell⟩ := World.cells?_some h2
      refine ⟨t, fun j v hv => ?_, ht⟩
      have hj : j < 4 := (List.getElem?_eq_some_iff.1 hv).1
      rw [hcell j hj, hv]
    have : Inhabited OpV := ⟨⟨0, 0, 0, none, 0, []⟩⟩
    obtain ⟨f, hf⟩ := choose_lt one
    have hlen' : ((List.range len).map f).length = len := by simp
    unfold maxLen at hmm
    refine ⟨some a, cap, (List.range len).map f, by rw [hlen'], fun o ho => ?_, ?_, by rw [hlen']; omega⟩
    · obtain ⟨i, hi, rfl⟩ := List.mem_map.1 ho
      exact (hf i (List.mem_range.1 hi)).2
    · by_cases hz : len = 0
      · left; subst hz; rfl
      · right
        obtain ⟨b, off, spot⟩ := a
        have h1 := (hf 0 (by omega)).1 0 _ rfl
        rw [Deep.add_add] at h1
        have hspot : spot = none := by simpa [Addr.add] using World.cell?_spot h1
        subst hspot
        refine ⟨b, off, rfl, fun i hi => ?_⟩
        have hi' : i < len := by simpa using hi
        have h1 := hf i hi'
        simp only [List.getElem_map, List.getElem_range]
        intro j v hv
        have := h1.1 j v hv
        rwa [WideShapes.add_plain, WideShapes.add_plain] at this
end

theorem opTables : ∃ f0 f1 f2 f3, OpTables Try.prog 33 3 4 31 f0 f1 f2 f3 :=
  ⟨_, _, _, _, Try.underlying33, Try.underlying3, Try.underlying4, Try.underlying31, ⟨rfl, rfl, rfl, rfl⟩, by kernel_rfl, by kernel_rfl, by kernel_rfl⟩

/-- A parameter of scripts. -/
theorem open_script {H : Type} {enc : TypeId × Value → H} {W : World} {sp : Nat → Bool} {held : Bool} {r : Reach} {base0 base : Nat} {v : Value} {d : DataW H} {ps : List MemPlace} (hv : Value.okWide Try.prog W r base 22 v) (h : DataW.Trod enc Try.prog W base0 sp held 22 v d ps) :
    ∃ (na : Option Addr) (nc : Nat) (l : List OpV), v = .slice na l.length nc ∧ ScriptIn W na l := by
  obtain ⟨a, n, c, rfl⟩ := okWide_slice Try.underlying22 hv
  obtain ⟨fuel, hf⟩ := h
  obtain ⟨f0, f1, f2, f3, T⟩ := opTables
  exact script_open Try.underlying22 T hf
/-- A parameter of bools. -/
theorem open_keep {H : Type} {enc : TypeId × Value → H} {W : World} {sp : Nat → Bool} {held : Bool} {r : Reach} {base0 base : Nat} {v : Value} {d : DataW H} {ps : List MemPlace} (hv : Value.okWide Try.prog W r base 31 v) (h : DataW.Trod enc Try.prog W base0 sp held 31 v d ps) :
    ∃ (na : Option Addr) (nc : Nat) (l : List Bool), v = .slice na l.length nc ∧ l.length ≤ 9223372036854775807 ∧ BoolsIn W na l := by
  obtain ⟨a, n, c, rfl⟩ := okWide_slice Try.underlying31 hv
  obtain ⟨fuel, hf⟩ := h
  obtain ⟨f0, f1, f2, f3, T⟩ := opTables
  obtain ⟨na, nc, ns, h1, h2, h3, h4⟩ := bools_open T.hK T.hB T.cB hf
  unfold maxLen at h3
  exact ⟨na, nc, ns, h1, by omega, h4⟩
#print axioms open_script
end Go.Proofs.Ytaaceaojgbicaaa
