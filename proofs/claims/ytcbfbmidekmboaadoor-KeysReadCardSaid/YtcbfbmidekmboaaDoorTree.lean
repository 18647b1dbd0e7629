/- Values of the package api as trees with their addresses: what an argument of that type is, cell by cell, and that it stays so while older memory stands; over any program whose tables bear the types; no condition. -/
import Derived.WalkKit
import Derived.ProofKit
import Derived.Deep.Slices
import Derived.Deep.Fields
import Derived.Deep.MidRow
import Derived.ChangeSame
import Derived.Below
namespace Go.Proofs.YtcbfbmidekmboaaDoor
open Go.ChangeShapes Go.WideShapes Go.Deep Go.RowKit

/-- A value with the addresses of its two rows. -/
inductive AV where
  | mk (k n : Int) (s : ByteArray) (na : Option Addr) (nc : Nat) (ns : List ByteArray) (xa : Option Addr) (xc : Nat) (xs : List AV)

namespace AV

/-- Its five cells. -/
def row : AV → List Value
  | mk k n s na nc ns xa xc xs => [.int .i64 k, .int .i64 n, .string s, .slice na ns.length nc, .slice xa xs.length xc]

/-- The value. -/
def val (t : AV) : Value := .agg t.row.toArray

def items : AV → List AV
  | mk _ _ _ _ _ _ _ _ xs => xs

theorem row_length (t : AV) : t.row.length = 5 := by cases t; rfl

/-- What holds of all items holds of the value: so of all. -/
theorem ind {p : AV → Prop} (h : ∀ k n s na nc ns xa xc xs, (∀ x ∈ xs, p x) → p (mk k n s na nc ns xa xc xs)) : ∀ t, p t := by
  intro t
  exact AV.rec (motive_1 := p) (motive_2 := fun l => ∀ x ∈ l, p x) (fun k n s na nc ns xa xc xs ih => h k n s na nc ns xa xc xs ih) (fun x hx => absurd hx List.not_mem_nil)
    (fun a l ha hl x hx => (List.mem_cons.1 hx).elim (fun e => e ▸ ha) (fun hx => hl x hx)) t

/-- The strings lie there. -/
def NamesIn (w : World) (na : Option Addr) (ns : List ByteArray) : Prop :=
  ns = [] ∨ ∃ b o, na = some ⟨b, o, none⟩ ∧ ∀ i (h : i < ns.length), w.cell? ⟨b, o + i, none⟩ = some (.string ns[i])

mutual
/-- THE VALUE LIES IN 'w'. -/
def In (w : World) : AV → Prop
  | mk k n s na nc ns xa xc xs => (Lit.int .i64 k).wf = true ∧ (Lit.int .i64 n).wf = true ∧ s.size ≤ maxLen ∧ ns.length ≤ nc ∧ nc ≤ maxLen ∧ xs.length ≤ xc ∧ xc ≤ maxLen ∧
    (∀ x ∈ ns, x.size ≤ maxLen) ∧ NamesIn w na ns ∧ (∀ b o, xa = some ⟨b, o, none⟩ → InAll w b o xs) ∧ (xs = [] ∨ ∃ b o, xa = some ⟨b, o, none⟩)
/-- Values lie in one row, five cells each. -/
def InAll (w : World) (b o : Nat) : List AV → Prop
  | [] => True
  | t :: ts => w.rangeAt b o t.row ∧ In w t ∧ InAll w b (o + 5) ts
end

theorem InAll.at {w : World} {b : Nat} : ∀ {o : Nat} {xs : List AV}, InAll w b o xs → ∀ i (h : i < xs.length), w.rangeAt b (o + i * 5) xs[i].row ∧ In w xs[i]
  | o, t :: ts, h, 0, _ => by
    rw [InAll] at h
    exact ⟨by simpa using h.1, h.2.1⟩
  | o, t :: ts, h, i + 1, hi => by
    rw [InAll] at h
    have := InAll.at h.2.2 i (by simpa using hi)
    rw [show o + (i + 1) * 5 = o + 5 + i * 5 by omega]
    simpa using this

theorem InAll.of {w : World} {b : Nat} : ∀ {o : Nat} {xs : List AV}, (∀ i (h : i < xs.length), w.rangeAt b (o + i * 5) xs[i].row ∧ In w xs[i]) → InAll w b o xs
  | o, [], _ => by simp [InAll]
  | o, t :: ts, h => by
    rw [InAll]
    have h0 := h 0 (by simp)
    simp only [Nat.zero_mul, Nat.add_zero, List.getElem_cons_zero] at h0
    refine ⟨h0.1, h0.2, InAll.of fun i hi => ?_⟩
    have := h (i + 1) (by simpa using hi)
    rw [show o + (i + 1) * 5 = o + 5 + i * 5 by omega] at this
    simpa using this

/-- What is asked of an item, from a value that lies there. -/
theorem In.item {w : World} {k n : Int} {s : ByteArray} {na : Option Addr} {nc : Nat} {ns : List ByteArray} {xa : Option Addr} {xc : Nat} {xs : List AV} (h : In w (mk k n s na nc ns xa xc xs)) (hne : xs ≠ []) :
    ∃ b o, xa = some ⟨b, o, none⟩ ∧ ∀ i (h : i < xs.length), w.rangeAt b (o + i * 5) xs[i].row ∧ In w xs[i] := by
  rw [In] at h
  obtain ⟨_, _, _, _, _, _, _, _, _, hx, h2⟩ := h
  rcases h2 with h2 | ⟨b, o, h2⟩
  · exact absurd h2 hne
  · exact ⟨b, o, h2, fun i hi => (hx b o h2).at i hi⟩

theorem rangeAt_old {w w' : World} (hh : ∀ a : Addr, a.block < w.heap.size → w'.cell? a = w.cell? a) {b o : Nat} {cs : List Value} (h : w.rangeAt b o cs) : w'.rangeAt b o cs := fun j v hv => by
  have h1 := h j v hv
  rw [hh _ (World.block_lt_of_cell? w _ h1)]
  exact h1

theorem In.old {w w' : World} (hh : ∀ a : Addr, a.block < w.heap.size → w'.cell? a = w.cell? a) : ∀ t : AV, In w t → In w' t := by
  intro t
  induction t using AV.ind with
  | h k n s na nc ns xa xc xs ih =>
    intro h
    rw [In] at h ⊢
    obtain ⟨h1, h2, h3, h4, h5, h6, h7, h8, h9, h10, h11⟩ := h
    refine ⟨h1, h2, h3, h4, h5, h6, h7, h8, ?_, fun b o e => ?_, h11⟩
    · rcases h9 with h9 | ⟨b, o, e, h9⟩
      · exact .inl h9
      · exact .inr ⟨b, o, e, fun i hi => by rw [hh _ (World.block_lt_of_cell? w _ (h9 i hi))]; exact h9 i hi⟩
    · exact InAll.of fun i hi => ⟨rangeAt_old hh ((h10 b o e).at i hi).1, ih _ (List.getElem_mem hi) ((h10 b o e).at i hi).2⟩

theorem In.below {w w' : World} {t : AV} (h : In w t) {B : Nat} (hb : Below B w w') (hB : w.heap.size ≤ B) : In w' t := h.old (fun _ ha => hb.cell (Nat.lt_of_lt_of_le ha hB)) t

/-! ### Down: whatever reads as such a value lies there -/
section
variable {H : Type} {enc : TypeId × Value → H} {P : Program} {w : World} {base : Nat} {spare : Nat → Bool} {held : Bool}

theorem names_open {tS t : TypeId} (ht : P.underlying t = some (.slice tS)) (hS : P.underlying tS = some .string) (cS : P.cellsOf tS = 1) {fuel : Nat} {v : Value} {x : DataW H × List MemPlace}
    (h : DataW.trod enc P w base spare held fuel t [v] = some x) : ∃ (na : Option Addr) (nc : Nat) (ns : List ByteArray), v = .slice na ns.length nc ∧ ns.length ≤ nc ∧ nc ≤ maxLen ∧ (∀ x ∈ ns, x.size ≤ maxLen) ∧ NamesIn w na ns := by
  rcases DataW.trod_slice ht h with ⟨h0, _⟩ | ⟨a, len, cap, elems, rest, n, _, h0, _, _, hl, hm, hlen, hel, _, _⟩
  · exact ⟨none, 0, [], by simpa using h0, by simp, by simp [maxLen], by simp, .inl rfl⟩
  · have one : ∀ i, i < len → ∃ s : ByteArray, w.cell? (a.add i) = some (.string s) ∧ s.size ≤ maxLen := fun i hi => by
      have h1 := hel i hi
      rw [List.getElem?_eq_getElem (by omega), cS, Nat.mul_one] at h1
      obtain ⟨cs', h2, h3⟩ := Option.bind_eq_some_iff.1 h1
      obtain ⟨s, rfl, _, hs⟩ := DataW.trod_string hS h3
      exact ⟨s, cell_of_cells?_one h2, hs⟩
    obtain ⟨f, hf⟩ := choose_lt one
    have hlen' : ((List.range len).map f).length = len := by simp
    refine ⟨some a, cap, (List.range len).map f, by rw [hlen']; simpa using h0, by omega, hm, ?_, ?_⟩
    · intro x hx
      obtain ⟨i, hi, rfl⟩ := List.mem_map.1 hx
      exact (hf i (List.mem_range.1 hi)).2
    · by_cases hz : len = 0
      · left; subst hz; rfl
      · right
        obtain ⟨b, off, spot⟩ := a
        have h1 := (hf 0 (by omega)).1
        have hspot : spot = none := by simpa [Addr.add] using World.cell?_spot h1
        subst hspot
        refine ⟨b, off, rfl, fun i hi => ?_⟩
        have := (hf i (by omega)).1
        rw [WideShapes.add_plain] at this
        simpa using this

/-- The numbers of the types, and what the program's tables say of them. -/
structure Tables (P : Program) (tV tI tL tS tNs tXs : TypeId) (f0 f1 f2 f3 f4 : Field) : Prop where
  hV : P.underlying tV = some (.struct #[f0, f1, f2, f3, f4])
  hI : P.underlying tI = some (.int .i64)
  hL : P.underlying tL = some (.int .i64)
  hS : P.underlying tS = some .string
  hNs : P.underlying tNs = some (.slice tS)
  hXs : P.underlying tXs = some (.slice tV)
  types : f0.type = tI ∧ f1.type = tL ∧ f2.type = tS ∧ f3.type = tNs ∧ f4.type = tXs
  one : oneCellFields P #[f0, f1, f2, f3, f4] = true
  cV : P.cellsOf tV = 5
  cS : P.cellsOf tS = 1

theorem open_cells {tV tI tL tS tNs tXs : TypeId} {f0 f1 f2 f3 f4 : Field} (T : Tables P tV tI tL tS tNs tXs f0 f1 f2 f3 f4) : ∀ (fuel : Nat) (cs : List Value) (x : DataW H × List MemPlace),
    DataW.trod enc P w base spare held fuel tV cs = some x → ∃ t : AV, cs = t.row ∧ t.In w := by
  intro fuel
  induction fuel using Nat.strongRecOn with
  | _ fuel ih =>
    intro cs x h
    obtain ⟨xs, n, hn, _, hlen, hxl, hf⟩ := DataW.trod_struct T.hV h
    rw [T.cV] at hlen
    match cs, hlen, xs, hxl with
    | [c0, c1, c2, c3, c4], _, [y0, y1, y2, y3, y4], _ =>
      obtain ⟨o0, k0⟩ := hone_of T.one 0 f0 rfl
      obtain ⟨o1, k1⟩ := hone_of T.one 1 f1 rfl
      obtain ⟨o2, k2⟩ := hone_of T.one 2 f2 rfl
      obtain ⟨o3, k3⟩ := hone_of T.one 3 f3 rfl
      obtain ⟨o4, k4⟩ := hone_of T.one 4 f4 rfl
      obtain ⟨e0, e1, e2, e3, e4⟩ := T.types
      have g0 := hf 0 f0 rfl
      have g1 := hf 1 f1 rfl
      have g2 := hf 2 f2 rfl
      have g3 := hf 3 f3 rfl
      have g4 := hf 4 f4 rfl
      rw [e0] at k0 g0
      rw [e1] at k1 g1
      rw [e2] at k2 g2
      rw [e3] at k3 g3
      rw [e4] at k4 g4
      simp [o0, o1, o2, o3, o4, k0, k1, k2, k3, k4] at g0 g1 g2 g3 g4
      obtain ⟨k, hk, _, wk⟩ := DataW.trod_int T.hI g0
      obtain ⟨m, hm, _, wm⟩ := DataW.trod_int T.hL g1
      obtain ⟨s, hs, _, ws⟩ := DataW.trod_string T.hS g2
      obtain ⟨na, nc, ns, hns, hnl, hnc, hnw, hnin⟩ := names_open T.hNs T.hS T.cS g3
      simp only [List.cons.injEq, and_true] at hk hm hs
      subst hk hm hs hns
      rcases DataW.trod_slice T.hXs g4 with ⟨h0, _⟩ | ⟨a, len, cap, elems, rest, n', hn', h0, _, _, hl, hmm, hel, hat, _, _⟩
      · simp only [List.cons.injEq, and_true] at h0
        subst h0
        refine ⟨.mk k m s na nc ns none 0 [], rfl, ?_⟩
        rw [In]
        exact ⟨wk, wm, ws, hnl, hnc, by simp, by simp [maxLen], hnw, hnin, (fun b o e => by cases e), Or.inl rfl⟩
      · simp only [List.cons.injEq, and_true] at h0
        subst h0
        have one : ∀ i, i < len → ∃ t : AV, (∀ j v, t.row[j]? = some v → w.cell? ((a.add (i * 5)).add j) = some v) ∧ t.In w := fun i hi => by
          have h1 := hat i hi
          rw [List.getElem?_eq_getElem (by omega), T.cV] at h1
          obtain ⟨cs', h2, h3⟩ := Option.bind_eq_some_iff.1 h1
          obtain ⟨t, rfl, ht⟩ := ih n' (by omega) cs' _ h3
          obtain ⟨_, _, hcell⟩ := World.cells?_some h2
          refine ⟨t, fun j v hv => ?_, ht⟩
          have hj : j < 5 := by
            have := (List.getElem?_eq_some_iff.1 hv).1
            rwa [t.row_length] at this
          rw [hcell j hj, hv]
        have : Inhabited AV := ⟨.mk 0 0 ⟨#[]⟩ none 0 [] none 0 []⟩
        obtain ⟨f, hf⟩ := choose_lt one
        have hlen' : ((List.range len).map f).length = len := by simp
        refine ⟨.mk k m s na nc ns (some a) cap ((List.range len).map f), by simp [row], ?_⟩
        rw [In]
        refine ⟨wk, wm, ws, hnl, hnc, by simpa using hl, hmm, hnw, hnin, fun b o e => ?_, ?_⟩
        · obtain rfl := Option.some.inj e
          refine InAll.of fun i hi => ?_
          have hi' : i < len := by simpa using hi
          have h1 := hf i hi'
          simp only [List.getElem_map, List.getElem_range]
          refine ⟨fun j v hv => ?_, h1.2⟩
          have := h1.1 j v hv
          rwa [WideShapes.add_plain, WideShapes.add_plain] at this
        · by_cases hz : len = 0
          · left; subst hz; rfl
          · right
            obtain ⟨b, off, spot⟩ := a
            have h1 := (hf 0 (by omega)).1 0 (f 0).row.head! (by cases f 0; rfl)
            rw [Deep.add_add] at h1
            have hspot : spot = none := by simpa [Addr.add] using World.cell?_spot h1
            subst hspot
            exact ⟨b, off, rfl⟩

/-- A PARAMETER OF THE TYPE: such a value. -/
theorem open_val {tV tI tL tS tNs tXs : TypeId} {f0 f1 f2 f3 f4 : Field} (T : Tables P tV tI tL tS tNs tXs f0 f1 f2 f3 f4) {r : Reach} {b0 : Nat} {v : Value} {d : DataW H} {p : List MemPlace}
    (hv : Value.okWide P w r b0 tV v) (h : DataW.Trod enc P w base spare held tV v d p) : ∃ t : AV, v = t.val ∧ t.In w := by
  obtain ⟨cs, rfl, _⟩ := okWide_struct T.hV hv
  obtain ⟨fuel, hf⟩ := h
  obtain ⟨t, ht, hin⟩ := open_cells T fuel _ _ hf
  refine ⟨t, ?_, hin⟩
  rw [AV.val, ← ht]
  simp [Value.cells]
end

end AV
end Go.Proofs.YtcbfbmidekmboaaDoor
