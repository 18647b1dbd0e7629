/- The statements' arguments opened: bytes, and keys; and what a statement's row asks behind the call; no condition of ours. -/
import Derived.Test.YtfakpgfbpngfpaaRows
import Derived.Test.YtfakpgfbpngfpaaRname
import Derived.Carry
import Derived.ChangeSame
import Derived.Below
import Derived.WideKeyArgs
import Derived.OpenShut
import Derived.ProofKit
import Derived.Lib.SmallJoins
namespace Go.Proofs.Ytfakpgfbpngfpaa
open Go.ChangeShapes Go.WideShapes Go.ChangeAt Go.RowKit

theorem own : ownKnob Try.prog.godebug = none := by kernel_rfl
theorem laidOutD : laidOutB Try.prog = true := by kernel_rfl
theorem readable22 : Try.prog.readableRec 22 = true := by kernel_rfl
theorem row22 : 22 < Try.prog.types.size := of_decide_eq_true (by kernel_rfl)
theorem readable25 : Try.prog.readableRec 25 = true := by kernel_rfl
theorem row25 : 25 < Try.prog.types.size := of_decide_eq_true (by kernel_rfl)
theorem readable3 : Try.prog.readableRec 3 = true := by kernel_rfl
theorem row3 : 3 < Try.prog.types.size := of_decide_eq_true (by kernel_rfl)

section
variable {H : Type} {enc : TypeId × Value → H} {P : Program}

theorem trodAll_stays (hl : laidOutB P = true) {W W' : World} {sp : Nat → Bool} : ∀ {ts : List TypeId} {vs : List Value} {ds : List (DataW H)} {ps : List MemPlace},
    (∀ t ∈ ts, P.readableRec t = true ∧ t < P.types.size) → DataW.TrodAll enc P W 0 (fun _ => true) true ts vs ds ps → (∀ p ∈ ps, W.sameAt W' p) → (∀ p ∈ ps, sp p.block = true) → DataW.TrodAll enc P W' 0 sp true ts vs ds ps
  | [], [], [], _, _, h, _, _ => h
  | [], _ :: _, _, _, _, h, _, _ => h.elim
  | [], [], _ :: _, _, _, h, _, _ => h.elim
  | _ :: _, [], _, _, _, h, _, _ => h.elim
  | _ :: _, _ :: _, [], _, _, h, _, _ => h.elim
  | t :: ts, v :: vs, d :: ds, _, ht, ⟨p, q, h1, h2, e⟩, hs, hsp => by
    subst e
    exact ⟨p, q, WideElems.Trod_stays hl (ht t (by simp)).1 (ht t (by simp)).2 h1 (fun x hx => hs x (by simp [hx])) (fun x hx => hsp x (by simp [hx])),
      trodAll_stays hl (fun t' h' => ht t' (by simp [h'])) h2 (fun x hx => hs x (by simp [hx])) (fun x hx => hsp x (by simp [hx])), rfl⟩

/-- THE LAW's END. -/
theorem post_law {f : Func} {s : ChangeSpec} {W W' : World} {args : Array Value} {ds : List (DataW H)} {before : List MemPlace} {tb : TypeId} (hl : laidOutB P = true)
    (hW : DataW.Whole enc P f.params.toList s.vars false W args.toList ds [] before) (hv : s.vars = []) (hres : (s.fn H (ds ++ [])).results = [.lit (.bool true)]) (hargs : (s.fn H (ds ++ [])).args = ds) (hvars : (s.fn H (ds ++ [])).vars = [])
    (hR : f.resultTypes = #[tb]) (ub : P.underlying tb = some .bool) (ht : ∀ t ∈ f.params.toList, P.readableRec t = true ∧ t < P.types.size) (hb : Below W.heap.size W W') :
    s.post enc P f false true false false W args (.bool true) W' := by
  have hlt : ∀ p ∈ before, p.block < W.heap.size := fun p hp => hW.lt p hp
  obtain ⟨p, q, hA, hV, e, _, _⟩ := id hW
  rw [hv] at hV
  have hq : q = [] := hV
  subst hq
  rw [List.append_nil] at e
  subst e
  refine ⟨ds, [], before, [], before, [], hW, ?_, ?_, ?_, hb.frame _, fun h => by cases h⟩
  · rw [hR, hres]
    exact trodAll_mk1 (shut_bool ub true)
  · rw [hargs]
    exact trodAll_stays hl ht hA (fun x hx => hb.same (hlt x hx)) (fun x hx => by simpa using hlt x hx)
  · rw [hv, hvars]
    rfl
end

theorem open_slice8 {H : Type} {enc : TypeId × Value → H} {W : World} {sp : Nat → Bool} {held : Bool} {base0 : Nat} {v : Value} {x : DataW H × List MemPlace} {fuel : Nat} (hf : DataW.trod enc Try.prog W base0 sp held fuel 22 [v] = some x) :
    ∃ l : List UInt8, Sl W v l := by
  have hu : Try.prog.underlying 22 = some (.slice 5) := Try.underlying22
  rcases open_ints (k := .u8) hu Try.underlying5 (by kernel_rfl) hf with ⟨h0, _⟩ | ⟨a', len, cap, zs, h0, _, hl, hm, hlen, _, hat, hwf⟩
  · simp only [List.cons.injEq, and_true] at h0
    subst h0
    exact ⟨[], none, 0, rfl, .inl rfl, by simp, by omega⟩
  · simp only [List.cons.injEq, and_true] at h0
    subst h0
    have htl : (zs.take len).length = len := by rw [List.length_take]; split at hlen <;> omega
    have hb : ∀ z ∈ zs, ∃ c : UInt8, z = (c.toNat : Int) := fun z hz => by
      obtain ⟨b0, b1⟩ := bounds_u8 (hwf z hz)
      exact ⟨UInt8.ofNat z.toNat, by rw [UInt8.toNat_ofNat_of_lt' (show z.toNat < 2 ^ 8 by omega)]; omega⟩
    refine ⟨(zs.take len).map fun z => UInt8.ofNat z.toNat, some a', cap, by rw [List.length_map, htl], ?_, by rw [List.length_map, htl]; exact hl, by simp only [maxLen] at hm; omega⟩
    by_cases hz : zs.take len = []
    · exact .inl (by rw [hz]; rfl)
    · right
      have h00 := hat 0 (by
        rcases Nat.eq_zero_or_pos zs.length with h | h
        · exact absurd (by rw [List.length_eq_zero_iff.1 h]; simp) hz
        · exact h)
      obtain ⟨b, off, spot⟩ := a'
      have hspot : spot = none := by simpa [Addr.add] using World.cell?_spot h00
      subst hspot
      refine ⟨b, off, rfl, fun i hi => ?_⟩
      have hi1 : i < (zs.take len).length := by simpa using hi
      have hi' : i < zs.length := by rw [List.length_take] at hi1; omega
      have h1 := hat i hi'
      rw [WideShapes.add_plain] at h1
      obtain ⟨c', hc'⟩ := hb _ (List.getElem_mem hi')
      rw [List.getElem_map, List.getElem_take, hc']
      rw [show zs.getD i 0 = zs[i] by simp [List.getD_eq_getElem?_getD, List.getElem?_eq_getElem hi'], hc'] at h1
      rw [h1]
      have e : UInt8.ofNat ((c'.toNat : Int)).toNat = c' := by simp
      rw [e]

theorem open_bytes {H : Type} {enc : TypeId × Value → H} {W : World} {sp : Nat → Bool} {held : Bool} {r : Reach} {base0 base : Nat} {v : Value} {d : DataW H} {ps : List MemPlace} (hv : Value.okWide Try.prog W r base 22 v) (h : DataW.Trod enc Try.prog W base0 sp held 22 v d ps) :
    ∃ l : List UInt8, Sl W v l := by
  obtain ⟨a, n, c, rfl⟩ := okWide_slice Try.underlying22 hv
  obtain ⟨fuel, hf⟩ := h
  exact open_slice8 hf

/-- A key that came in. -/
theorem open_key {H : Type} {enc : TypeId × Value → H} {W : World} {sp : Nat → Bool} {held : Bool} {r : Reach} {base0 base : Nat} {v : Value} {d : DataW H} {ps : List MemPlace} (hv : Value.okWide Try.prog W r base 25 v) (h : DataW.Trod enc Try.prog W base0 sp held 25 v d ps) :
    ∃ (s : Int) (na : Option Addr) (ca : Nat) (l : List UInt8) (t : Nat), v = .agg #[.int .i64 s, .slice na l.length ca, .int .u64 (t : Int)] ∧ BytesIn W na l ∧ l.length ≤ 9223372036854775807 ∧ t < 18446744073709551616 := by
  obtain ⟨v0, v1, v2, y0, y1, y2, n, rfl, -, -, h0, h1, h2⟩ := Joins.open_agg3 Try.underlying25 (by kernel_rfl) (by kernel_rfl) hv h
  obtain ⟨s, e0, -, -⟩ := DataW.trod_int (k := .i64) (by kernel_rfl) h0
  obtain ⟨l, na, ca, rfl, hin, hlc, hca⟩ := open_slice8 h1
  obtain ⟨t, e2, -, hw⟩ := DataW.trod_int (k := .u64) (by kernel_rfl) h2
  simp only [List.cons.injEq, and_true] at e0 e2
  subst e0
  subst e2
  have hw2 : IntKind.u64.min ≤ t ∧ t ≤ IntKind.u64.max := by simpa [Lit.wf] using hw
  have h3 := hw2.1
  have h4 := hw2.2
  rw [show IntKind.u64.min = 0 from rfl] at h3
  rw [show IntKind.u64.max = 18446744073709551615 from rfl] at h4
  obtain ⟨m, rfl⟩ : ∃ m : Nat, t = (m : Int) := ⟨t.toNat, by omega⟩
  exact ⟨s, na, ca, l, m, rfl, hin, by omega, by omega⟩
end Go.Proofs.Ytfakpgfbpngfpaa
