/- Disks of the statements' own: what stays as acts are done; no condition. -/
import Derived.Test.YtaaceaojgbicaaaOps
import Derived.Test.YtaaceaojgbicaaaBsame
import Derived.Test.YtaaceaojgbicaaaLawfuse
import Derived.Deep.RegionHeldLaw
namespace Go.Proofs.Ytaaceaojgbicaaa
open Go.ChangeShapes Go.WideShapes Go.Deep Go.RowKit Go.Lib Go.Maps

/-- A block that is no disk's. -/
theorem DiskAt.far {W : World} {a : DA} {s : DS} (h : DiskAt W a s) {k : Nat} {c : Array Value} {T : TypeId} {fz : Nat × Nat} (hk : W.heap[k]? = some (.cells c T fz)) (h1 : T ≠ 66) (h2 : T ≠ 72) : ¬ a.foot k := by
  intro e
  rcases e with rfl | rfl | rfl | e
  · rw [h.box] at hk; cases hk; exact h1 rfl
  · obtain ⟨n, D, ⟨es, clock, hb, _⟩, _⟩ := h.last
    rw [hb] at hk; cases hk
  · obtain ⟨D, ⟨es, clock, hb, _⟩, _⟩ := h.new
    rw [hb] at hk; cases hk
  · obtain ⟨cur, hc⟩ := h.pv_row k e
    rw [hc] at hk; cases hk; exact h2 rfl

theorem Became.stays {W W' : World} {a : DA} {s s' : DS} (h : DiskAt W a s) (hb : Became a W s' W') {k : Nat} {c : Array Value} {T : TypeId} {fz : Nat × Nat} (hk : W.heap[k]? = some (.cells c T fz)) (h1 : T ≠ 66) (h2 : T ≠ 72) : W'.heap[k]? = some (.cells c T fz) := by
  obtain ⟨_, _, _, hO, _⟩ := hb
  exact hO.heap hk (h.far hk h1 h2)

/-- An open disk: no fuse, not down. -/
structure Open (n : Nat) (s : DS) : Prop where
  size : s.size = n
  fused : s.fused = false
  down : s.down = false

theorem Open.wrote {n : Nat} {s : DS} (h : Open n s) {i : Int} (h0 : 0 ≤ i) (h1 : i < n) {l : List UInt8} (hl : l.length = 256) :
    s.wrote i l = (0, { s with pend := s.pend ++ [(i, l)], w := wrap64 (s.w + 1), k := s.k + 1 }) := by
  have hh : s.hasB i = true := by unfold DS.hasB; rw [h.size]; exact decide_eq_true ⟨h0, h1⟩
  have ho : s.okB = true := by unfold DS.okB; rw [h.fused]; rfl
  have hs : s.spent = s := by unfold DS.spent; rw [h.fused]; rfl
  rw [wrote_ok h.down hh hl ho, hs]
theorem Open.hasB {n : Nat} {s : DS} (h : Open n s) {i : Int} (h0 : 0 ≤ i) (h1 : i < n) : s.hasB i = true := by unfold DS.hasB; rw [h.size]; exact decide_eq_true ⟨h0, h1⟩
theorem Open.synced {n : Nat} {s : DS} (h : Open n s) : s.synced = (0, s.didSync) := by
  have ho : s.okB = true := by unfold DS.okB; rw [h.fused]; rfl
  have hs : s.spent = s := by unfold DS.spent; rw [h.fused]; rfl
  unfold DS.synced
  rw [h.down, ho, hs]; rfl

/-- Which sector an act's number tells. -/
def slotOf (d n : Int) : Int := IntKind.i64.wrap ((IntKind.u64.wrap n).tmod d)
theorem slotOf_eq (d n : Int) (hd : d = 6 ∨ d = 8) : slotOf d n = (n % 18446744073709551616) % d := by
  unfold slotOf
  rw [Go.IntWalk.i64_left, show IntKind.u64.wrap n = n % 18446744073709551616 from IntKind.wrap_u64 n, Int.tmod_eq_emod_of_nonneg (by omega)]
  rcases hd with rfl | rfl <;> unfold wrap64 <;> omega
theorem slotOf_lt (d n : Int) (hd : d = 6 ∨ d = 8) : 0 ≤ slotOf d n ∧ slotOf d n < d := by
  rw [slotOf_eq d n hd]
  rcases hd with rfl | rfl <;> omega

theorem bytesIn_heap {W : World} {g : Nat} {l : List UInt8} {T : TypeId} {fz : Nat × Nat} (h : W.heap[g]? = some (.cells (Lib.byteCells l).toArray T fz)) : BytesIn W (some ⟨g, 0, none⟩) l := by
  refine .inr ⟨g, 0, rfl, fun j hj => ?_⟩
  rw [Lib.cell_of_heap h]
  simpa using byteCells_at l j hj

theorem slot_nat (d n : Int) (hd : d = 6 ∨ d = 8) : ∃ q : Nat, wrap64 ((IntKind.u64.wrap n).tmod d) = (q : Int) ∧ (q : Int) < d := by
  have h := slotOf_lt d n hd
  have e : slotOf d n = wrap64 ((IntKind.u64.wrap n).tmod d) := by unfold slotOf; rw [Go.IntWalk.i64_left]
  rw [e] at h
  exact ⟨(wrap64 ((IntKind.u64.wrap n).tmod d)).toNat, by omega, by omega⟩

/-- The rows of bytes that were read: the first i of eight. -/
structure WasAt (W : World) (b : Nat) (F : Int → List UInt8) (i : Nat) (vs : List Value) : Prop where
  row : W.heap[b]? = some (.cells vs.toArray 47 (0, 0))
  len : vs.length = 8
  got : ∀ j v, vs[j]? = some v → j < i → ∃ g, v = .slice (some ⟨g, 0, none⟩) 256 256 ∧ W.heap[g]? = some (.cells (Lib.byteCells (F j)).toArray 70 (0, 0))

/-- Blocks of these kinds stay. -/
def Stays (W W' : World) : Prop := ∀ (k : Nat) (c : Array Value) (T : TypeId) (fz : Nat × Nat), W.heap[k]? = some (.cells c T fz) → T ≠ 66 → T ≠ 72 → W'.heap[k]? = some (.cells c T fz)
theorem Stays.trans {A B C : World} (h : Stays A B) (k : Stays B C) : Stays A C := fun i c T fz h0 h1 h2 => k i c T fz (h i c T fz h0 h1 h2) h1 h2
theorem Stays.of_below {W W' : World} (hb : Below W.heap.size W W') : Stays W W' := fun k c T fz h0 _ _ => by rw [hb.block k (heap_lt h0)]; exact h0
theorem Stays.of_became {W W' : World} {a : DA} {s s' : DS} (h : DiskAt W a s) (hb : Became a W s' W') : Stays W W' := fun _ _ _ _ h0 h1 h2 => hb.stays h h0 h1 h2
theorem Stays.of_only {W W' : World} {a : DA} {s : DS} (h : DiskAt W a s) (hO : Only (fun k => k = a.db) W W') : Stays W W' := fun _ _ _ _ h0 h1 h2 => hO.heap h0 (fun e => h.far h0 h1 h2 (.inl e))

theorem WasAt.stays {W W' : World} {b i : Nat} {F : Int → List UInt8} {vs : List Value} (h : WasAt W b F i vs) (hs : Stays W W') : WasAt W' b F i vs :=
  ⟨hs _ _ _ _ h.row (by decide) (by decide), h.len, fun j v hj hi => by
    obtain ⟨g, e, hg⟩ := h.got j v hj hi
    exact ⟨g, e, hs _ _ _ _ hg (by decide) (by decide)⟩⟩

theorem WasAt.put {W : World} {b i : Nat} {F : Int → List UInt8} {vs : List Value} {g : Nat} (h : WasAt W b F i vs) (hg : W.heap[g]? = some (.cells (Lib.byteCells (F i)).toArray 70 (0, 0))) (hi : i < 8) :
    WasAt (W.setCell ⟨b, i, none⟩ (.slice (some ⟨g, 0, none⟩) 256 256)) b F (i + 1) (vs.set i (.slice (some ⟨g, 0, none⟩) 256 256)) := by
  have hk : ∀ (k : Nat) (c : Array Value), W.heap[k]? = some (.cells c 70 (0, 0)) → (W.setCell ⟨b, i, none⟩ (.slice (some ⟨g, 0, none⟩) 256 256)).heap[k]? = some (.cells c 70 (0, 0)) := fun k c hc => by
    rw [Below.heap_setCell _ _ _ _ (fun e => by
      have := h.row
      have e' : k = b := e
      rw [← e', hc] at this
      simp at this)]
    exact hc
  refine ⟨?_, by simp [h.len], fun j v hj hji => ?_⟩
  · have := DiskAt.box_poke (i := i) (.slice (some ⟨g, 0, none⟩) 256 256) h.row
    rwa [List.setIfInBounds_toArray] at this
  · by_cases e : j = i
    · subst e
      rw [List.getElem?_set_self (by rw [h.len]; exact hi)] at hj
      cases hj
      exact ⟨g, rfl, hk _ _ hg⟩
    · rw [List.getElem?_set_ne (fun e' => e e'.symm)] at hj
      obtain ⟨g', e1, hg'⟩ := h.got j v hj (by omega)
      exact ⟨g', e1, hk _ _ hg'⟩

theorem WasAt.poke {W : World} {b i : Nat} {F : Int → List UInt8} {vs : List Value} (h : WasAt W b F i vs) {b' : Nat} {c : Array Value} {fz : Nat × Nat} {T : TypeId} (hk : W.heap[b']? = some (.cells c T fz)) (h1 : T ≠ 47) (h2 : T ≠ 70) (q : Nat) (v : Value) : WasAt (W.setCell ⟨b', q, none⟩ v) b F i vs := by
  have keep : ∀ (k : Nat) (c' : Array Value) (T' : TypeId) (fz' : Nat × Nat), W.heap[k]? = some (.cells c' T' fz') → T' ≠ T → (W.setCell ⟨b', q, none⟩ v).heap[k]? = some (.cells c' T' fz') := fun k c' T' fz' hc hT => by
    rw [Below.heap_setCell _ _ _ _ (fun e => by
      have e' : k = b' := e
      rw [e', hk] at hc
      cases hc
      exact hT rfl)]
    exact hc
  exact ⟨keep _ _ _ _ h.row (fun e => h1 e.symm), h.len, fun j v hj hi => by
    obtain ⟨g, e, hg⟩ := h.got j v hj hi
    exact ⟨g, e, keep _ _ _ _ hg (fun e => h2 e.symm)⟩⟩

theorem again_push {ps : List Wr} {ag : List Bool} {q : Nat} {l : List UInt8} (h : ∀ p ∈ ps, ∃ i : Nat, p.1 = i ∧ i < 8 ∧ ag.getD i false = true) (hl : ag.length = 8) (hq : q < 8) : ∀ p ∈ ps ++ [((q : Int), l)], ∃ i : Nat, p.1 = i ∧ i < 8 ∧ (ag.set q true).getD i false = true := by
  intro p hp
  rcases List.mem_append.1 hp with hp | hp
  · obtain ⟨i, e, hi, ha⟩ := h p hp
    refine ⟨i, e, hi, ?_⟩
    rw [List.getD_eq_getElem?_getD] at ha ⊢
    by_cases e' : q = i
    · subst e'
      rw [List.getElem?_set_self (by omega)]; rfl
    · rw [List.getElem?_set_ne e']; exact ha
  · simp at hp
    subst hp
    exact ⟨q, rfl, hq, by rw [List.getD_eq_getElem?_getD, List.getElem?_set_self (by omega)]; rfl⟩

/-- Which sectors were written again. -/
structure AgainAt (W : World) (b : Nat) (ag : List Bool) : Prop where
  row : W.heap[b]? = some (.cells (ag.map Value.bool).toArray 50 (0, 0))
  len : ag.length = 8
theorem AgainAt.stays {W W' : World} {b : Nat} {ag : List Bool} (h : AgainAt W b ag) (hs : Stays W W') : AgainAt W' b ag := ⟨hs _ _ _ _ h.row (by decide) (by decide), h.len⟩
theorem AgainAt.put {W : World} {b i : Nat} {ag : List Bool} (h : AgainAt W b ag) : AgainAt (W.setCell ⟨b, i, none⟩ (.bool true)) b (ag.set i true) := by
  refine ⟨?_, by simp [h.len]⟩
  have := DiskAt.box_poke (i := i) (.bool true) h.row
  rwa [List.setIfInBounds_toArray, show (Value.bool true) = Value.bool true from rfl, ← List.map_set] at this
theorem AgainAt.cell {W : World} {b i : Nat} {ag : List Bool} (h : AgainAt W b ag) (hi : i < 8) : W.cell? ⟨b, i, none⟩ = some (.bool (ag.getD i false)) ∧ W.frozen? ⟨b, i, none⟩ = false := by
  have hi' : i < ag.length := by rw [h.len]; exact hi
  refine ⟨?_, by simp [World.frozen?, h.row]⟩
  rw [Lib.cell_of_heap h.row]
  simp [hi']
theorem WasAt.cell {W : World} {b i k : Nat} {F : Int → List UInt8} {vs : List Value} (h : WasAt W b F k vs) (hi : i < 8) : (∃ v, vs[i]? = some v ∧ W.cell? ⟨b, i, none⟩ = some v) ∧ W.frozen? ⟨b, i, none⟩ = false := by
  have hi' : i < vs.length := by rw [h.len]; exact hi
  refine ⟨⟨vs[i], List.getElem?_eq_getElem hi', ?_⟩, by simp [World.frozen?, h.row]⟩
  rw [Lib.cell_of_heap h.row]
  simp [hi']
end Go.Proofs.Ytaaceaojgbicaaa
