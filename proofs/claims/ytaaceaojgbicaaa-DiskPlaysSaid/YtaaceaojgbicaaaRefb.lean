/- The document's disk as it lies in memory; plain; no condition. -/
import Derived.Test.YtaaceaojgbicaaaKeepb
namespace Go.Proofs.Ytaaceaojgbicaaa
open Go.ChangeShapes Go.WideShapes Go.Deep Go.RowKit Go.Lib Go.Maps

theorem info77z : (Try.prog.info? 77).map (fun i => (i.zero, i.size, i.bytes)) = some (some (.agg #[.int .i64 0, .slice none 0 0]), 2, 32) := by kernel_rfl

/-- A write of the document's: its bytes lie in a block of their own. -/
structure RW where
  n : Int
  b : List UInt8
  g : Nat
  c : Nat

def RW.plain (p : RW) : Wr := (p.n, p.b)
def RW.row (p : RW) : List Value := [.int .i64 p.n, .slice (some ⟨p.g, 0, none⟩) 256 p.c]
def rrows (ps : List RW) : List Value := ps.flatMap RW.row

structure RS where
  size : Nat
  all : List RW
  lasts : Nat
  fuse : Int
  no : Bool
  a0 : Int
  a1 : Int
  a2 : Int

def boxR (v : Value) (r : RS) : Array Value := #[.int .i64 (r.size : Int), v, .int .i64 (r.lasts : Int), .int .i64 r.fuse, .bool r.no, .int .i64 r.a0, .int .i64 r.a1, .int .i64 r.a2]

structure RefAt (B : Nat) (W : World) (rb : Nat) (v : Value) (r : RS) : Prop where
  box : W.heap[rb]? = some (.cells (boxR v r) 38 (0, 0))
  base : B ≤ rb
  bw : B ≤ W.heap.size
  row : W.ownsRow B 77 2 v r.all.length (rrows r.all)
  each : ∀ p ∈ r.all, W.ownsRow 0 5 1 (.slice (some ⟨p.g, 0, none⟩) 256 p.c) 256 (Lib.byteCells p.b) ∧ p.b.length = 256
  size : r.size ≤ 65536
  lasts : r.lasts ≤ r.all.length

/-- What acts on the document's disk leave: all but its box and its row. -/
structure RStays (B : Nat) (W W' : World) : Prop where
  below : Below B W W'
  size : W.heap.size ≤ W'.heap.size
  cells : ∀ (k : Nat) (c : Array Value) (T : TypeId) (fz : Nat × Nat), W.heap[k]? = some (.cells c T fz) → T ≠ 38 → T ≠ 77 → W'.heap[k]? = some (.cells c T fz)
  map : ∀ (k : Nat) (es : Array MapEntry) (c : Nat), W.heap[k]? = some (.map es c) → W'.heap[k]? = some (.map es c)

theorem RStays.refl (B : Nat) (W : World) : RStays B W W := ⟨Below.refl _ _, Nat.le_refl _, fun _ _ _ _ h _ _ => h, fun _ _ _ h => h⟩
theorem RStays.trans {B : Nat} {W W1 W' : World} (h : RStays B W W1) (k : RStays B W1 W') : RStays B W W' :=
  ⟨h.below.trans k.below, Nat.le_trans h.size k.size, fun i c T fz h0 h1 h2 => k.cells i c T fz (h.cells i c T fz h0 h1 h2) h1 h2, fun i es c h0 => k.map i es c (h.map i es c h0)⟩
theorem RStays.of_below {B : Nat} {W W' : World} (hb : Below W.heap.size W W') (hB : B ≤ W.heap.size) : RStays B W W' :=
  ⟨hb.mono hB, hb.size, fun k c T fz h0 _ _ => by rw [hb.block k (heap_lt h0)]; exact h0, fun k es c h0 => by rw [hb.block k (heap_lt h0)]; exact h0⟩
theorem RStays.alloc {B : Nat} {W W1 : World} (h : RStays B W W1) (hB : B ≤ W1.heap.size) (o : Obj) : RStays B W (W1.alloc o) := h.trans (RStays.of_below ((Below.refl _ _).alloc (Nat.le_refl _) o) hB)
theorem RStays.drew {B : Nat} {W W1 : World} (h : RStays B W W1) : RStays B W W1.drew := ⟨h.below.drew, h.size, h.cells, h.map⟩
theorem RStays.of_only {B : Nat} {W W' : World} {b : Nat} {c : Array Value} {T : TypeId} {fz : Nat × Nat} (hO : Only (fun k => k = b) W W') (hb : W.heap[b]? = some (.cells c T fz)) (hT : T = 38 ∨ T = 77) (hB : B ≤ b) (hw : B ≤ W.heap.size) : RStays B W W' := by
  refine ⟨hO.below hw (fun j e => e ▸ hB), hO.size, fun k c' T' fz' h0 h1 h2 => hO.heap h0 (fun e => ?_), fun k es c' h0 => hO.heap h0 (fun e => ?_)⟩
  · have e' : k = b := e
    rw [e', hb] at h0
    cases h0
    rcases hT with rfl | rfl
    · exact h1 rfl
    · exact h2 rfl
  · have e' : k = b := e
    rw [e', hb] at h0
    cases h0
theorem RStays.poke {B : Nat} {W W1 : World} {b : Nat} {c : Array Value} {T : TypeId} {fz : Nat × Nat} (h : RStays B W W1) (hb : W1.heap[b]? = some (.cells c T fz)) (hT : T = 38 ∨ T = 77) (hB : B ≤ b) (hw : B ≤ W1.heap.size) (i : Nat) (u : Value) : RStays B W (W1.setCell ⟨b, i, none⟩ u) :=
  h.trans (RStays.of_only (Only.setCell (S := fun k => k = b) (p := ⟨b, i, none⟩) (Only.refl _ _) (.inl rfl) u) hb hT hB hw)

theorem ownsRow_rstays {B : Nat} {W W' : World} (h : RStays B W W') {B' : Nat} {e : TypeId} {size : Nat} {v : Value} {n : Nat} {xs : List Value} (h1 : e ≠ 38) (h2 : e ≠ 77) (hr : W.ownsRow B' e size v n xs) : W'.ownsRow B' e size v n xs := by
  refine ⟨hr.1, ?_⟩
  rcases hr.2 with hv | ⟨g, cap, cur, rfl, hb1, hgg, rest⟩
  · exact .inl hv
  · exact .inr ⟨g, cap, cur, rfl, hb1, h.cells _ _ _ _ hgg h1 h2, rest⟩
theorem ownsMap_rstays {B : Nat} {W W' : World} (h : RStays B W W') {R : Value → Option (DataW Unit × List MemPlace)} {b n : Nat} {D : DataW Unit} (hm : W.ownsMap Try.prog 3 R b n D) : W'.ownsMap Try.prog 3 R b n D := by
  obtain ⟨es, clock, hb, F, hs, hD⟩ := hm
  exact ⟨es, clock, h.map _ _ _ hb, F, hs, hD⟩

/-- The program's disks stay while acts are done on the document's. -/
theorem DiskAt.rstays {B : Nat} {W W' : World} {a : DA} {s : DS} (h : DiskAt W a s) (hr : RStays B W W') : DiskAt W' a s where
  box := hr.cells _ _ _ _ h.box (by decide) (by decide)
  ne := h.ne
  size := h.size
  lens := h.lens
  wfs := h.wfs
  lastlen := h.lastlen
  last := by obtain ⟨n, D, h1, h2⟩ := h.last; exact ⟨n, D, ownsMap_rstays hr h1, h2⟩
  pend := ownsRow_rstays hr (by decide) (by decide) h.pend
  new := by obtain ⟨D, h1, h2⟩ := h.new; exact ⟨D, ownsMap_rstays hr h1, h2⟩
theorem OwnAt.rstays {w wr w' : World} {db : Nat} {s : DS} {a : DA} (h : OwnAt w wr db s a) (hr : RStays w.heap.size wr w') : OwnAt w w' db s a := ⟨h.at_.rstays hr, h.db, h.below.trans hr.below, h.foot⟩

/-- The document's disk stays while acts are done on the program's. -/
theorem ownsRow_stays {W W' : World} (h : Stays W W') {B' : Nat} {e : TypeId} {size : Nat} {v : Value} {n : Nat} {xs : List Value} (h1 : e ≠ 66) (h2 : e ≠ 72) (hr : W.ownsRow B' e size v n xs) : W'.ownsRow B' e size v n xs := by
  refine ⟨hr.1, ?_⟩
  rcases hr.2 with hv | ⟨g, cap, cur, rfl, hb1, hgg, rest⟩
  · exact .inl hv
  · exact .inr ⟨g, cap, cur, rfl, hb1, h _ _ _ _ hgg h1 h2, rest⟩
theorem RefAt.stays {B : Nat} {W W' : World} {rb : Nat} {v : Value} {r : RS} (h : RefAt B W rb v r) (hs : Stays W W') (hz : W.heap.size ≤ W'.heap.size) : RefAt B W' rb v r where
  box := hs _ _ _ _ h.box (by decide) (by decide)
  base := h.base
  bw := Nat.le_trans h.bw hz
  row := ownsRow_stays hs (by decide) (by decide) h.row
  each := fun p hp => ⟨ownsRow_stays hs (by decide) (by decide) (h.each p hp).1, (h.each p hp).2⟩
  size := h.size
  lasts := h.lasts
theorem RefAt.below {B : Nat} {W W' : World} {rb : Nat} {v : Value} {r : RS} (h : RefAt B W rb v r) (hb : Below W.heap.size W W') : RefAt B W' rb v r := h.stays (Stays.of_below hb) hb.size

theorem RefAt.cells {B : Nat} {W : World} {rb : Nat} {v : Value} {r : RS} (h : RefAt B W rb v r) : W.cell? ⟨rb, 0, none⟩ = some (.int .i64 (r.size : Int)) ∧ W.cell? ⟨rb, 1, none⟩ = some v ∧ W.cell? ⟨rb, 2, none⟩ = some (.int .i64 (r.lasts : Int)) ∧ W.cell? ⟨rb, 3, none⟩ = some (.int .i64 r.fuse) ∧ W.cell? ⟨rb, 4, none⟩ = some (.bool r.no) ∧
    W.cell? ⟨rb, 5, none⟩ = some (.int .i64 r.a0) ∧ W.cell? ⟨rb, 6, none⟩ = some (.int .i64 r.a1) ∧ W.cell? ⟨rb, 7, none⟩ = some (.int .i64 r.a2) := by
  refine ⟨?_, ?_, ?_, ?_, ?_, ?_, ?_, ?_⟩ <;> rw [Lib.cell_of_heap h.box] <;> rfl
theorem RefAt.free {B : Nat} {W : World} {rb : Nat} {v : Value} {r : RS} (h : RefAt B W rb v r) (i : Nat) : W.frozen? ⟨rb, i, none⟩ = false := by simp [World.frozen?, h.box]

theorem RefAt.poke {B : Nat} {W : World} {rb : Nat} {v : Value} {r : RS} (h : RefAt B W rb v r) {r' : RS} {i : Nat} {u : Value} (hc : (boxR v r).setIfInBounds i u = boxR v r') (hz : r'.size = r.size) (ha : r'.all = r.all) (hl : r'.lasts ≤ r'.all.length) :
    RefAt B (W.setCell ⟨rb, i, none⟩ u) rb v r' ∧ RStays B W (W.setCell ⟨rb, i, none⟩ u) := by
  have hO : Only (fun k => k = rb) W (W.setCell ⟨rb, i, none⟩ u) := Only.setCell (S := fun k => k = rb) (p := ⟨rb, i, none⟩) (Only.refl _ _) (.inl rfl) u
  have hR : RStays B W (W.setCell ⟨rb, i, none⟩ u) := (RStays.refl B W).poke h.box (.inl rfl) h.base h.bw i u
  refine ⟨⟨hc ▸ DiskAt.box_poke u h.box, h.base, Nat.le_trans h.bw hR.size, ?_, fun p hp => ?_, hz ▸ h.size, hl⟩, hR⟩
  · rw [ha]
    refine ownsRow_only h.row hO (fun k hk e => ?_)
    rcases h.row.2 with ⟨hv, _⟩ | ⟨g, cap, cur, hv, _, hgg, _⟩
    · rw [hv] at hk; simp [Value.ownBlock] at hk
    · rw [hv] at hk
      simp [Value.ownBlock] at hk
      have e' : k = rb := e
      subst hk
      rw [e', h.box] at hgg
      simp at hgg
  · rw [ha] at hp
    exact ⟨ownsRow_rstays hR (by decide) (by decide) (h.each p hp).1, (h.each p hp).2⟩

theorem RefAt.slice {B : Nat} {W : World} {rb : Nat} {v : Value} {r : RS} (h : RefAt B W rb v r) : ∃ na cap, v = .slice na r.all.length cap ∧ r.all.length ≤ cap ∧ cap ≤ maxLen := by
  rcases h.row.2 with ⟨hv, h0⟩ | ⟨g, cap, cur, hv, _, _, h1, h2, _⟩
  · exact ⟨none, 0, by rw [hv, h0], by omega, by simp [maxLen]⟩
  · exact ⟨_, cap, hv, h1, h2⟩

/-! ### Both disks alike -/
def zeroF : Int → List UInt8 := fun _ => zeroS
structure Sim (s : DS) (r : RS) : Prop where
  size : r.size = s.size
  last : s.last = over zeroF ((r.all.take r.lasts).map RW.plain)
  pend : s.pend = (r.all.drop r.lasts).map RW.plain
  fuse : (s.fused = true ∧ r.fuse = s.left ∧ 0 ≤ s.left ∧ s.left ≤ 9223372036854775807) ∨ (s.fused = false ∧ r.fuse = -1)
  no : r.no = s.down
  acts : r.a0 = s.r ∧ r.a1 = s.w ∧ r.a2 = s.s

theorem Sim.now {s : DS} {r : RS} (h : Sim s r) : s.now = over zeroF (r.all.map RW.plain) := by
  unfold DS.now
  rw [h.last, h.pend, ← over_append, ← List.map_append, List.take_append_drop]
theorem Sim.pending {s : DS} {r : RS} (h : Sim s r) : s.pend.length = r.all.length - r.lasts := by rw [h.pend]; simp
end Go.Proofs.Ytaaceaojgbicaaa
