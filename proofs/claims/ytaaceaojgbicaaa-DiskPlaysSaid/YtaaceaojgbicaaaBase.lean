/- A disk as it lies in memory: its tables, sectors and frame; plain facts, no condition. -/
import Derived.Test.YtaaceaojgbicaaaProg
import Derived.WalkKit
import Derived.ProofKit
import Derived.Deep.Slices
import Derived.Deep.Fields
import Derived.Deep.MidRow
import Derived.Deep.WholeRow
import Derived.ChangeSame
import Derived.WalkLawsBesides
import Derived.WalkSpells
import Derived.LoopTactic
import Derived.Deep.LoopGhost
import Derived.Outline
import Derived.Lib.Hide
import Derived.Below
import Derived.OwnWalk
import Derived.Laws.AppendOwn
import Derived.Laws.OwnMore
import Derived.Laws.IdiomStrings
import Derived.Laws.LoneSync
import Derived.Lib.UnsafeStr
import Derived.Maps.RangeWalk
import Derived.IntWalk
namespace Go.Proofs.Ytaaceaojgbicaaa
open Go.ChangeShapes Go.WideShapes Go.Deep Go.RowKit Go.Lib Go.Maps

theorem info72 : (Try.prog.info? 72).map (fun i => (i.size)) = some 257 := by kernel_rfl
theorem info70 : (Try.prog.info? 70).map (fun i => (i.size)) = some 256 := by kernel_rfl

/-! ### Worlds that turn in some blocks alone -/
/-- Since w no older block outside S has turned. -/
structure Only (S : Nat → Prop) (w w' : World) : Prop where
  os : w'.os = w.os
  tape : w'.tape = w.tape
  output : w'.output = w.output
  size : w.heap.size ≤ w'.heap.size
  block : ∀ k, k < w.heap.size → ¬ S k → w'.heap[k]? = w.heap[k]?

namespace Only
variable {S T : Nat → Prop} {w w1 w' : World}
theorem refl (S : Nat → Prop) (w : World) : Only S w w := ⟨rfl, rfl, rfl, Nat.le_refl _, fun _ _ _ => rfl⟩
theorem trans (h : Only S w w1) (k : Only T w1 w') (hT : ∀ j, T j → S j ∨ w.heap.size ≤ j) : Only S w w' :=
  ⟨k.os.trans h.os, k.tape.trans h.tape, k.output.trans h.output, Nat.le_trans h.size k.size, fun i hi hn =>
    (k.block i (Nat.lt_of_lt_of_le hi h.size) (fun e => (hT i e).elim hn (fun h' => by omega))).trans (h.block i hi hn)⟩
theorem mono (h : Only S w w') (hT : ∀ j, S j → T j) : Only T w w' := ⟨h.os, h.tape, h.output, h.size, fun k hk hn => h.block k hk (fun e => hn (hT k e))⟩
theorem of_below (h : Below w.heap.size w w') (S : Nat → Prop) : Only S w w' := ⟨h.os, h.tape, h.output, h.size, fun k hk _ => h.block k hk⟩
theorem below {B : Nat} (h : Only S w w') (hB : B ≤ w.heap.size) (hS : ∀ j, S j → B ≤ j) : Below B w w' :=
  ⟨h.os, h.tape, h.output, h.size, fun k hk => h.block k (by omega) (fun e => by have := hS k e; omega)⟩
theorem of_grown {row : Option Nat} (h : w.grownBy w' row) (hr : ∀ k, row = some k → S k) : Only S w w' :=
  ⟨h.os, h.tape, h.output, h.size, fun k hk hn => h.block k hk (fun e => hn (hr k e.symm))⟩
theorem alloc (h : Only S w w1) (o : Obj) : Only S w (w1.alloc o) := h.trans (T := fun _ => False) (of_below ((Below.refl _ _).alloc (Nat.le_refl _) o) _) (fun _ e => e.elim)
theorem drew (h : Only S w w1) : Only S w w1.drew := ⟨h.os, h.tape, h.output, h.size, h.block⟩
theorem setCell (h : Only S w w1) {p : Addr} (hp : S p.block ∨ w.heap.size ≤ p.block) (u : Value) : Only S w (w1.setCell p u) :=
  h.trans (T := fun k => k = p.block) ⟨rfl, rfl, rfl, by simp [World.setCell], fun k _ hk => Below.heap_setCell _ _ _ _ hk⟩ (fun j e => e ▸ hp)
theorem heap (h : Only S w w') {k : Nat} {o : Obj} (ho : w.heap[k]? = some o) (hn : ¬ S k) : w'.heap[k]? = some o := by
  rw [h.block k (Array.getElem?_eq_some_iff.1 ho).1 hn]; exact ho
end Only

theorem heap_lt {w : World} {k : Nat} {o : Obj} (h : w.heap[k]? = some o) : k < w.heap.size := (Array.getElem?_eq_some_iff.1 h).1

/-! ### Sectors -/
def zeroS : List UInt8 := List.replicate 256 0
theorem zeroS_length : zeroS.length = 256 := List.length_replicate
def secV (l : List UInt8) : Value := .agg (Lib.byteCells l).toArray

theorem byteCells_inj : ∀ {l l' : List UInt8}, Lib.byteCells l = Lib.byteCells l' → l = l'
  | [], [], _ => rfl
  | [], _ :: _, h => by simp [Lib.byteCells] at h
  | _ :: _, [], h => by simp [Lib.byteCells] at h
  | a :: l, b :: l', h => by
    simp only [Lib.byteCells, List.map_cons, List.cons.injEq, Value.int.injEq, true_and] at h
    have e : a = b := UInt8.toNat_inj.1 (by omega)
    have := byteCells_inj (l := l) (l' := l') h.2
    rw [e, this]
theorem secV_inj {l l' : List UInt8} (h : secV l = secV l') : l = l' := byteCells_inj (by simpa [secV] using h)

/-- How a sector in a map reads: as its bytes. -/
noncomputable def secElem (v : Value) : Option (DataW Unit × List MemPlace) := by
  classical exact if h : ∃ l : List UInt8, l.length = 256 ∧ v = secV l then some (.lit (.string h.choose), []) else none
theorem secElem_mk {l : List UInt8} (hl : l.length = 256) : secElem (secV l) = some (.lit (.string l), []) := by
  unfold secElem
  have h : ∃ l' : List UInt8, l'.length = 256 ∧ secV l = secV l' := ⟨l, hl, rfl⟩
  rw [dif_pos h, ← secV_inj h.choose_spec.2]
theorem secElem_inv {v : Value} {y : DataW Unit × List MemPlace} (h : secElem v = some y) : ∃ l : List UInt8, l.length = 256 ∧ v = secV l ∧ y = (.lit (.string l), []) := by
  unfold secElem at h
  split at h
  · rename_i hx
    cases h
    exact ⟨_, hx.choose_spec.1, hx.choose_spec.2, rfl⟩
  · cases h

/-! ### The state of a disk, plainly -/
def upd {α : Type} (f : Int → α) (n : Int) (b : α) : Int → α := fun m => if m = n then b else f m
theorem upd_same {α : Type} (f : Int → α) (n : Int) (b : α) : upd f n b n = b := by simp [upd]
theorem upd_other {α : Type} (f : Int → α) {n m : Int} (h : m ≠ n) (b : α) : upd f n b m = f m := by simp [upd, h]

abbrev Wr := Int × List UInt8
/-- What is read when these writes are laid over f, one behind the other. -/
def over (f : Int → List UInt8) (ps : List Wr) : Int → List UInt8 := ps.foldl (fun f p => upd f p.1 p.2) f
theorem over_nil (f : Int → List UInt8) : over f [] = f := rfl
theorem over_cons (f : Int → List UInt8) (p : Wr) (ps : List Wr) : over f (p :: ps) = over (upd f p.1 p.2) ps := rfl
theorem over_append (f : Int → List UInt8) (ps qs : List Wr) : over f (ps ++ qs) = over (over f ps) qs := by simp [over, List.foldl_append]
theorem over_snoc (f : Int → List UInt8) (ps : List Wr) (p : Wr) : over f (ps ++ [p]) = upd (over f ps) p.1 p.2 := by rw [over_append]; rfl
theorem over_length {f : Int → List UInt8} (hf : ∀ n, (f n).length = 256) : ∀ {ps : List Wr}, (∀ p ∈ ps, p.2.length = 256) → ∀ n, (over f ps n).length = 256 := by
  intro ps
  induction ps generalizing f with
  | nil => intro _ n; exact hf n
  | cons p ps ih =>
    intro h n
    rw [over_cons]
    refine ih (fun m => ?_) (fun q hq => h q (by simp [hq])) n
    by_cases e : m = p.1
    · rw [e, upd_same]; exact h p (by simp)
    · rw [upd_other _ e]; exact hf m

structure DS where
  size : Nat
  last : Int → List UInt8
  pend : List Wr
  fused : Bool
  left : Int
  down : Bool
  r : Int
  w : Int
  s : Int
  k : Nat

/-- What is read. -/
def DS.now (s : DS) : Int → List UInt8 := over s.last s.pend

/-- Where a disk lies. -/
structure DA where
  db : Nat
  lb : Nat
  nb : Nat
  pv : Value

def DA.foot (a : DA) (k : Nat) : Prop := k = a.db ∨ k = a.lb ∨ k = a.nb ∨ a.pv.ownBlock = some k

def boxOf (a : DA) (s : DS) : Array Value := #[.int .i64 (s.size : Int), .map (some a.lb), a.pv, .map (some a.nb), .bool s.fused, .int .i64 s.left, .bool s.down, .int .i64 s.r, .int .i64 s.w, .int .i64 s.s]

def wrow (p : Wr) : List Value := .int .i64 p.1 :: Lib.byteCells p.2
def rows (ps : List Wr) : List Value := ps.flatMap wrow

def kInt (n : Int) : Lit := .int .i64 n
def wfI (n : Int) : Prop := (Lit.int .i64 n).wf = true

/-- The map of what lasts. -/
def LastIs (D : DataW Unit) (f : Int → List UInt8) : Prop := ∀ n, wfI n → D.atKey (kInt n) (.lit (.string zeroS)) = .lit (.string (f n))
/-- The map of the newest writes. -/
def NewIs (D : DataW Unit) (f : Int → List UInt8) (ps : List Wr) : Prop := ∀ n, wfI n →
  (Maps.has D (kInt n) = false ∧ over f ps n = f n) ∨
  (∃ (i : Nat) (b : List UInt8), Maps.has D (kInt n) = true ∧ D.atKey (kInt n) (.lit (.int .i64 0)) = .lit (.int .i64 i) ∧ ps[i]? = some (n, b) ∧ over f ps n = b)

structure DiskAt (W : World) (a : DA) (s : DS) : Prop where
  box : W.heap[a.db]? = some (.cells (boxOf a s) 66 (0, 0))
  ne : a.lb ≠ a.nb
  size : s.size ≤ 65536
  lens : ∀ p ∈ s.pend, p.2.length = 256
  wfs : ∀ p ∈ s.pend, wfI p.1
  lastlen : ∀ n, (s.last n).length = 256
  last : ∃ n D, W.ownsMap Try.prog 3 secElem a.lb n D ∧ n + s.pend.length ≤ s.k ∧ LastIs D s.last
  pend : W.ownsRow 0 72 257 a.pv s.pend.length (rows s.pend)
  new : ∃ D, W.ownsMap Try.prog 3 (plainElem (H := Unit) Try.prog 3) a.nb s.pend.length D ∧ NewIs D s.last s.pend

theorem key3 : Keyed Try.prog 3 := int_keyed Try.underlying3

theorem ownsRow_only {w w' : World} {S : Nat → Prop} {B : Nat} {e : TypeId} {size : Nat} {v : Value} {n : Nat} {xs : List Value} (h : w.ownsRow B e size v n xs) (hO : Only S w w') (hn : ∀ k, v.ownBlock = some k → ¬ S k) : w'.ownsRow B e size v n xs := by
  refine ⟨h.1, ?_⟩
  rcases h.2 with hv | ⟨g, cap, cur, rfl, hb1, hgg, rest⟩
  · exact .inl hv
  · exact .inr ⟨g, cap, cur, rfl, hb1, hO.heap hgg (hn g rfl), rest⟩
theorem ownsMap_only {w w' : World} {S : Nat → Prop} {R : Value → Option (DataW Unit × List MemPlace)} {b n : Nat} {D : DataW Unit} (h : w.ownsMap Try.prog 3 R b n D) (hO : Only S w w') (hn : ¬ S b) : w'.ownsMap Try.prog 3 R b n D := by
  obtain ⟨es, clock, hb, F, hs, hD⟩ := h
  exact ⟨es, clock, hO.heap hb hn, F, hs, hD⟩

namespace DiskAt
variable {W W' : World} {a : DA} {s : DS} {S : Nat → Prop}

theorem keep (h : DiskAt W a s) (hO : Only S W W') (hn : ∀ k, a.foot k → ¬ S k) : DiskAt W' a s where
  box := hO.heap h.box (hn _ (.inl rfl))
  ne := h.ne
  size := h.size
  lens := h.lens
  wfs := h.wfs
  lastlen := h.lastlen
  last := by obtain ⟨n, D, h1, h2⟩ := h.last; exact ⟨n, D, ownsMap_only h1 hO (hn _ (.inr (.inl rfl))), h2⟩
  pend := ownsRow_only h.pend hO (fun k hk => hn _ (.inr (.inr (.inr hk))))
  new := by obtain ⟨D, h1, h2⟩ := h.new; exact ⟨D, ownsMap_only h1 hO (hn _ (.inr (.inr (.inl rfl)))), h2⟩

theorem below (h : DiskAt W a s) (hb : Below W.heap.size W W') : DiskAt W' a s := h.keep (Only.of_below hb (fun _ => False)) (fun _ _ h => h)
theorem drew (h : DiskAt W a s) : DiskAt W.drew a s := h.below (Below.refl _ _).drew

theorem lt (h : DiskAt W a s) : ∀ k, a.foot k → k < W.heap.size := by
  intro k hk
  rcases hk with rfl | rfl | rfl | hk
  · exact heap_lt h.box
  · obtain ⟨n, D, h1, _⟩ := h.last; exact h1.lt
  · obtain ⟨D, h1, _⟩ := h.new; exact h1.lt
  · exact (h.pend.lt k hk).2

/-- The cells of the box. -/
theorem cells (h : DiskAt W a s) : W.cell? ⟨a.db, 0, none⟩ = some (.int .i64 (s.size : Int)) ∧ W.cell? ⟨a.db, 1, none⟩ = some (.map (some a.lb)) ∧ W.cell? ⟨a.db, 2, none⟩ = some a.pv ∧ W.cell? ⟨a.db, 3, none⟩ = some (.map (some a.nb)) ∧
    W.cell? ⟨a.db, 4, none⟩ = some (.bool s.fused) ∧ W.cell? ⟨a.db, 5, none⟩ = some (.int .i64 s.left) ∧ W.cell? ⟨a.db, 6, none⟩ = some (.bool s.down) ∧ W.cell? ⟨a.db, 7, none⟩ = some (.int .i64 s.r) ∧ W.cell? ⟨a.db, 8, none⟩ = some (.int .i64 s.w) ∧ W.cell? ⟨a.db, 9, none⟩ = some (.int .i64 s.s) := by
  refine ⟨?_, ?_, ?_, ?_, ?_, ?_, ?_, ?_, ?_, ?_⟩ <;> rw [Lib.cell_of_heap h.box] <;> rfl
theorem free (h : DiskAt W a s) (i : Nat) : W.frozen? ⟨a.db, i, none⟩ = false := by
  simp [World.frozen?, h.box]

theorem box_poke {w : World} {b i : Nat} {cs : Array Value} {T : TypeId} (v : Value) (h : w.heap[b]? = some (.cells cs T (0, 0))) : (w.setCell ⟨b, i, none⟩ v).heap[b]? = some (.cells (cs.setIfInBounds i v) T (0, 0)) := by
  simp [World.setCell, Array.getElem?_modify, h]

/-- One cell of the box is written. -/
theorem poke (h : DiskAt W a s) {s' : DS} {i : Nat} {v : Value} (hc : (boxOf a s).setIfInBounds i v = boxOf a s') (hs : s'.size ≤ 65536) (hl : s'.last = s.last) (hp : s'.pend = s.pend) (hk : s'.k = s.k) : DiskAt (W.setCell ⟨a.db, i, none⟩ v) a s' := by
  have hO : Only (fun k => k = a.db) W (W.setCell ⟨a.db, i, none⟩ v) := Only.setCell (S := fun k => k = a.db) (p := ⟨a.db, i, none⟩) (Only.refl _ _) (.inl rfl) v
  have hneL : a.lb ≠ a.db := fun e => by
    obtain ⟨n, D, ⟨es, clock, hb, _⟩, _⟩ := h.last
    rw [e, h.box] at hb
    cases hb
  have hneN : a.nb ≠ a.db := fun e => by
    obtain ⟨D, ⟨es, clock, hb, _⟩, _⟩ := h.new
    rw [e, h.box] at hb
    cases hb
  have hneP : ∀ k, a.pv.ownBlock = some k → k ≠ a.db := fun k hk e => by
    rcases h.pend.2 with ⟨hv, _⟩ | ⟨g, cap, cur, hv, _, hgg, _⟩
    · rw [hv] at hk; simp [Value.ownBlock] at hk
    · rw [hv] at hk
      simp [Value.ownBlock] at hk
      subst hk
      rw [e, h.box] at hgg
      simp at hgg
  refine ⟨hc ▸ box_poke v h.box, h.ne, hs, hp ▸ h.lens, hp ▸ h.wfs, hl ▸ h.lastlen, ?_, hp ▸ ownsRow_only h.pend hO hneP, ?_⟩
  · obtain ⟨n, D, h1, h2⟩ := h.last
    exact ⟨n, D, ownsMap_only h1 hO hneL, by rw [hp, hk, hl]; exact h2⟩
  · obtain ⟨D, h1, h2⟩ := h.new
    exact ⟨D, by rw [hp]; exact ownsMap_only h1 hO hneN, by rw [hp, hl]; exact h2⟩
end DiskAt

/-- Behind a call on a disk: it is in this state, and nothing else that was there has turned. -/
def Became (a : DA) (W : World) (s' : DS) (W' : World) : Prop := ∃ a', a'.db = a.db ∧ DiskAt W' a' s' ∧ Only a.foot W W' ∧ ∀ k, a'.foot k → a.foot k ∨ W.heap.size ≤ k

theorem Became.same {W W' : World} {a : DA} {s' : DS} (h : DiskAt W' a s') (hO : Only a.foot W W') : Became a W s' W' := ⟨a, rfl, h, hO, fun _ hk => .inl hk⟩
theorem Became.refl {W : World} {a : DA} {s : DS} (h : DiskAt W a s) : Became a W s W := Became.same h (Only.refl _ _)
theorem Became.andThen {W W1 W' : World} {a a1 : DA} {s' : DS} (hO : Only a.foot W W1) (hf : ∀ k, a1.foot k → a.foot k ∨ W.heap.size ≤ k) (he : a1.db = a.db) (h : Became a1 W1 s' W') : Became a W s' W' := by
  obtain ⟨a', e, hd, hO', hf'⟩ := h
  refine ⟨a', e.trans he, hd, hO.trans hO' hf, fun k hk => ?_⟩
  rcases hf' k hk with h1 | h1
  · exact hf k h1
  · exact .inr (Nat.le_trans hO.size h1)

#print axioms Became.andThen
end Go.Proofs.Ytaaceaojgbicaaa
