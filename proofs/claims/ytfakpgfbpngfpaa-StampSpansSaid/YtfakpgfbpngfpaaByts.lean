/- Bytes that a call of the program writes behind its own: what one append does, and what chains; under Go's own limit of length. -/
import Derived.Test.YtfakpgfbpngfpaaKeyl
import Derived.Test.YtfakpgfbpngfpaaProg
import Derived.WalkKit
import Derived.ProofKit
import Derived.Deep.Slices
import Derived.Deep.Fields
import Derived.Deep.MidRow
import Derived.ChangeSame
import Derived.WalkLawsBesides
import Derived.WalkSpells
import Derived.LoopTactic
import Derived.Deep.LoopGhost
import Derived.Deep.RegionHeld3
import Derived.Outline
import Derived.Lib.Hide
import Derived.Deep.QuietTactic
import Derived.Lib.QuietBelow
import Derived.BigQuiet
import Derived.Below
import Derived.OwnWalk
import Derived.Laws.AppendOwn
import Derived.Laws.OwnMore
import Derived.Laws.IdiomStrings
import Derived.Lib.UnsafeStr
import Derived.Lib.OthersKept
namespace Go.Proofs.Ytfakpgfbpngfpaa
open Go.ChangeShapes Go.WideShapes Go.Deep Go.RowKit Go.Lib

theorem box_later {w w' : World} {n : Nat} {o : Obj} (h : w.heap[n]? = some o) (hb : Below w.heap.size w w') : w'.heap[n]? = some o := by
  have hlt : n < w.heap.size := by
    rcases Nat.lt_or_ge n w.heap.size with h' | h'
    · exact h'
    · simp [Array.getElem?_eq_none h'] at h
  rw [hb.block n hlt]; exact h

theorem cell_kept2 {w w' : World} {p : Addr} {v : Value} (hb : Below w.heap.size w w') (h : w.cell? p = some v) : w'.cell? p = some v := by
  rw [hb.cell (World.block_lt_of_cell? w _ h)]; exact h

theorem infoByte : (Try.prog.info? 5).map (fun i => (i.zero, i.size, i.bytes)) = some (some (.int .u8 0), 1, 1) := by kernel_rfl

theorem bytes_one (l : List UInt8) : ∀ v ∈ Lib.byteCells l, v.oneCell' = true := by
  intro v hv
  obtain ⟨b, _, rfl⟩ := List.mem_map.1 hv
  rfl

theorem bytesRow_slice {w : World} {B : Nat} {v : Value} {n : Nat} {xs : List Value} (h : w.ownsRow B 5 1 v n xs) : ∃ na cap, v = .slice na n cap := by
  rcases h.2 with ⟨hv, h0⟩ | ⟨g, cap, cur, hv, _⟩
  · exact ⟨_, _, by rw [hv, h0]⟩
  · exact ⟨_, _, hv⟩

theorem bytesRow_later {w w' : World} {B : Nat} {v : Value} {n : Nat} {xs : List Value} (h : w.ownsRow B 5 1 v n xs) (hb : Below w.heap.size w w') : w'.ownsRow B 5 1 v n xs := by
  refine ⟨h.1, ?_⟩
  rcases h.2 with hn | ⟨g, cap, cur, rfl, hb1, hgg, rest⟩
  · exact .inl hn
  · refine .inr ⟨g, cap, cur, rfl, hb1, ?_, rest⟩
    rw [hb.block g (Array.getElem?_eq_some_iff.1 hgg).1]
    exact hgg

theorem bytesRow_kind {w : World} {B : Nat} {v : Value} {n : Nat} {xs : List Value} (h : w.ownsRow B 5 1 v n xs) : ∀ g, v.ownBlock = some g → ∃ c fz, w.heap[g]? = some (.cells c 5 fz) := by
  intro g hg
  rcases h.2 with ⟨rfl, _⟩ | ⟨g', cap, cur, rfl, _, hgg, _⟩
  · simp [Value.ownBlock] at hg
  · simp [Value.ownBlock] at hg
    subst hg
    exact ⟨cur, _, hgg⟩

theorem kept_of_below {w w' : World} (hb : Below w.heap.size w w') : Lib.OthersKept 5 none w w' := fun k o hk _ _ => by
  rw [hb.block k (Array.getElem?_eq_some_iff.1 hk).1]; exact hk

/-- 'v' holds the bytes 'l' in a row of the call's own, from block B on; since w nothing below B has turned, and no block but rows of bytes. -/
structure Took (B : Nat) (v : Value) (l : List UInt8) (w w' : World) : Prop where
  own : w'.ownsRow B 5 1 v l.length (Lib.byteCells l)
  below : Below B w w'
  kept : Lib.OthersKept 5 none w w'

namespace Took
variable {B : Nat} {v v' : Value} {l l' : List UInt8} {w w1 w' : World}

theorem refl (h : w.ownsRow B 5 1 v l.length (Lib.byteCells l)) : Took B v l w w := ⟨h, Below.refl _ _, Lib.OthersKept.refl _ _ _⟩
theorem nil (B : Nat) (w : World) : Took B (.slice none 0 0) [] w w := refl (World.ownsRow_nil _ _ _ _)
theorem next (h : Took B v l w w1) (k : Took B v' l' w1 w') : Took B v' l' w w' := ⟨k.own, h.below.trans k.below, h.kept.trans k.kept⟩
theorem size (h : Took B v l w w') (hB : B ≤ w.heap.size) : B ≤ w'.heap.size := Nat.le_trans hB h.below.size
theorem slice (h : Took B v l w w') : ∃ na cap, v = .slice na l.length cap := bytesRow_slice h.own
theorem later (h : Took B v l w w1) (hb : Below w1.heap.size w1 w') (hB : B ≤ w1.heap.size) : Took B v l w w' := ⟨bytesRow_later h.own hb, h.below.trans (hb.mono hB), h.kept.trans (kept_of_below hb)⟩
theorem alloc (h : Took B v l w w1) (hB : B ≤ w1.heap.size) (o : Obj) : Took B v l w (w1.alloc o) := h.later ((Below.refl _ _).alloc (Nat.le_refl _) o) hB
theorem box (h : Took B v l w w') {k : Nat} {o : Obj} (hk : w.heap[k]? = some o) (ho : ∀ c fz, o ≠ .cells c 5 fz) : w'.heap[k]? = some o := h.kept k o hk (by simp) ho
end Took

/-- A call that answers such bytes. -/
def Wrote (B : Nat) (l : List UInt8) (w : World) : Ending → World → Prop := fun e w' => ∃ na cap, e = .returned (.slice na l.length cap) ∧ Took B (.slice na l.length cap) l w w'

/-- The bytes lie there. -/
def BytesIn (w : World) (na : Option Addr) (l : List UInt8) : Prop :=
  l = [] ∨ ∃ b o, na = some ⟨b, o, none⟩ ∧ ∀ j (h : j < l.length), w.cell? ⟨b, o + j, none⟩ = some (.int .u8 (l[j].toNat : Int))

theorem BytesIn.below {w w' : World} {na : Option Addr} {l : List UInt8} (h : BytesIn w na l) (hb : Below w.heap.size w w') : BytesIn w' na l := by
  rcases h with h | ⟨b, o, e, h⟩
  · exact .inl h
  · exact .inr ⟨b, o, e, fun j hj => cell_kept2 hb (h j hj)⟩

theorem wpList_app {ops : Array Oper} {rest : List Oper} {o : Oper} {a : Act} {Q : Exit → Act → World → Prop} (hgd : o.guard = none) (s x : Operand)
    (ho : o.op = .call { callee := .builtin .append, args := #[s, x], argTypes := #[22, 22] }) {B : Nat} {v : Value} {l : List UInt8} {w W : World} (h : Took B v l w W) (hB : B ≤ W.heap.size) (hs : a.eval s = v)
    (news : List UInt8) (ad : Addr) (m c : Nat) (hx : a.eval x = .slice (some ad) m c) (hm : m = news.length) (hc : ∀ j u, (Lib.byteCells news)[j]? = some u → W.cell? (ad.add j) = some u) (hl : l.length + news.length ≤ 140737488355328)
    (K : ∀ na cap W', Took B (.slice na (l ++ news).length cap) (l ++ news) w W' → wpList Try.prog ops Q rest (a.put o.dst (.slice na (l ++ news).length cap)) W') : wpList Try.prog ops Q (o :: rest) a W := by
  obtain ⟨i0, hi, hz0, hz1, hz2⟩ := info_parts infoByte
  subst hm
  refine wpList_append_own W hgd s x 22 ho B 5 i0 (.int .u8 0) 1 1 Try.underlying22 hi hz0 hz1 hz2 rfl (by decide) v l.length (Lib.byteCells l) hs h.own ad news.length c (Lib.byteCells news) hx (by simp [Lib.byteCells]) hc (bytes_one _) (by unfold maxLen; omega) (by omega) hB ?_
  intro v' W' hown hg _
  rw [← Lib.byteCells_append, ← List.length_append] at hown
  obtain ⟨na, cap, rfl⟩ := bytesRow_slice hown
  exact K na cap W' ⟨hown, h.below.grown hg hB (fun k hk => (h.own.lt k hk).1), h.kept.grown hg (bytesRow_kind h.own)⟩

/-- Bytes written out behind. -/
theorem wpList_lit {ops : Array Oper} {rest : List Oper} {o : Oper} {a : Act} {Q : Exit → Act → World → Prop} (hgd : o.guard = none) (s x : Operand)
    (ho : o.op = .call { callee := .builtin .append, args := #[s, x], argTypes := #[22, 22] }) {B : Nat} {v : Value} {l : List UInt8} {w W : World} (h : Took B v l w W) (hB : B ≤ W.heap.size) (hs : a.eval s = v)
    (news : List UInt8) (cs : Array Value) (m : Nat) (hx : a.eval x = .slice (some ⟨W.heap.size, 0, none⟩) m m) (hm : m = news.length) (hcs : cs.toList = Lib.byteCells news) (hl : l.length + news.length ≤ 140737488355328)
    (K : ∀ na cap W', Took B (.slice na (l ++ news).length cap) (l ++ news) w W' → wpList Try.prog ops Q rest (a.put o.dst (.slice na (l ++ news).length cap)) W') : wpList Try.prog ops Q (o :: rest) a (W.alloc (.cells cs 5)) := by
  refine wpList_app hgd s x ho (h.alloc hB _) (by simp; omega) hs news ⟨W.heap.size, 0, none⟩ m m hx hm ?_ hl K
  intro j u hj
  rw [WideShapes.add_plain, Lib.cell_of_heap (heap_alloc_new W _), ← Array.getElem?_toList, hcs]
  simpa using hj

/-- The same, behind one block more. -/
theorem wpList_lit2 {ops : Array Oper} {rest : List Oper} {o : Oper} {a : Act} {Q : Exit → Act → World → Prop} (hgd : o.guard = none) (s x : Operand)
    (ho : o.op = .call { callee := .builtin .append, args := #[s, x], argTypes := #[22, 22] }) {B : Nat} {v : Value} {l : List UInt8} {w W : World} {p : Obj} (h : Took B v l w (W.alloc p)) (hB : B ≤ W.heap.size) (hs : a.eval s = v)
    (news : List UInt8) (cs : Array Value) (m : Nat) (hx : a.eval x = .slice (some ⟨W.heap.size + 1, 0, none⟩) m m) (hm : m = news.length) (hcs : cs.toList = Lib.byteCells news) (hl : l.length + news.length ≤ 140737488355328)
    (K : ∀ na cap W', Took B (.slice na (l ++ news).length cap) (l ++ news) w W' → wpList Try.prog ops Q rest (a.put o.dst (.slice na (l ++ news).length cap)) W') : wpList Try.prog ops Q (o :: rest) a ((W.alloc p).alloc (.cells cs 5)) :=
  wpList_lit hgd s x ho h (by simp; omega) hs news cs m (by rw [hx]; simp) hm hcs hl K

/-- A byte, as the walk has it. -/
theorem byte_cell {x : Int} (h0 : 0 ≤ x) (h1 : x < 256) : [Value.int .u8 x] = Lib.byteCells [UInt8.ofNat x.toNat] := by
  simp only [Lib.byteCells, List.map_cons, List.map_nil, UInt8.toNat_ofNat_of_lt' (show x.toNat < 2 ^ 8 by omega)]
  congr 2
  omega

theorem byte_of (c : UInt8) : [Value.int .u8 (c.toNat : Int)] = Lib.byteCells [c] := rfl
theorem BytesIn.of {w : World} {B : Nat} {na : Option Addr} {cap : Nat} {l : List UInt8} (h : w.ownsRow B 5 1 (.slice na l.length cap) l.length (Lib.byteCells l)) : BytesIn w na l := by
  rcases h.2 with ⟨_, h0⟩ | ⟨g, cap', cur, hv, _⟩
  · exact .inl (List.length_eq_zero_iff.1 h0)
  · obtain ⟨rfl, _⟩ : na = some ⟨g, 0, none⟩ ∧ cap = cap' := by simpa using hv
    refine .inr ⟨g, 0, rfl, fun j hj => ?_⟩
    have := h.cells (g := g) rfl j (.int .u8 (l[j].toNat : Int)) (by simp [Lib.byteCells, hj])
    simpa [WideShapes.add_plain] using this

/-- A call that answers such bytes, in new memory. -/
def Gave (l : List UInt8) (w : World) : Ending → World → Prop := fun e w' => ∃ na cap, e = .returned (.slice na l.length cap) ∧ BytesIn w' na l ∧ Below w.heap.size w w'

theorem Took.gave {v : Value} {l : List UInt8} {w w' : World} (h : Took w.heap.size v l w w') {e : Ending} (he : e = .returned v) : Gave l w e w' := by
  obtain ⟨na, cap, rfl⟩ := h.slice
  exact ⟨na, cap, he, BytesIn.of h.own, h.below⟩

end Go.Proofs.Ytfakpgfbpngfpaa
