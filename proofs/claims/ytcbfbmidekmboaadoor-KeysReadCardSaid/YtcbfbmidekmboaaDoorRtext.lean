/- Bytes that a call of the program writes behind its own: what one append does, and what chains; under Go's own limit of length. -/
/- What the program appends for a text: its bytes; under Go's own limit of length. -/
/- A text's bytes by the document: what the call answers; under Go's own limit of length. -/
import Derived.Test.YtcbfbmidekmboaaDoorKeyl
import Derived.Test.YtcbfbmidekmboaaDoorHelps
import Derived.OwnWalk
import Derived.Laws.AppendOwn
import Derived.Laws.OwnMore
import Derived.Laws.IdiomStrings
import Derived.Lib.UnsafeStr
import Derived.Lib.OthersKept
namespace Go.Proofs.YtcbfbmidekmboaaDoor
open Go.ChangeShapes Go.WideShapes Go.Deep Go.RowKit Go.Lib

theorem infoByte : (Tryd.prog.info? 5).map (fun i => (i.zero, i.size, i.bytes)) = some (some (.int .u8 0), 1, 1) := by kernel_rfl

theorem bytes_one (l : List UInt8) : ∀ v ∈ Lib.byteCells l, v.oneCell' = true := by
  intro v hv
  obtain ⟨b, _, rfl⟩ := List.mem_map.1 hv
  rfl

theorem bytesRow_slice {w : World} {B : Nat} {v : Value} {n : Nat} {xs : List Value} (h : w.ownsRow B 5 1 v n xs) : ∃ na cap, v = .slice na n cap := by
  rcases h.2 with ⟨hv, h0⟩ | ⟨g, cap, cur, hv, _⟩
  · exact ⟨_, _, by rw [hv, h0]⟩
  · exact ⟨_, _, hv⟩

theorem bytesRow_later {w w' : World} {B : Nat} {v : Value} {n : Nat} {xs : List Value} (h : w.ownsRow B 5 1 v n xs) (hb : Below w.heap.size w w') : w'.ownsRow B 5 1 v n xs := by
  refine ⟨h.1, ?_⟩
  rcases h.2 with hn | ⟨g, cap, cur, rfl, hb1, hgg, rest⟩
  · exact .inl hn
  · refine .inr ⟨g, cap, cur, rfl, hb1, ?_, rest⟩
    rw [hb.block g (Array.getElem?_eq_some_iff.1 hgg).1]
    exact hgg

theorem bytesRow_kind {w : World} {B : Nat} {v : Value} {n : Nat} {xs : List Value} (h : w.ownsRow B 5 1 v n xs) : ∀ g, v.ownBlock = some g → ∃ c fz, w.heap[g]? = some (.cells c 5 fz) := by
  intro g hg
  rcases h.2 with ⟨rfl, _⟩ | ⟨g', cap, cur, rfl, _, hgg, _⟩
  · simp [Value.ownBlock] at hg
  · simp [Value.ownBlock] at hg
    subst hg
    exact ⟨cur, _, hgg⟩

theorem kept_of_below {w w' : World} (hb : Below w.heap.size w w') : Lib.OthersKept 5 none w w' := fun k o hk _ _ => by
  rw [hb.block k (Array.getElem?_eq_some_iff.1 hk).1]; exact hk

/-- 'v' holds the bytes 'l' in a row of the call's own, from block B on; since w nothing below B has turned, and no block but rows of bytes. -/
structure Took (B : Nat) (v : Value) (l : List UInt8) (w w' : World) : Prop where
  own : w'.ownsRow B 5 1 v l.length (Lib.byteCells l)
  below : Below B w w'
  kept : Lib.OthersKept 5 none w w'

namespace Took
variable {B : Nat} {v v' : Value} {l l' : List UInt8} {w w1 w' : World}

theorem refl (h : w.ownsRow B 5 1 v l.length (Lib.byteCells l)) : Took B v l w w := ⟨h, Below.refl _ _, Lib.OthersKept.refl _ _ _⟩
theorem nil (B : Nat) (w : World) : Took B (.slice none 0 0) [] w w := refl (World.ownsRow_nil _ _ _ _)
theorem next (h : Took B v l w w1) (k : Took B v' l' w1 w') : Took B v' l' w w' := ⟨k.own, h.below.trans k.below, h.kept.trans k.kept⟩
theorem size (h : Took B v l w w') (hB : B ≤ w.heap.size) : B ≤ w'.heap.size := Nat.le_trans hB h.below.size
theorem slice (h : Took B v l w w') : ∃ na cap, v = .slice na l.length cap := bytesRow_slice h.own
theorem later (h : Took B v l w w1) (hb : Below w1.heap.size w1 w') (hB : B ≤ w1.heap.size) : Took B v l w w' := ⟨bytesRow_later h.own hb, h.below.trans (hb.mono hB), h.kept.trans (kept_of_below hb)⟩
theorem alloc (h : Took B v l w w1) (hB : B ≤ w1.heap.size) (o : Obj) : Took B v l w (w1.alloc o) := h.later ((Below.refl _ _).alloc (Nat.le_refl _) o) hB
theorem box (h : Took B v l w w') {k : Nat} {o : Obj} (hk : w.heap[k]? = some o) (ho : ∀ c fz, o ≠ .cells c 5 fz) : w'.heap[k]? = some o := h.kept k o hk (by simp) ho
end Took

/-- A call that answers such bytes. -/
def Wrote (B : Nat) (l : List UInt8) (w : World) : Ending → World → Prop := fun e w' => ∃ na cap, e = .returned (.slice na l.length cap) ∧ Took B (.slice na l.length cap) l w w'

/-- The bytes lie there. -/
def BytesIn (w : World) (na : Option Addr) (l : List UInt8) : Prop :=
  l = [] ∨ ∃ b o, na = some ⟨b, o, none⟩ ∧ ∀ j (h : j < l.length), w.cell? ⟨b, o + j, none⟩ = some (.int .u8 (l[j].toNat : Int))

theorem BytesIn.below {w w' : World} {na : Option Addr} {l : List UInt8} (h : BytesIn w na l) (hb : Below w.heap.size w w') : BytesIn w' na l := by
  rcases h with h | ⟨b, o, e, h⟩
  · exact .inl h
  · exact .inr ⟨b, o, e, fun j hj => cell_kept2 hb (h j hj)⟩

theorem wpList_app {ops : Array Oper} {rest : List Oper} {o : Oper} {a : Act} {Q : Exit → Act → World → Prop} (hgd : o.guard = none) (s x : Operand)
    (ho : o.op = .call { callee := .builtin .append, args := #[s, x], argTypes := #[28, 28] }) {B : Nat} {v : Value} {l : List UInt8} {w W : World} (h : Took B v l w W) (hB : B ≤ W.heap.size) (hs : a.eval s = v)
    (news : List UInt8) (ad : Addr) (m c : Nat) (hx : a.eval x = .slice (some ad) m c) (hm : m = news.length) (hc : ∀ j u, (Lib.byteCells news)[j]? = some u → W.cell? (ad.add j) = some u) (hl : l.length + news.length ≤ 140737488355328)
    (K : ∀ na cap W', Took B (.slice na (l ++ news).length cap) (l ++ news) w W' → wpList Tryd.prog ops Q rest (a.put o.dst (.slice na (l ++ news).length cap)) W') : wpList Tryd.prog ops Q (o :: rest) a W := by
  obtain ⟨i0, hi, hz0, hz1, hz2⟩ := info_parts infoByte
  subst hm
  refine wpList_append_own W hgd s x 28 ho B 5 i0 (.int .u8 0) 1 1 Tryd.underlying28 hi hz0 hz1 hz2 rfl (by decide) v l.length (Lib.byteCells l) hs h.own ad news.length c (Lib.byteCells news) hx (by simp [Lib.byteCells]) hc (bytes_one _) (by unfold maxLen; omega) (by omega) hB ?_
  intro v' W' hown hg _
  rw [← Lib.byteCells_append, ← List.length_append] at hown
  obtain ⟨na, cap, rfl⟩ := bytesRow_slice hown
  exact K na cap W' ⟨hown, h.below.grown hg hB (fun k hk => (h.own.lt k hk).1), h.kept.grown hg (bytesRow_kind h.own)⟩

/-- Bytes written out behind. -/
theorem wpList_lit {ops : Array Oper} {rest : List Oper} {o : Oper} {a : Act} {Q : Exit → Act → World → Prop} (hgd : o.guard = none) (s x : Operand)
    (ho : o.op = .call { callee := .builtin .append, args := #[s, x], argTypes := #[28, 28] }) {B : Nat} {v : Value} {l : List UInt8} {w W : World} (h : Took B v l w W) (hB : B ≤ W.heap.size) (hs : a.eval s = v)
    (news : List UInt8) (cs : Array Value) (m : Nat) (hx : a.eval x = .slice (some ⟨W.heap.size, 0, none⟩) m m) (hm : m = news.length) (hcs : cs.toList = Lib.byteCells news) (hl : l.length + news.length ≤ 140737488355328)
    (K : ∀ na cap W', Took B (.slice na (l ++ news).length cap) (l ++ news) w W' → wpList Tryd.prog ops Q rest (a.put o.dst (.slice na (l ++ news).length cap)) W') : wpList Tryd.prog ops Q (o :: rest) a (W.alloc (.cells cs 5)) := by
  refine wpList_app hgd s x ho (h.alloc hB _) (by simp; omega) hs news ⟨W.heap.size, 0, none⟩ m m hx hm ?_ hl K
  intro j u hj
  rw [WideShapes.add_plain, Lib.cell_of_heap (heap_alloc_new W _), ← Array.getElem?_toList, hcs]
  simpa using hj

/-- The same, behind one block more. -/
theorem wpList_lit2 {ops : Array Oper} {rest : List Oper} {o : Oper} {a : Act} {Q : Exit → Act → World → Prop} (hgd : o.guard = none) (s x : Operand)
    (ho : o.op = .call { callee := .builtin .append, args := #[s, x], argTypes := #[28, 28] }) {B : Nat} {v : Value} {l : List UInt8} {w W : World} {p : Obj} (h : Took B v l w (W.alloc p)) (hB : B ≤ W.heap.size) (hs : a.eval s = v)
    (news : List UInt8) (cs : Array Value) (m : Nat) (hx : a.eval x = .slice (some ⟨W.heap.size + 1, 0, none⟩) m m) (hm : m = news.length) (hcs : cs.toList = Lib.byteCells news) (hl : l.length + news.length ≤ 140737488355328)
    (K : ∀ na cap W', Took B (.slice na (l ++ news).length cap) (l ++ news) w W' → wpList Tryd.prog ops Q rest (a.put o.dst (.slice na (l ++ news).length cap)) W') : wpList Tryd.prog ops Q (o :: rest) a ((W.alloc p).alloc (.cells cs 5)) :=
  wpList_lit hgd s x ho h (by simp; omega) hs news cs m (by rw [hx]; simp) hm hcs hl K

/-- A byte, as the walk has it. -/
theorem byte_cell {x : Int} (h0 : 0 ≤ x) (h1 : x < 256) : [Value.int .u8 x] = Lib.byteCells [UInt8.ofNat x.toNat] := by
  simp only [Lib.byteCells, List.map_cons, List.map_nil, UInt8.toNat_ofNat_of_lt' (show x.toNat < 2 ^ 8 by omega)]
  congr 2
  omega

theorem byte_of (c : UInt8) : [Value.int .u8 (c.toNat : Int)] = Lib.byteCells [c] := rfl
end Go.Proofs.YtcbfbmidekmboaaDoor

namespace Go.Proofs.YtcbfbmidekmboaaDoor
open Go.ChangeShapes Go.WideShapes Go.Deep Go.RowKit Go.Lib

theorem zero_lt_byte {c : UInt8} (h : c ≠ 0) : 0 < c.toNat := by
  rcases Nat.eq_zero_or_pos c.toNat with h' | h'
  · exact absurd (UInt8.toNat_inj.1 (by rw [h']; rfl)) h
  · exact h'

set_option maxHeartbeats 4000000 in
set_option maxRecDepth 100000 in
theorem appText_any (B : Nat) (na : Option Addr) (cap : Nat) (l : List UInt8) (s : ByteArray) (w : World) (hown : w.ownsRow B 5 1 (.slice na l.length cap) l.length (Lib.byteCells l)) (hB : B ≤ w.heap.size) (hs : s.size ≤ maxLen) (hlen : l.length + (textL s.data.toList).length ≤ 140737488355328) :
    Calls Tryd.prog 36 #[.slice na l.length cap, .string s] w (Wrote B (l ++ textL s.data.toList) w) := by
  unfold maxLen at hs
  obtain ⟨T, hT⟩ : ∃ T, l ++ textL s.data.toList = T := ⟨_, rfl⟩
  have hTl : T.length ≤ 140737488355328 := by rw [← hT, List.length_append]; exact hlen
  rw [hT]
  have HT := Lib.hid hT
  have HTL := Lib.hid hTl
  have HB := Lib.hid hB
  have H0 := Lib.hid (Took.refl hown)
  clear hT hTl hlen hown hB
  go_enter Tryd.func36, Tryd.ntmps36
  go_wp2_with fail
  go_loopg [0, 8] s.size (fun g b i wr => ∃ (j : Nat) (L : List UInt8), j + g = s.size ∧ i = .int .i64 (j : Int) ∧ Took B b L w wr ∧ L ++ textL (s.data.toList.drop j) = T)
  case atStart => exact ⟨0, l, by omega, rfl, H0.out, HT.out⟩
  case round =>
    obtain ⟨j, L, hj, rfl, hw, hrest⟩ := hrel
    obtain ⟨nb, cb, rfl⟩ := hw.slice
    have HJ := Lib.hid hj
    have HW := Lib.hid hw
    have hBr := hw.size HB.out
    have hB0 := HB.out
    by_cases h1 : j < s.size
    · have hd := textL_drop (l := s.data.toList) (j := j) (by simpa using h1)
      have x1 : s.data.toList[j]'(by simpa using h1) = s[j] := rfl
      rw [x1] at hd
      rw [hd] at hrest
      obtain ⟨c, hc⟩ : ∃ c, s[j] = c := ⟨_, rfl⟩
      rw [hc] at hrest
      have HREST := Lib.hid hrest
      have HLL : Hid (L.length + (escL c).length ≤ 140737488355328) := Lib.hid (by have := HTL.out; rw [← hrest] at this; simp only [List.length_append] at this; omega)
      clear hd hrest x1 hj hw
      by_cases h0 : c = 0
      · have HE : Hid (escL c = [0] ++ [255]) := Lib.hid (by unfold escL; rw [if_pos h0]; rfl)
        have hz : c.toNat = 0 := by rw [h0]; rfl
        clear h0
        go_wp2_with (at_builtin; refine wpList_lit rfl _ _ rfl HW.out hBr rfl [0] _ 1 rfl rfl rfl (by have := HLL.out; rw [HE.out] at this; simp at this ⊢; omega) ?_)
        intro nc cc W2 hW2
        have hB2 := hW2.size hB0
        have HW2 := Lib.hid hW2
        clear hW2
        go_wp2_with (at_builtin; refine wpList_lit rfl _ _ rfl HW2.out hB2 rfl [255] _ 1 rfl rfl rfl (by have := HLL.out; rw [HE.out] at this; simp at this ⊢; omega) ?_)
        intro nd cd W3 hW3
        have HW3 := Lib.hid hW3
        clear hW3
        go_wp2_with fail
        go_roundg (gk - 1)
        case measure => have := HJ.out; omega
        case rel => exact ⟨j + 1, _, by have := HJ.out; omega, by go_num, HW3.out, by rw [← HREST.out, HE.out]; simp⟩
      · have HE : Hid (escL c = [c]) := Lib.hid (by unfold escL; rw [if_neg h0])
        have hz : ((c.toNat : Int) == 0) = false := by rw [beq_eq_false_iff_ne]; have := zero_lt_byte h0; omega
        have hz2 : ¬ (c.toNat : Int) = 0 := by have := zero_lt_byte h0; omega
        clear h0
        go_wp2_with (at_builtin; refine wpList_lit rfl _ _ rfl HW.out hBr rfl [c] _ 1 rfl rfl (byte_of c) (by have := HLL.out; rw [HE.out] at this; simp at this ⊢; omega) ?_)
        intro nc cc W2 hW2
        have HW2 := Lib.hid hW2
        clear hW2
        go_wp2_with fail
        go_roundg (gk - 1)
        case measure => have := HJ.out; omega
        case rel => exact ⟨j + 1, _, by have := HJ.out; omega, by go_num, HW2.out, by rw [← HREST.out, HE.out]; simp⟩
    · have hLT : L.length + 2 ≤ 140737488355328 := by
        rw [textL_end (by simp; omega)] at hrest
        have := HTL.out
        rw [← hrest] at this
        simpa using this
      have hT2 : L ++ [0, 0] = T := by rw [← hrest, textL_end (by simp; omega)]
      subst hT2
      have HLT := Lib.hid hLT
      clear hrest hw hj hLT
      go_wp2_with (at_builtin; refine wpList_lit rfl _ _ rfl HW.out hBr rfl [0, 0] _ 2 rfl rfl rfl (by have := HLT.out; simpa using this) ?_)
      intro nc cc W2 hW2
      have HW2 := Lib.hid hW2
      clear hW2
      go_wp2_with fail
      go_ret
      exact ⟨nc, cc, by simp, by have := HW2.out; simpa using this⟩
end Go.Proofs.YtcbfbmidekmboaaDoor

namespace Go.Proofs.YtcbfbmidekmboaaDoor
open Go.ChangeShapes Go.WideShapes Go.Deep Go.RowKit Go.Lib

theorem BytesIn.of {w : World} {B : Nat} {na : Option Addr} {cap : Nat} {l : List UInt8} (h : w.ownsRow B 5 1 (.slice na l.length cap) l.length (Lib.byteCells l)) : BytesIn w na l := by
  rcases h.2 with ⟨_, h0⟩ | ⟨g, cap', cur, hv, _⟩
  · exact .inl (List.length_eq_zero_iff.1 h0)
  · obtain ⟨rfl, _⟩ : na = some ⟨g, 0, none⟩ ∧ cap = cap' := by simpa using hv
    refine .inr ⟨g, 0, rfl, fun j hj => ?_⟩
    have := h.cells (g := g) rfl j (.int .u8 (l[j].toNat : Int)) (by simp [Lib.byteCells, hj])
    simpa [WideShapes.add_plain] using this

/-- A call that answers such bytes, in new memory. -/
def Gave (l : List UInt8) (w : World) : Ending → World → Prop := fun e w' => ∃ na cap, e = .returned (.slice na l.length cap) ∧ BytesIn w' na l ∧ Below w.heap.size w w'

theorem Took.gave {v : Value} {l : List UInt8} {w w' : World} (h : Took w.heap.size v l w w') {e : Ending} (he : e = .returned v) : Gave l w e w' := by
  obtain ⟨na, cap, rfl⟩ := h.slice
  exact ⟨na, cap, he, BytesIn.of h.own, h.below⟩

set_option maxHeartbeats 4000000 in
set_option maxRecDepth 100000 in
theorem rText_any (s : ByteArray) (w : World) (hs : s.size ≤ maxLen) (hlen : (textL s.data.toList).length ≤ 140737488355328) :
    Calls Tryd.prog 41 #[.string s] w (Gave (textL s.data.toList) w) := by
  unfold maxLen at hs
  obtain ⟨T, hT⟩ : ∃ T, textL s.data.toList = T := ⟨_, rfl⟩
  have hTl : T.length ≤ 140737488355328 := by rw [← hT]; exact hlen
  rw [hT]
  have HT := Lib.hid hT
  have HTL := Lib.hid hTl
  clear hT hTl hlen
  go_enter Tryd.func41, Tryd.ntmps41
  go_wp2_with fail
  go_loopg [3, 4] s.size (fun g b i wr => ∃ (j : Nat) (L : List UInt8), j + g = s.size ∧ i = .int .i64 (j : Int) ∧ Took w.heap.size b L w wr ∧ L ++ textL (s.data.toList.drop j) = T)
  case atStart => exact ⟨0, [], by omega, rfl, Took.nil _ _, HT.out⟩
  case round =>
    obtain ⟨j, L, hj, rfl, hw, hrest⟩ := hrel
    obtain ⟨nb, cb, rfl⟩ := hw.slice
    have HJ := Lib.hid hj
    have HW := Lib.hid hw
    have hBr := hw.size (Nat.le_refl _)
    have hB0 : w.heap.size ≤ w.heap.size := Nat.le_refl _
    by_cases h1 : j < s.size
    · have hd := textL_drop (l := s.data.toList) (j := j) (by simpa using h1)
      have x1 : s.data.toList[j]'(by simpa using h1) = s[j] := rfl
      rw [x1] at hd
      rw [hd] at hrest
      obtain ⟨c, hc⟩ : ∃ c, s[j] = c := ⟨_, rfl⟩
      rw [hc] at hrest
      have HREST := Lib.hid hrest
      have HLL : Hid (L.length + (escL c).length ≤ 140737488355328) := Lib.hid (by have := HTL.out; rw [← hrest] at this; simp only [List.length_append] at this; omega)
      clear hd hrest x1 hj hw
      by_cases h0 : c = 0
      · have HE : Hid (escL c = [0] ++ [255]) := Lib.hid (by unfold escL; rw [if_pos h0]; rfl)
        have hz : c.toNat = 0 := by rw [h0]; rfl
        clear h0
        go_wp2_with (at_builtin; refine wpList_lit rfl _ _ rfl HW.out hBr rfl [0] _ 1 rfl rfl rfl (by have := HLL.out; rw [HE.out] at this; simp at this ⊢; omega) ?_)
        intro nc cc W2 hW2
        have hB2 := hW2.size hB0
        have HW2 := Lib.hid hW2
        clear hW2
        go_wp2_with (at_builtin; refine wpList_lit rfl _ _ rfl HW2.out hB2 rfl [255] _ 1 rfl rfl rfl (by have := HLL.out; rw [HE.out] at this; simp at this ⊢; omega) ?_)
        intro nd cd W3 hW3
        have HW3 := Lib.hid hW3
        clear hW3
        go_wp2_with fail
        go_roundg (gk - 1)
        case measure => have := HJ.out; omega
        case rel => exact ⟨j + 1, _, by have := HJ.out; omega, by go_num, HW3.out, by rw [← HREST.out, HE.out]; simp⟩
      · have HE : Hid (escL c = [c]) := Lib.hid (by unfold escL; rw [if_neg h0])
        have hz : ((c.toNat : Int) == 0) = false := by rw [beq_eq_false_iff_ne]; have := zero_lt_byte h0; omega
        have hz2 : ¬ (c.toNat : Int) = 0 := by have := zero_lt_byte h0; omega
        clear h0
        go_wp2_with (at_builtin; refine wpList_lit rfl _ _ rfl HW.out hBr rfl [c] _ 1 rfl rfl (byte_of c) (by have := HLL.out; rw [HE.out] at this; simp at this ⊢; omega) ?_)
        intro nc cc W2 hW2
        have HW2 := Lib.hid hW2
        clear hW2
        go_wp2_with fail
        go_roundg (gk - 1)
        case measure => have := HJ.out; omega
        case rel => exact ⟨j + 1, _, by have := HJ.out; omega, by go_num, HW2.out, by rw [← HREST.out, HE.out]; simp⟩
    · have hLT : L.length + 2 ≤ 140737488355328 := by
        rw [textL_end (by simp; omega)] at hrest
        have := HTL.out
        rw [← hrest] at this
        simpa using this
      have hT2 : L ++ [0, 0] = T := by rw [← hrest, textL_end (by simp; omega)]
      subst hT2
      have HLT := Lib.hid hLT
      clear hrest hw hj hLT
      go_wp2_with (at_builtin; refine wpList_lit rfl _ _ rfl HW.out hBr rfl [0, 0] _ 2 rfl rfl rfl (by have := HLT.out; simpa using this) ?_)
      intro nc cc W2 hW2
      have HW2 := Lib.hid hW2
      clear hW2
      go_wp2_with fail
      go_ret
      exact HW2.out.gave (by simp)
end Go.Proofs.YtcbfbmidekmboaaDoor
