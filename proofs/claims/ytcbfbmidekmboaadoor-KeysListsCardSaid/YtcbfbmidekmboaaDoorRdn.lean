/- Alike values: formed alike; values that lie in blocks of their own; what a reader keeps; plain facts; no condition. -/
/- One byte read, and whether a list ends: what the program's calls answer; no condition of ours. -/
import Derived.Test.YtcbfbmidekmboaaDoorRsame
import Derived.Test.YtcbfbmidekmboaaDoorOrd
import Derived.Test.YtcbfbmidekmboaaDoorRtext
import Derived.Test.YtcbfbmidekmboaaDoorKeyc
namespace Go.Proofs.YtcbfbmidekmboaaDoor
open Go.ChangeShapes Go.WideShapes Go.Deep Go.RowKit Go.Lib

namespace AV
theorem eqv_parts {k n k' n' : Int} {s s' : ByteArray} {na na' : Option Addr} {nc nc' : Nat} {ns ns' : List ByteArray} {xa xa' : Option Addr} {xc xc' : Nat} {xs xs' : List AV} (h : eqv (mk k n s na nc ns xa xc xs) (mk k' n' s' na' nc' ns' xa' xc' xs') = true) :
    k = k' ∧ n = n' ∧ s = s' ∧ ns = ns' ∧ xs.length = xs'.length ∧ eqvAll xs xs' = true := by
  rw [eqv] at h
  simp only [Bool.and_eq_true, decide_eq_true_eq] at h
  exact ⟨h.1.1, h.1.2.1, h.1.2.2.1, h.2.1, h.1.2.2.2.2, h.2.2⟩

theorem eqv_mk {k n : Int} {s : ByteArray} {na na' : Option Addr} {nc nc' : Nat} {ns : List ByteArray} {xa xa' : Option Addr} {xc xc' : Nat} {xs xs' : List AV} (hl : xs.length = xs'.length) (h : eqvAll xs xs' = true) :
    eqv (mk k n s na nc ns xa xc xs) (mk k n s na' nc' ns xa' xc' xs') = true := by
  rw [eqv]
  simp [hl, h]

theorem allJ_alike : ∀ {xs ys : List AV}, (∀ x ∈ xs, ∀ (y : AV) (lv : Nat), eqv x y = true → formedJ x lv = formedJ y lv) → xs.length = ys.length → eqvAll xs ys = true → ∀ lv, allJ xs lv = allJ ys lv
  | [], [], _, _, _, _ => rfl
  | x :: xs, y :: ys, ih, hl, h, lv => by
    rw [eqvAll, Bool.and_eq_true] at h
    rw [allJ, allJ, ih x (by simp) y lv h.1, allJ_alike (fun z hz => ih z (by simp [hz])) (by simpa using hl) h.2 lv]

theorem formed_alike : ∀ (x y : AV) (lv : Nat), eqv x y = true → formedJ x lv = formedJ y lv := by
  intro x
  induction x using AV.ind with
  | h k n s na nc ns xa xc xs ih =>
    intro y lv h
    obtain ⟨k', n', s', na', nc', ns', xa', xc', xs'⟩ := y
    obtain ⟨rfl, rfl, rfl, rfl, hl, hx⟩ := eqv_parts h
    have h0 : (xs = []) = (xs' = []) := by
      rw [← List.length_eq_zero_iff, ← List.length_eq_zero_iff, hl]
    rw [formedJ, formedJ, allJ_alike ih hl hx (lv - 1)]
    simp only [h0, hl]

theorem eqvAll_append : ∀ {xs ys xs' ys' : List AV}, xs.length = xs'.length → eqvAll xs xs' = true → eqvAll ys ys' = true → eqvAll (xs ++ ys) (xs' ++ ys') = true
  | [], _, [], _, _, _, h => h
  | x :: xs, ys, x' :: xs', ys', hl, h, h' => by
    rw [eqvAll, Bool.and_eq_true] at h
    rw [List.cons_append, List.cons_append, eqvAll, Bool.and_eq_true]
    exact ⟨h.1, eqvAll_append (by simpa using hl) h.2 h'⟩

/-- It lies in every world that is as w is from block C to block D. -/
def Lies (C D : Nat) (u : AV) (w : World) : Prop := ∀ w' : World, (∀ k, C ≤ k → k < D → w'.heap[k]? = w.heap[k]?) → u.In w'

theorem Lies.here {C D : Nat} {u : AV} {w : World} (h : u.Lies C D w) : u.In w := h w fun _ _ _ => rfl
theorem Lies.later {C D : Nat} {u : AV} {w w' : World} (h : u.Lies C D w) (hk : ∀ k, C ≤ k → k < D → w'.heap[k]? = w.heap[k]?) : u.Lies C D w' := fun w2 h2 => h w2 fun k h1 h3 => (h2 k h1 h3).trans (hk k h1 h3)
theorem Lies.wider {C D C' D' : Nat} {u : AV} {w : World} (h : u.Lies C D w) (hC : C' ≤ C) (hD : D ≤ D') : u.Lies C' D' w := fun w2 h2 => h w2 fun k h1 h3 => h2 k (by omega) (by omega)
end AV

/-- But for block p, all that was there is as it was. -/
structure Kept (p : Nat) (w w' : World) : Prop where
  os : w'.os = w.os
  tape : w'.tape = w.tape
  output : w'.output = w.output
  size : w.heap.size ≤ w'.heap.size
  block : ∀ k, k < w.heap.size → k ≠ p → w'.heap[k]? = w.heap[k]?

theorem Kept.refl (p : Nat) (w : World) : Kept p w w := ⟨rfl, rfl, rfl, Nat.le_refl _, fun _ _ _ => rfl⟩
theorem Kept.trans {p : Nat} {a b c : World} (h : Kept p a b) (k : Kept p b c) : Kept p a c :=
  ⟨k.os.trans h.os, k.tape.trans h.tape, k.output.trans h.output, Nat.le_trans h.size k.size, fun i hi hp => (k.block i (Nat.lt_of_lt_of_le hi h.size) hp).trans (h.block i hi hp)⟩
theorem Kept.grow {p : Nat} {a b c : World} (h : Kept p a b) (k : Below a.heap.size b c) : Kept p a c :=
  ⟨k.os.trans h.os, k.tape.trans h.tape, k.output.trans h.output, Nat.le_trans h.size k.size, fun i hi hp => (k.block i hi).trans (h.block i hi hp)⟩
theorem Kept.of {p : Nat} {a b : World} (k : Below a.heap.size a b) : Kept p a b := (Kept.refl p a).grow k
theorem Kept.below {p B : Nat} {a b : World} (h : Kept p a b) (hp : B ≤ p) (hB : B ≤ a.heap.size) : Below B a b := ⟨h.os, h.tape, h.output, h.size, fun k hk => h.block k (by omega) (by omega)⟩
theorem Kept.set {p : Nat} {a b : World} (h : Kept p a b) (v : Value) : Kept p a (b.setCell ⟨p, 0, none⟩ v) :=
  h.trans ⟨rfl, rfl, rfl, by simp [World.setCell], fun k _ hp => heap_setCell_other b ⟨p, 0, none⟩ k v hp⟩
theorem Kept.box {p : Nat} {w w' : World} (h : Kept p w w') {k : Nat} {o : Obj} (hk : w.heap[k]? = some o) (hp : k ≠ p) : w'.heap[k]? = some o := by
  rw [h.block k (Array.getElem?_eq_some_iff.1 hk).1 hp]; exact hk

theorem Kept.setAt {q : Nat} {a b : World} (h : Kept q a b) (j : Nat) (v : Value) : Kept q a (b.setCell ⟨q, j, none⟩ v) :=
  h.trans ⟨rfl, rfl, rfl, by simp [World.setCell], fun k _ hp => heap_setCell_other b ⟨q, j, none⟩ k v hp⟩

theorem Kept.five {q : Nat} {a w : World} (h : Kept q a w) (v0 v1 v2 v3 v4 : Value) :
    Kept q a (((((w.setCell ⟨q, 0, none⟩ v0).setCell ⟨q, 1, none⟩ v1).setCell ⟨q, 2, none⟩ v2).setCell ⟨q, 3, none⟩ v3).setCell ⟨q, 4, none⟩ v4) :=
  ((((h.setAt 0 v0).setAt 1 v1).setAt 2 v2).setAt 3 v3).setAt 4 v4

theorem Kept.drew {q : Nat} {a w : World} (h : Kept q a w) : Kept q a w.drew := ⟨h.os, h.tape, h.output, h.size, h.block⟩
theorem Kept.alloc {q : Nat} {a w : World} (h : Kept q a w) (o : Obj) : Kept q a (w.alloc o) := h.trans (Kept.of ((Below.refl _ _).alloc (Nat.le_refl _) _))
/-- What changes a block that is new changes nothing of what was. -/
theorem Kept.fresh {p q : Nat} {a b c : World} (h : Kept p a b) (k : Kept q b c) (hq : a.heap.size ≤ q) : Kept p a c :=
  ⟨k.os.trans h.os, k.tape.trans h.tape, k.output.trans h.output, Nat.le_trans h.size k.size, fun i hi hp => (k.block i (Nat.lt_of_lt_of_le hi h.size) (by omega)).trans (h.block i hi hp)⟩

/-- The place: what is left to read. -/
def At (p : Nat) (bs r : List UInt8) (w : World) : Prop := ∃ a : Nat, a ≤ bs.length ∧ bs.drop a = r ∧ w.heap[p]? = some (.cells #[.int .i64 (a : Int)] 3 (0, 0))

theorem At.later {p : Nat} {bs r : List UInt8} {w w' : World} (h : At p bs r w) (hb : Below w.heap.size w w') : At p bs r w' := by
  obtain ⟨a, h1, h2, h3⟩ := h
  exact ⟨a, h1, h2, box_later h3 hb⟩
theorem At.through {p B : Nat} {bs r : List UInt8} {w w' : World} (h : At p bs r w) (hb : Below B w w') (hp : p < B) : At p bs r w' := by
  obtain ⟨a, h1, h2, h3⟩ := h
  exact ⟨a, h1, h2, by rw [hb.block p hp]; exact h3⟩
theorem At.other {p q : Nat} {bs r : List UInt8} {w w' : World} (h : At p bs r w) (hk : Kept q w w') (hp : p ≠ q) : At p bs r w' := by
  obtain ⟨a, h1, h2, h3⟩ := h
  exact ⟨a, h1, h2, hk.box h3 hp⟩
theorem At.lt {p : Nat} {bs r : List UInt8} {w : World} (h : At p bs r w) : p < w.heap.size := by
  obtain ⟨a, _, _, h3⟩ := h
  exact (Array.getElem?_eq_some_iff.1 h3).1

/-- What is read from: bytes that were there before the place was. -/
structure Src (w0 : World) (p : Nat) (nb : Option Addr) (bs : List UInt8) (w : World) : Prop where
  bytes : BytesIn w0 nb bs
  old : Below w0.heap.size w0 w
  place : w0.heap.size ≤ p
  len : bs.length ≤ 9223372036854775807

theorem Src.kept {w0 : World} {p : Nat} {nb : Option Addr} {bs : List UInt8} {w w' : World} (h : Src w0 p nb bs w) (hk : Kept p w w') : Src w0 p nb bs w' := ⟨h.bytes, h.old.trans (hk.below h.place h.old.size), h.place, h.len⟩

/-- One byte read: where it lies. -/
theorem Src.byte {w0 : World} {p : Nat} {nb : Option Addr} {bs : List UInt8} {w : World} (h : Src w0 p nb bs w) {a : Nat} {c : UInt8} {r : List UInt8} (hd : bs.drop a = c :: r) :
    a < bs.length ∧ bs.drop (a + 1) = r ∧ ∃ b o, nb = some ⟨b, o, none⟩ ∧ w.cell? ⟨b, o + a, none⟩ = some (.int .u8 (c.toNat : Int)) ∧ b < p := by
  have hlt : a < bs.length := by
    rcases Nat.lt_or_ge a bs.length with h' | h'
    · exact h'
    · rw [List.drop_eq_nil_of_le h'] at hd; cases hd
  rw [List.drop_eq_getElem_cons hlt] at hd
  simp only [List.cons.injEq] at hd
  obtain ⟨b, o, e, hc⟩ := h.bytes.resolve_left (by intro e; rw [e] at hlt; simp at hlt)
  have h1 := hc a hlt
  rw [hd.1] at h1
  have hb := World.block_lt_of_cell? w0 _ h1
  refine ⟨hlt, hd.2, b, o, e, by rw [h.old.cell hb]; exact h1, Nat.lt_of_lt_of_le hb h.place⟩
end Go.Proofs.YtcbfbmidekmboaaDoor

namespace Go.Proofs.YtcbfbmidekmboaaDoor
open Go.ChangeShapes Go.WideShapes Go.Deep Go.RowKit Go.Lib

/-- A step of the reader: the place has gone on, all else is as it was. -/
def Stepped (p : Nat) (bs r : List UInt8) (w w' : World) : Prop := At p bs r w' ∧ Kept p w w'

theorem place_cell {w : World} {p : Nat} {v : Value} (h : w.heap[p]? = some (.cells #[v] 3 (0, 0))) : w.cell? ⟨p, 0, none⟩ = some v ∧ w.frozen? ⟨p, 0, none⟩ = false := by
  refine ⟨?_, ?_⟩
  · rw [Lib.cell_of_heap h]; rfl
  · exact frozen_of_row w p 0 #[v] 3 h

theorem At.gone {p : Nat} {bs r : List UInt8} {w : World} {a : Nat} (ha : a < bs.length) (hd : bs.drop (a + 1) = r) (h : w.heap[p]? = some (.cells #[.int .i64 (a : Int)] 3 (0, 0))) :
    At p bs r (w.setCell ⟨p, 0, none⟩ (.int .i64 ((a : Int) + 1))) := by
  refine ⟨a + 1, ha, hd, ?_⟩
  have := heap_setCell_same w p 0 _ 3 (.int .i64 ((a : Int) + 1)) h
  rw [this]
  rfl

set_option maxHeartbeats 2000000 in
set_option maxRecDepth 100000 in
theorem next_any (w0 w : World) (p : Nat) (nb : Option Addr) (cb : Nat) (bs : List UInt8) (c : UInt8) (r : List UInt8) (hS : Src w0 p nb bs w) (hat : At p bs (c :: r) w) :
    Calls Tryd.prog 54 #[.slice nb bs.length cb, .pointer (some ⟨p, 0, none⟩)] w fun e w' => e = .returned (.tuple #[.int .u8 (c.toNat : Int), .bool true]) ∧ Stepped p bs r w w' := by
  obtain ⟨a, ha, hd, hbox⟩ := hat
  obtain ⟨hlt, hd1, b, o, rfl, hc, hbp⟩ := hS.byte hd
  obtain ⟨c0, f0⟩ := place_cell hbox
  have HG := Lib.hid (At.gone hlt hd1 hbox)
  have hc2 : (w.setCell ⟨p, 0, none⟩ (.int .i64 ((a : Int) + 1))).cell? ⟨b, o + a, none⟩ = some (.int .u8 (c.toNat : Int)) := by
    rw [((Below.refl p w).setCell (p := ⟨p, 0, none⟩) (Nat.le_refl _) _).cell hbp]; exact hc
  have hc3 : (w.setCell ⟨p, 0, none⟩ (.int .i64 ((a : Int) + 1))).cell? ⟨p, 0, none⟩ = some (.int .i64 ((a : Int) + 1)) := by
    obtain ⟨a', h1, h2, h3⟩ := HG.out
    have h4 := heap_setCell_same w p 0 _ 3 (.int .i64 ((a : Int) + 1)) hbox
    rw [Lib.cell_of_heap h4]; rfl
  have hln := hS.len
  have e1 : ((a : Int) == (bs.length : Int)) = false := by rw [beq_eq_false_iff_ne]; omega
  have HK := Lib.hid ((Kept.refl p w).set (.int .i64 ((a : Int) + 1)))
  clear hS hd hd1 hbox ha hc
  go_enter Tryd.func54, Tryd.ntmps54
  go_wp2_with fail
  go_ret2

  exact ⟨rfl, HG.out, HK.out⟩

set_option maxHeartbeats 2000000 in
set_option maxRecDepth 100000 in
theorem ends_over (w0 w : World) (p : Nat) (nb : Option Addr) (cb : Nat) (bs r : List UInt8) (n : Nat) (hS : Src w0 p nb bs w) (hat : At p bs (0 :: r) w) :
    Calls Tryd.prog 65 #[.slice nb bs.length cb, .pointer (some ⟨p, 0, none⟩), .int .i64 (n : Int)] w fun e w' => e = .returned (.tuple #[.bool true, .bool true]) ∧ Stepped p bs r w w' := by
  obtain ⟨a, ha, hd, hbox⟩ := hat
  obtain ⟨hlt, hd1, b, o, rfl, hc, hbp⟩ := hS.byte hd
  obtain ⟨c0, f0⟩ := place_cell hbox
  have HG := Lib.hid (At.gone hlt hd1 hbox)
  have hln := hS.len
  have e1 : ((a : Int) == (bs.length : Int)) = false := by rw [beq_eq_false_iff_ne]; omega
  have hc0 : w.cell? ⟨b, o + a, none⟩ = some (.int .u8 0) := hc
  have HK := Lib.hid ((Kept.refl p w).set (.int .i64 ((a : Int) + 1)))
  clear hS hd hd1 hbox ha hc
  go_enter Tryd.func65, Tryd.ntmps65
  go_wp2_with fail
  go_ret2
  exact ⟨rfl, HG.out, HK.out⟩

set_option maxHeartbeats 2000000 in
set_option maxRecDepth 100000 in
theorem ends_more (w0 w : World) (p : Nat) (nb : Option Addr) (cb : Nat) (bs r : List UInt8) (c : UInt8) (n : Nat) (hS : Src w0 p nb bs w) (hat : At p bs (c :: r) w) (hc0 : c ≠ 0) (hn : n < 24) :
    Calls Tryd.prog 65 #[.slice nb bs.length cb, .pointer (some ⟨p, 0, none⟩), .int .i64 (n : Int)] w fun e w' => e = .returned (.tuple #[.bool false, .bool true]) ∧ Stepped p bs (c :: r) w w' := by
  have HAT := Lib.hid hat
  obtain ⟨a, ha, hd, hbox⟩ := hat
  obtain ⟨hlt, hd1, b, o, rfl, hc, hbp⟩ := hS.byte hd
  obtain ⟨c0, f0⟩ := place_cell hbox
  have hln := hS.len
  have e1 : ((a : Int) == (bs.length : Int)) = false := by rw [beq_eq_false_iff_ne]; omega
  have hz : ((c.toNat : Int) == 0) = false := by rw [beq_eq_false_iff_ne]; have := zero_lt_byte hc0; omega
  have hn2 : (n : Int) < 24 := by omega
  clear hS hd hd1 hbox ha hc0
  go_enter Tryd.func65, Tryd.ntmps65
  go_wp2_with fail
  go_ret2
  exact ⟨by simp, HAT.out, Kept.refl _ _⟩
end Go.Proofs.YtcbfbmidekmboaaDoor
