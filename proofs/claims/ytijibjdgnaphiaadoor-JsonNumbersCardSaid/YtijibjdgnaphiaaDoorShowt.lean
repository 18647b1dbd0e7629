/- The text of a formed value, and that the printer writes it for the items of an array; under Go's own limit of length. -/
import Derived.Test.YtijibjdgnaphiaaDoorQuot
import Derived.Test.YtijibjdgnaphiaaDoorForms
namespace Go.Proofs.YtijibjdgnaphiaaDoor
open Go.ChangeShapes Go.WideShapes Go.Deep Go.RowKit Go.Lib

namespace AV
mutual
/-- A formed value's text. -/
def text : AV → List UInt8
  | mk k n s _ _ ns _ _ xs =>
    if k = 0 then [110, 117, 108, 108] else if k = 1 then [102, 97, 108, 115, 101] else if k = 2 then [116, 114, 117, 101] else if k = 3 then Lib.itoa n else if k = 4 then quotedL s
    else if k = 5 then 91 :: (itemsL 0 xs ++ [93]) else if k = 6 then 123 :: (membersL 0 ns xs ++ [125]) else []
/-- Items, from number i on. -/
def itemsL : Nat → List AV → List UInt8
  | _, [] => []
  | i, t :: ts => commaL i ++ (text t ++ itemsL (i + 1) ts)
/-- Members, from number i on. -/
def membersL : Nat → List ByteArray → List AV → List UInt8
  | _, _, [] => []
  | i, ns, t :: ts => commaL i ++ (quotedL (ns.headD ⟨#[]⟩) ++ (58 :: (text t ++ membersL (i + 1) ns.tail ts)))
end

theorem itemsL_drop {xs : List AV} {j : Nat} {x : AV} (hlt : j < xs.length) (hx : xs[j] = x) : itemsL j (xs.drop j) = commaL j ++ (text x ++ itemsL (j + 1) (xs.drop (j + 1))) := by
  rw [List.drop_eq_getElem_cons hlt, itemsL, hx]
theorem membersL_drop {ns : List ByteArray} {xs : List AV} {j : Nat} {x : AV} {y : ByteArray} (hlt : j < xs.length) (hx : xs[j] = x) (hlt' : j < ns.length) (hy : ns[j] = y) :
    membersL j (ns.drop j) (xs.drop j) = commaL j ++ (quotedL y ++ (58 :: (text x ++ membersL (j + 1) (ns.drop (j + 1)) (xs.drop (j + 1))))) := by
  rw [List.drop_eq_getElem_cons hlt, List.drop_eq_getElem_cons hlt', membersL, hx, hy]
  simp
end AV

theorem bld_below {B b : Nat} {l : List UInt8} {w w' : World} (h : Bld B b l w) (hb : Below w.heap.size w w') : Bld B b l w' := by
  have one : ∀ p, Lib.BuilderAt 55 5 B b p (Lib.byteCells l) w → Lib.BuilderAt 55 5 B b p (Lib.byteCells l) w' := by
    rintro p ⟨h1, v, h2, h3, h4⟩
    have hlt : b < w.heap.size := by
      rcases Nat.lt_or_ge b w.heap.size with h' | h'
      · exact h'
      · simp [Array.getElem?_eq_none h'] at h2
    exact ⟨h1, v, by rw [hb.block b hlt]; exact h2, h3.kept (row := none) ⟨hb.os, hb.tape, hb.output, hb.size, fun j hj _ => hb.block j hj⟩ (by cases hv : v.ownBlock <;> simp), h4⟩
  exact h.imp (one _) (one _)

theorem kept_below {b : Nat} {w w' : World} (hb : Below w.heap.size w w') : Lib.OthersKept 5 (some b) w w' := fun k o hk _ _ => by
  have hlt : k < w.heap.size := by
    rcases Nat.lt_or_ge k w.heap.size with h' | h'
    · exact h'
    · simp [Array.getElem?_eq_none h'] at hk
  rw [hb.block k hlt]; exact hk

/-- What only adds memory leaves the builder. -/
theorem wrote_below {B b : Nat} {l : List UInt8} {w w' : World} (h : Bld B b l w) (hb : Below w.heap.size w w') (hB : B ≤ w.heap.size) : Wrote B b l w w' := ⟨bld_below h hb, hb.mono hB, kept_below hb⟩

theorem Wrote.box {B b : Nat} {l : List UInt8} {w w' : World} (h : Wrote B b l w w') {k : Nat} {cs : Array Value} (hk : w.heap[k]? = some (.cells cs 25 (0, 0))) (hkb : k ≠ b) : w'.heap[k]? = some (.cells cs 25 (0, 0)) :=
  h.kept k _ hk (by simpa using hkb) (by intro c fz e; injection e with _ e2 _; exact absurd e2 (by decide))

theorem box_new (w : World) (cs : Array Value) : (w.alloc (.cells cs 25)).heap[w.heap.size]? = some (.cells cs 25 (0, 0)) := heap_alloc_new w _

theorem box_row {w : World} {n : Nat} {t : AV} (h : w.heap[n]? = some (.cells t.row.toArray 25 (0, 0))) : w.rangeAt n 0 t.row := fun j v hv => by
  rw [Lib.cell_of_heap h]
  simpa using hv

/-- The table that the numbers' digits are reckoned by. -/
def Pow (w : World) : Prop := Lib.TabIs Tryd.prog w "internal/strconv.uint64pow10" .u64 Lib.pow10Tab

theorem Pow.later {w w' : World} (h : Pow w) (hb : Below w.heap.size w w') : Pow w' := by
  unfold Pow Lib.TabIs World.var? at h ⊢
  cases hg : Tryd.prog.globalNamed "internal/strconv.uint64pow10" with
  | none => rw [hg] at h; cases h
  | some g =>
    rw [hg] at h
    simp only [Option.bind_some] at h ⊢
    have hlt : g < w.heap.size := by
      rcases Nat.lt_or_ge g w.heap.size with h' | h'
      · exact h'
      · rw [Array.getElem?_eq_none h'] at h; cases h
    rw [hb.block g hlt]
    exact h

/-- What is asked of the call for each item. -/
def PrintAt (w0 : World) (b : Nat) (x : AV) : Prop := ∀ (lv : Nat) (l : List UInt8) (w : World), AV.formedJ x lv = true → x.In w0 → Below w0.heap.size w0 w → Bld w0.heap.size b l w → Pow w0 → l.length + x.text.length + 400 ≤ 140737488355328 →
  Calls Tryd.prog 37 #[.pointer (some ⟨b, 0, none⟩), x.val] w fun e w' => e = .returned (.tuple #[]) ∧ Wrote w0.heap.size b (l ++ x.text) w w'

set_option maxHeartbeats 1000000 in
set_option maxRecDepth 100000 in
theorem array_any (w0 : World) (b : Nat) (n : Int) (s : ByteArray) (na : Option Addr) (nc : Nat) (ns : List ByteArray) (xa : Option Addr) (xc : Nat) (xs : List AV) (lv : Nat) (l : List UInt8) (w : World)
    (hall : AV.allJ xs lv = true) (hits : AV.Its w0 xa xs) (hl : xs.length ≤ 9223372036854775807) (hb : Below w0.heap.size w0 w) (h : Bld w0.heap.size b l w) (hpow : Pow w0) (hlen : l.length + (AV.itemsL 0 xs).length + 2 + 400 ≤ 140737488355328)
    (IH : Hid (∀ x ∈ xs, PrintAt w0 b x)) :
    Calls Tryd.prog 58 #[.pointer (some ⟨b, 0, none⟩), (AV.mk 5 n s na nc ns xa xc xs).val] w fun e w' => e = .returned (.tuple #[]) ∧ Wrote w0.heap.size b (l ++ 91 :: (AV.itemsL 0 xs ++ [93])) w w' := by
  have hB : w0.heap.size ≤ w.heap.size := hb.size
  have hblt := bld_lt h
  obtain ⟨B, hBB⟩ : ∃ B, w0.heap.size = B := ⟨_, rfl⟩
  have HITS := Lib.hid hits
  have HPOW := Lib.hid hpow
  have HALL := Lib.hid hall
  obtain ⟨T, hT⟩ : ∃ T, l ++ [91] ++ AV.itemsL 0 xs = T := ⟨_, rfl⟩
  have HT := Lib.hid hT
  have HTL : Hid (T.length + 401 ≤ 140737488355328) := Lib.hid (by rw [← hT]; simp; omega)
  have hw0 : ∀ o, Wrote w0.heap.size b l w (w.alloc o) := fun o => wrote_below h ((Below.refl w.heap.size w).alloc (Nat.le_refl _) o) hB
  have HB0 := Lib.hid hb
  clear hits hpow hT hall hb h hlen
  simp only [AV.val, AV.row]
  go_enter Tryd.func58, Tryd.ntmps58
  go_wp2_with fail
  refine (WriteByte_any w0.heap.size b l 91 _ (hw0 _).bld (by have := HTL.out; have := HT.out; rw [← this] at HTL; have := HTL.out; simp at this; omega) ((hw0 _).size hB)).mono ?_
  rintro e w1 ⟨rfl, hw1⟩
  have hk : w1.heap[w.heap.size]? = some (.cells #[.int .i64 5, .int .i64 n, .string s, .slice na ns.length nc, .slice xa xs.length xc] 25 (0, 0)) := hw1.box (box_new w _) (by omega)
  have hc4 : w1.cell? ⟨w.heap.size, 4, none⟩ = some (.slice xa xs.length xc) := by rw [Lib.cell_of_heap hk]; rfl
  have HW := Lib.hid ((hw0 _).then hw1)
  clear hw1 hk hw0
  go_wp2_with fail
  go_loopg [13] xs.length (fun g i wr => ∃ (j : Nat) (L : List UInt8), j + g = xs.length ∧ i = .int .i64 (j : Int) ∧ L ++ AV.itemsL j (xs.drop j) = T ∧ AV.allJ (xs.drop j) lv = true ∧ Wrote w0.heap.size b L w wr)
  case atStart => exact ⟨0, l ++ [91], by omega, rfl, HT.out, HALL.out, HW.out⟩
  case round =>
    obtain ⟨j, L, hj, rfl, hrest, hall, hw⟩ := hrel
    have HJ := Lib.hid hj
    have HREST := Lib.hid hrest
    have HWR := Lib.hid hw
    have HALLJ := Lib.hid hall
    clear hj hrest hw hall
    by_cases hlt : j < xs.length
    · obtain ⟨bx, ox, rfl, hit⟩ := (HITS.out).resolve_left (by intro e; rw [e] at hlt; simp at hlt)
      have hbr : Below w0.heap.size w0 wr := HB0.out.trans HWR.out.below
      have hr : wr.rangeAt bx (ox + j * 5) xs[j].row := AV.rangeAt_old (fun a ha => hbr.cell ha) (hit j hlt).1
      have hxin : AV.In w0 xs[j] := (hit j hlt).2
      have hmem : xs[j] ∈ xs := List.getElem_mem hlt
      obtain ⟨x, hx⟩ : ∃ x, xs[j] = x := ⟨_, rfl⟩
      have hd := AV.itemsL_drop hlt hx
      have hd2 := AV.allJ_drop (lv := lv) hlt hx
      rw [HALLJ.out] at hd2
      have HTR := Lib.hid (HREST.out.symm.trans (congrArg (L ++ ·) hd))
      rw [hx] at hxin hr hmem
      have hf : AV.formedJ x lv = true := by have := hd2.symm; simp at this; exact this.1
      have hf2 : AV.allJ (xs.drop (j + 1)) lv = true := by have := hd2.symm; simp at this; exact this.2
      have CALL := Lib.hid (fun (L' : List UInt8) (W : World) (hW : Below w0.heap.size w0 W) (hb : Bld w0.heap.size b L' W) (hl : L'.length + x.text.length + 400 ≤ 140737488355328) => IH.out _ hmem lv L' W hf hxin hW hb HPOW.out hl)
      obtain ⟨k', n', s', na', nc', ns', xa', xc', xs'⟩ := x
      have HR := Lib.hid hr
      have HF2 := Lib.hid hf2
      have HBR := Lib.hid hbr
      clear hx hit hr hd hd2 hf hf2 hbr hmem hxin
      have hbs := HBR.out.size
      have hblt2 := bld_lt HWR.out.bld
      have hw0 : ∀ o, Wrote w0.heap.size b L wr (wr.alloc o) := fun o => wrote_below HWR.out.bld ((Below.refl wr.heap.size wr).alloc (Nat.le_refl _) o) hbs
      go_wp2_with (first | ((with_reducible refine wpList_item_out HR.out ?_ ?_); rfl))
      refine (comma_any _ b L j _ (hw0 _).bld (by have := HTL.out; rw [HTR.out] at this; simp at this; omega) ((hw0 _).size hbs)).mono ?_
      rintro e w2 ⟨rfl, hw2⟩
      have hk2 := hw2.box (box_new wr _) (by omega)
      have HR2 : Hid (w2.rangeAt wr.heap.size 0 (AV.mk k' n' s' na' nc' ns' xa' xc' xs').row) := Lib.hid (box_row hk2)
      have HW2 := Lib.hid ((hw0 _).then hw2)
      clear hw2 hk2 hw0
      go_wp2_with (first | ((with_reducible refine wpList_item_out HR2.out ?_ ?_); rfl))
      refine (CALL.out (L ++ commaL j) w2 (HBR.out.trans HW2.out.below) HW2.out.bld (by have := HTL.out; rw [HTR.out] at this; simp at this ⊢; omega)).mono ?_
      rintro e w3 ⟨rfl, hw3⟩
      have HW3 := Lib.hid (HWR.out.then (HW2.out.then hw3))
      clear hw3
      go_wp2_with fail
      go_roundg (gk - 1)
      case measure => have := HJ.out; omega
      case rel => exact ⟨j + 1, _, by have := HJ.out; omega, by go_num, by rw [HTR.out]; simp, HF2.out, HW3.out⟩
    · have hLT : L = T := by
        rw [← HREST.out, List.drop_eq_nil_of_le (by omega)]
        simp [AV.itemsL]
      go_wp2_with fail
      refine (WriteByte_any _ b L 93 _ HWR.out.bld (by rw [hLT]; have := HTL.out; omega) (HWR.out.size hB)).mono ?_
      rintro e w3 ⟨rfl, hw3⟩
      have HW3 := Lib.hid (HWR.out.then hw3)
      clear hw3
      go_wp2_with fail
      go_end0
      have := HW3.out
      rw [hLT, ← HT.out] at this
      exact ⟨rfl, by simpa using this⟩
end Go.Proofs.YtijibjdgnaphiaaDoor
