/- What the printer writes for the members of an object; under Go's own limit of length. -/
import Derived.Test.YtijibjdgnaphiaaDoorShowt
namespace Go.Proofs.YtijibjdgnaphiaaDoor
open Go.ChangeShapes Go.WideShapes Go.Deep Go.RowKit Go.Lib

set_option maxHeartbeats 2000000 in
set_option maxRecDepth 100000 in
theorem object_any (w0 : World) (b : Nat) (n : Int) (s : ByteArray) (na : Option Addr) (nc : Nat) (ns : List ByteArray) (xa : Option Addr) (xc : Nat) (xs : List AV) (lv : Nat) (l : List UInt8) (w : World)
    (hall : AV.allJ xs lv = true) (hits : AV.Its w0 xa xs) (hnin : AV.NamesIn w0 na ns) (hnsz : ∀ y ∈ ns, y.size ≤ 60) (hlen2 : ns.length = xs.length) (hl : xs.length ≤ 9223372036854775807) (hb : Below w0.heap.size w0 w) (h : Bld w0.heap.size b l w) (hpow : Pow w0) (hlen : l.length + (AV.membersL 0 ns xs).length + 2 + 400 ≤ 140737488355328)
    (IH : Hid (∀ x ∈ xs, PrintAt w0 b x)) :
    Calls Tryd.prog 59 #[.pointer (some ⟨b, 0, none⟩), (AV.mk 6 n s na nc ns xa xc xs).val] w fun e w' => e = .returned (.tuple #[]) ∧ Wrote w0.heap.size b (l ++ 123 :: (AV.membersL 0 ns xs ++ [125])) w w' := by
  have hB : w0.heap.size ≤ w.heap.size := hb.size
  have hblt := bld_lt h
  have HITS := Lib.hid hits
  have HNIN := Lib.hid hnin
  have HNSZ := Lib.hid hnsz
  have HLEN2 := Lib.hid hlen2
  have HPOW := Lib.hid hpow
  have HALL := Lib.hid hall
  obtain ⟨T, hT⟩ : ∃ T, l ++ [123] ++ AV.membersL 0 ns xs = T := ⟨_, rfl⟩
  have HT := Lib.hid hT
  have HTL : Hid (T.length + 401 ≤ 140737488355328) := Lib.hid (by rw [← hT]; simp; omega)
  have hw0 : ∀ o, Wrote w0.heap.size b l w (w.alloc o) := fun o => wrote_below h ((Below.refl w.heap.size w).alloc (Nat.le_refl _) o) hB
  have HB0 := Lib.hid hb
  clear hits hnin hnsz hlen2 hpow hT hall hb h hlen
  simp only [AV.val, AV.row]
  go_enter Tryd.func59, Tryd.ntmps59
  go_wp2_with fail
  refine (WriteByte_any w0.heap.size b l 123 _ (hw0 _).bld (by have := HTL.out; have := HT.out; rw [← this] at HTL; have := HTL.out; simp at this; omega) ((hw0 _).size hB)).mono ?_
  rintro e w1 ⟨rfl, hw1⟩
  have hk : w1.heap[w.heap.size]? = some (.cells #[.int .i64 6, .int .i64 n, .string s, .slice na ns.length nc, .slice xa xs.length xc] 25 (0, 0)) := hw1.box (box_new w _) (by omega)
  have hc4 : w1.cell? ⟨w.heap.size, 4, none⟩ = some (.slice xa xs.length xc) := by rw [Lib.cell_of_heap hk]; rfl
  have HW := Lib.hid ((hw0 _).then hw1)
  have HK := Lib.hid hk
  clear hw1 hk hw0
  go_wp2_with fail
  go_loopg [13] xs.length (fun g i wr => ∃ (j : Nat) (L : List UInt8), j + g = xs.length ∧ i = .int .i64 (j : Int) ∧ L ++ AV.membersL j (ns.drop j) (xs.drop j) = T ∧ AV.allJ (xs.drop j) lv = true ∧ Wrote w0.heap.size b L w wr ∧
    wr.heap[w.heap.size]? = some (.cells #[.int .i64 6, .int .i64 n, .string s, .slice na ns.length nc, .slice xa xs.length xc] 25 (0, 0)))
  case atStart => exact ⟨0, l ++ [123], by omega, rfl, HT.out, HALL.out, HW.out, HK.out⟩
  case round =>
    obtain ⟨j, L, hj, rfl, hrest, hall, hw, hkr⟩ := hrel
    have HJ := Lib.hid hj
    have HREST := Lib.hid hrest
    have HWR := Lib.hid hw
    have HALLJ := Lib.hid hall
    have HKR := Lib.hid hkr
    clear hj hrest hw hall hkr
    by_cases hlt : j < xs.length
    · obtain ⟨bx, ox, rfl, hit⟩ := (HITS.out).resolve_left (by intro e; rw [e] at hlt; simp at hlt)
      have hltn : j < ns.length := by have := HLEN2.out; omega
      obtain ⟨bn, on, rfl, hnit⟩ := (HNIN.out).resolve_left (by intro e; rw [e] at hltn; simp at hltn)
      have hbr : Below w0.heap.size w0 wr := HB0.out.trans HWR.out.below
      have hr : wr.rangeAt bx (ox + j * 5) xs[j].row := AV.rangeAt_old (fun a ha => hbr.cell ha) (hit j hlt).1
      have hcn := hnit j hltn
      have hyz := HNSZ.out _ (List.getElem_mem hltn)
      have hxin : AV.In w0 xs[j] := (hit j hlt).2
      have hmem : xs[j] ∈ xs := List.getElem_mem hlt
      obtain ⟨x, hx⟩ : ∃ x, xs[j] = x := ⟨_, rfl⟩
      obtain ⟨y, hy⟩ : ∃ y, ns[j] = y := ⟨_, rfl⟩
      have hd := AV.membersL_drop hlt hx hltn hy
      have hd2 := AV.allJ_drop (lv := lv) hlt hx
      rw [HALLJ.out] at hd2
      have HTR := Lib.hid (HREST.out.symm.trans (congrArg (L ++ ·) hd))
      rw [hx] at hxin hr hmem
      rw [hy] at hcn hyz
      have hf : AV.formedJ x lv = true := by have := hd2.symm; simp at this; exact this.1
      have hf2 : AV.allJ (xs.drop (j + 1)) lv = true := by have := hd2.symm; simp at this; exact this.2
      have CALL := Lib.hid (fun (L' : List UInt8) (W : World) (hW : Below w0.heap.size w0 W) (hb : Bld w0.heap.size b L' W) (hl : L'.length + x.text.length + 400 ≤ 140737488355328) => IH.out _ hmem lv L' W hf hxin hW hb HPOW.out hl)
      obtain ⟨k', n', s', na', nc', ns', xa', xc', xs'⟩ := x
      have HR := Lib.hid hr
      have HF2 := Lib.hid hf2
      have HBR := Lib.hid hbr
      have HCN := Lib.hid hcn
      clear hx hy hit hnit hr hd hd2 hf hf2 hbr hmem hxin hcn
      have hbs := HBR.out.size
      have hblt2 := bld_lt HWR.out.bld
      have hws : w.heap.size < wr.heap.size := by
        rcases Nat.lt_or_ge w.heap.size wr.heap.size with h' | h'
        · exact h'
        · have := HKR.out; simp [Array.getElem?_eq_none h'] at this
      have hw0 : ∀ o, Wrote w0.heap.size b L wr (wr.alloc o) := fun o => wrote_below HWR.out.bld ((Below.refl wr.heap.size wr).alloc (Nat.le_refl _) o) hbs
      go_wp2_with (first | ((with_reducible refine wpList_item_out HR.out ?_ ?_); rfl))
      refine (comma_any _ b L j _ (hw0 _).bld (by have := HTL.out; rw [HTR.out] at this; simp at this; omega) ((hw0 _).size hbs)).mono ?_
      rintro e w2 ⟨rfl, hw2⟩
      have hk2 := hw2.box (box_new wr _) (by omega)
      have hkb2 := hw2.box ((Lib.alloc_old wr _ _ hws).trans HKR.out) (by omega)
      have hc3 : w2.cell? ⟨w.heap.size, 3, none⟩ = some (.slice (some ⟨bn, on, none⟩) ns.length nc) := by rw [Lib.cell_of_heap hkb2]; rfl
      have HW2 := Lib.hid ((hw0 _).then hw2)
      have hcy : w2.cell? ⟨bn, on + j, none⟩ = some (.string y) := by
        rw [(HBR.out.trans HW2.out.below).cell (World.block_lt_of_cell? _ _ HCN.out)]; exact HCN.out
      have HK2 := Lib.hid hk2
      have HKB2 := Lib.hid hkb2
      clear hw2 hk2 hkb2 hw0
      go_wp2_with fail
      refine (quoted_any _ b (L ++ commaL j) y _ HW2.out.bld (by have := HTL.out; rw [HTR.out] at this; simp at this ⊢; omega) (HW2.out.size hbs)).mono ?_
      rintro e w3 ⟨rfl, hw3⟩
      have HK3 := Lib.hid (hw3.box HK2.out (by omega))
      have HKB3 := Lib.hid (hw3.box HKB2.out (by omega))
      have HW3 := Lib.hid (HW2.out.then hw3)
      clear hw3
      go_wp2_with fail
      refine (WriteByte_any _ b _ 58 _ HW3.out.bld (by have := HTL.out; rw [HTR.out] at this; simp at this ⊢; omega) (HW3.out.size hbs)).mono ?_
      rintro e w4 ⟨rfl, hw4⟩
      have HR4 : Hid (w4.rangeAt wr.heap.size 0 (AV.mk k' n' s' na' nc' ns' xa' xc' xs').row) := Lib.hid (box_row (hw4.box HK3.out (by omega)))
      have HKB4 := Lib.hid (hw4.box HKB3.out (by omega))
      have HW4 := Lib.hid (HW3.out.then hw4)
      clear hw4
      go_wp2_with (first | ((with_reducible refine wpList_item_out HR4.out ?_ ?_); rfl))
      refine (CALL.out _ w4 (HBR.out.trans HW4.out.below) HW4.out.bld (by have := HTL.out; rw [HTR.out] at this; simp at this ⊢; omega)).mono ?_
      rintro e w5 ⟨rfl, hw5⟩
      have HKB5 := Lib.hid (hw5.box HKB4.out (by omega))
      have HW5 := Lib.hid (HWR.out.then (HW4.out.then hw5))
      clear hw5
      go_wp2_with fail
      go_roundg (gk - 1)
      case measure => have := HJ.out; omega
      case rel => exact ⟨j + 1, _, by have := HJ.out; omega, by go_num, by rw [HTR.out]; simp, HF2.out, HW5.out, HKB5.out⟩
    · have hLT : L = T := by
        rw [← HREST.out, show xs.drop j = [] from List.drop_eq_nil_of_le (by omega)]
        simp [AV.membersL]
      go_wp2_with fail
      refine (WriteByte_any _ b L 125 _ HWR.out.bld (by rw [hLT]; have := HTL.out; omega) (HWR.out.size hB)).mono ?_
      rintro e w3 ⟨rfl, hw3⟩
      have HW3 := Lib.hid (HWR.out.then hw3)
      clear hw3
      go_wp2_with fail
      go_end0
      have := HW3.out
      rw [hLT, ← HT.out] at this
      exact ⟨rfl, by simpa using this⟩
end Go.Proofs.YtijibjdgnaphiaaDoor
