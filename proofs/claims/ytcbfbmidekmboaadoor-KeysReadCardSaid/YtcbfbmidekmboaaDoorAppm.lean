/- What the program appends for the members of an array, of an object; under Go's own limit of length. -/
import Derived.Test.YtcbfbmidekmboaaDoorRtext
import Derived.Test.YtcbfbmidekmboaaDoorOrd
namespace Go.Proofs.YtcbfbmidekmboaaDoor
open Go.ChangeShapes Go.WideShapes Go.Deep Go.RowKit Go.Lib

/-- What is asked of the call that appends a value's key. -/
def AppAt (t : AV) : Prop := ∀ (w0 w : World) (B : Nat) (na : Option Addr) (cap : Nat) (l : List UInt8) (lv : Nat), t.In w0 → Below w0.heap.size w0 w → w0.heap.size ≤ B → B ≤ w.heap.size →
  w.ownsRow B 5 1 (.slice na l.length cap) l.length (Lib.byteCells l) → AV.formedJ t lv = true → l.length + (AV.key t).length ≤ 140737488355328 → Calls Tryd.prog 24 #[.slice na l.length cap, t.val] w (Wrote B (l ++ AV.key t) w)

theorem allJ_take {xs : List AV} {lv : Nat} (h : AV.allJ xs lv = true) : ∀ x ∈ xs, AV.formedJ x lv = true := AV.allJ_all h

set_option maxHeartbeats 4000000 in
set_option maxRecDepth 100000 in
theorem membersArr_any (n : Int) (s : ByteArray) (sa : Option Addr) (sc : Nat) (ns : List ByteArray) (xa : Option Addr) (xc : Nat) (xs : List AV) (w0 w : World) (B : Nat) (na : Option Addr) (cap : Nat) (l : List UInt8) (lv : Nat) (hits : AV.Its w0 xa xs) (hx : xs.length ≤ 9223372036854775807)
    (hb : Below w0.heap.size w0 w) (hB0 : w0.heap.size ≤ B) (hB : B ≤ w.heap.size) (hown : w.ownsRow B 5 1 (.slice na l.length cap) l.length (Lib.byteCells l)) (hall : AV.allJ xs lv = true) (hlen : l.length + (AV.keyAll false ns xs).length + 1 ≤ 140737488355328) (IH : Hid (∀ x ∈ xs, AppAt x)) :
    Calls Tryd.prog 37 #[.slice na l.length cap, (AV.mk 5 n s sa sc ns xa xc xs).val] w (Wrote B (l ++ (AV.keyAll false ns xs ++ [0])) w) := by
  obtain ⟨T, hT⟩ : ∃ T, l ++ AV.keyAll false ns xs = T := ⟨_, rfl⟩
  have hTl : T.length + 1 ≤ 140737488355328 := by rw [← hT, List.length_append]; exact hlen
  rw [← List.append_assoc, hT]
  have HT := Lib.hid hT
  have HTL := Lib.hid hTl
  have HB := Lib.hid hB
  have HB0 := Lib.hid hB0
  have HBL := Lib.hid hb
  have HITS := Lib.hid hits
  have HALL := Lib.hid (allJ_take hall)
  have H0 := Lib.hid (fun o => (Took.refl hown).alloc hB o)
  clear hT hTl hlen hown hB hB0 hb hits hall
  simp only [AV.val, AV.row]
  go_enter Tryd.func37, Tryd.ntmps37
  go_wp2_with fail
  go_loopg [0, 10] xs.length (fun g b i wr => ∃ (j : Nat) (L : List UInt8), j + g = xs.length ∧ i = .int .i64 (j : Int) ∧ Took B b L w wr ∧ L ++ AV.keyAll false (ns.drop j) (xs.drop j) = T ∧
    wr.heap[w.heap.size]? = some (.cells #[.int .i64 5, .int .i64 n, .string s, .slice sa ns.length sc, .slice xa xs.length xc] 25 (0, 0)))
  case atStart => exact ⟨0, l, by omega, rfl, H0.out _, HT.out, heap_alloc_new w _⟩
  case round =>
    obtain ⟨j, L, hj, rfl, hw, hrest, hbox⟩ := hrel
    obtain ⟨nb, cb, rfl⟩ := hw.slice
    have HJ := Lib.hid hj
    have HW := Lib.hid hw
    have HBOX := Lib.hid hbox
    have hBr := hw.size HB.out
    by_cases hlt : j < xs.length
    · obtain ⟨bx, ox, rfl, hit⟩ := (HITS.out).resolve_left (by intro e; rw [e] at hlt; simp at hlt)
      have hd := AV.keyAll_drop (o := false) (ns := ns) hlt
      rw [hd, AV.nameL, if_neg (by decide), List.nil_append] at hrest
      have hbr : Below w0.heap.size w0 wr := HBL.out.trans (hw.below.mono HB0.out)
      have hr : wr.rangeAt bx (ox + j * 5) xs[j].row := AV.rangeAt_old (fun a ha => hbr.cell ha) (hit j hlt).1
      have hxin : AV.In w0 xs[j] := (hit j hlt).2
      have hmem : xs[j] ∈ xs := List.getElem_mem hlt
      have hfx := HALL.out _ hmem
      have hih := IH.out _ hmem
      obtain ⟨x, hx⟩ : ∃ x, xs[j] = x := ⟨_, rfl⟩
      rw [hx] at hr hxin hrest hfx hih
      have HREST := Lib.hid hrest
      have CALL := Lib.hid (fun (W : World) (hW : Took B (.slice nb L.length cb) L w W) => hih w0 W B nb cb L lv hxin (HBL.out.trans (hW.below.mono HB0.out)) HB0.out (hW.size HB.out) hW.own hfx (by have := HTL.out; rw [← HREST.out] at this; simp only [List.length_append] at this; omega))
      obtain ⟨R, hR⟩ : ∃ R, AV.key x = R := ⟨_, rfl⟩
      rw [hR] at CALL HREST
      obtain ⟨k', n', s', na', nc', ns', xa', xc', xs'⟩ := x
      have HR := Lib.hid hr
      have hc0 : wr.cell? ⟨w.heap.size, 0, none⟩ = some (.int .i64 5) := (box_cells HBOX.out).1
      have hws : w.heap.size < wr.heap.size := World.block_lt_of_cell? wr _ hc0
      clear hd hrest hbr hr hxin hmem hfx hih hx hit hj hw hbox hR
      simp only [AV.val, AV.row] at CALL
      have HA := Lib.hid (HW.out.alloc hBr (.cells #[.int .i64 k', .int .i64 n', .string s', .slice na' ns'.length nc', .slice xa' xs'.length xc'] 25))
      go_wp2_with ((with_reducible refine wpList_item_out HR.out ?_ ?_); rfl)
      refine (CALL.out _ HA.out).mono ?_
      rintro e W2 ⟨nc, cc, rfl, hW2⟩
      have HK2 := Lib.hid (hW2.box ((Lib.alloc_old wr _ _ hws).trans HBOX.out) (by intro c fz h; cases h))
      have HW2 := Lib.hid (HA.out.next hW2)
      clear hW2
      go_wp2_with fail
      go_roundg (gk - 1)
      case measure => have := HJ.out; omega
      case rel => exact ⟨j + 1, L ++ R, by have := HJ.out; omega, by go_num, by have := HW2.out; rw [List.length_append] at this; exact this, by rw [← HREST.out]; simp, HK2.out⟩
    · have hLT : L = T := by
        rw [← hrest, AV.keyAll_end (by omega), List.append_nil]
      subst hLT
      clear hrest hw hj hbox
      go_wp2_with (at_builtin; refine wpList_lit rfl _ _ rfl HW.out hBr rfl [0] _ 1 rfl rfl rfl (by have := HTL.out; simpa using this) ?_)
      intro nc cc W hW
      have HW2 := Lib.hid hW
      clear hW
      go_wp2_with fail
      go_ret
      exact ⟨nc, cc, by simp, by have := HW2.out; simpa using this⟩
end Go.Proofs.YtcbfbmidekmboaaDoor
