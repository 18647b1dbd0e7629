/- What the program appends for the members of an object; under Go's own limit of length. -/
import Derived.Test.YtcbfbmidekmboaaDoorAppm
namespace Go.Proofs.YtcbfbmidekmboaaDoor
open Go.ChangeShapes Go.WideShapes Go.Deep Go.RowKit Go.Lib

set_option maxHeartbeats 4000000 in
set_option maxRecDepth 100000 in
theorem membersObj_any (n : Int) (s : ByteArray) (sa : Option Addr) (sc : Nat) (ns : List ByteArray) (xa : Option Addr) (xc : Nat) (xs : List AV) (w0 w : World) (B : Nat) (na : Option Addr) (cap : Nat) (l : List UInt8) (lv : Nat) (hits : AV.Its w0 xa xs) (hnin : AV.NamesIn w0 sa ns) (hnsz : ∀ y ∈ ns, y.size ≤ maxLen) (hl2 : ns.length = xs.length) (hx : xs.length ≤ 9223372036854775807)
    (hb : Below w0.heap.size w0 w) (hB0 : w0.heap.size ≤ B) (hB : B ≤ w.heap.size) (hown : w.ownsRow B 5 1 (.slice na l.length cap) l.length (Lib.byteCells l)) (hall : AV.allJ xs lv = true) (hlen : l.length + (AV.keyAll true ns xs).length + 1 ≤ 140737488355328) (IH : Hid (∀ x ∈ xs, AppAt x)) :
    Calls Tryd.prog 37 #[.slice na l.length cap, (AV.mk 6 n s sa sc ns xa xc xs).val] w (Wrote B (l ++ (AV.keyAll true ns xs ++ [0])) w) := by
  obtain ⟨T, hT⟩ : ∃ T, l ++ AV.keyAll true ns xs = T := ⟨_, rfl⟩
  have hTl : T.length + 1 ≤ 140737488355328 := by rw [← hT, List.length_append]; exact hlen
  rw [← List.append_assoc, hT]
  have HT := Lib.hid hT
  have HTL := Lib.hid hTl
  have HB := Lib.hid hB
  have HB0 := Lib.hid hB0
  have HBL := Lib.hid hb
  have HITS := Lib.hid hits
  have HNIN := Lib.hid hnin
  have HNSZ := Lib.hid hnsz
  have HL2 := Lib.hid hl2
  have HALL := Lib.hid (allJ_take hall)
  have H0 := Lib.hid (fun o => (Took.refl hown).alloc hB o)
  clear hT hTl hlen hown hB hB0 hb hits hall hnin hnsz hl2
  simp only [AV.val, AV.row]
  go_enter Tryd.func37, Tryd.ntmps37
  go_wp2_with fail
  go_loopg [0, 10] xs.length (fun g b i wr => ∃ (j : Nat) (L : List UInt8), j + g = xs.length ∧ i = .int .i64 (j : Int) ∧ Took B b L w wr ∧ L ++ AV.keyAll true (ns.drop j) (xs.drop j) = T ∧
    wr.heap[w.heap.size]? = some (.cells #[.int .i64 6, .int .i64 n, .string s, .slice sa ns.length sc, .slice xa xs.length xc] 25 (0, 0)))
  case atStart => exact ⟨0, l, by omega, rfl, H0.out _, HT.out, heap_alloc_new w _⟩
  case round =>
    obtain ⟨j, L, hj, rfl, hw, hrest, hbox⟩ := hrel
    obtain ⟨nb, cb, rfl⟩ := hw.slice
    have HJ := Lib.hid hj
    have HW := Lib.hid hw
    have HBOX := Lib.hid hbox
    have hBr := hw.size HB.out
    by_cases hlt : j < xs.length
    · obtain ⟨bx, ox, rfl, hit⟩ := (HITS.out).resolve_left (by intro e; rw [e] at hlt; simp at hlt)
      have hltn : j < ns.length := by have := HL2.out; omega
      obtain ⟨bn, on, rfl, hnit⟩ := (HNIN.out).resolve_left (by intro e; rw [e] at hltn; simp at hltn)
      have hcn := hnit j hltn
      have hyz := HNSZ.out _ (List.getElem_mem hltn)
      have hd := AV.keyAll_drop (o := true) (ns := ns) hlt
      have hgd : ns.getD j ⟨#[]⟩ = ns[j] := by simp [List.getD_eq_getElem?_getD, List.getElem?_eq_getElem hltn]
      rw [hd, AV.nameL, if_pos rfl, hgd] at hrest
      obtain ⟨y, hy⟩ : ∃ y, ns[j] = y := ⟨_, rfl⟩
      rw [hy] at hrest hcn hyz
      have hbr : Below w0.heap.size w0 wr := HBL.out.trans (hw.below.mono HB0.out)
      have hr : wr.rangeAt bx (ox + j * 5) xs[j].row := AV.rangeAt_old (fun a ha => hbr.cell ha) (hit j hlt).1
      have hxin : AV.In w0 xs[j] := (hit j hlt).2
      have hmem : xs[j] ∈ xs := List.getElem_mem hlt
      have hfx := HALL.out _ hmem
      have hih := IH.out _ hmem
      obtain ⟨x, hx⟩ : ∃ x, xs[j] = x := ⟨_, rfl⟩
      rw [hx] at hr hxin hrest hfx hih
      have HREST := Lib.hid hrest
      have NAME := Lib.hid (fun (na : Option Addr) (ca : Nat) (W : World) (hW : Took B (.slice na (L ++ [1]).length ca) (L ++ [1]) w W) => appText_any B na ca (L ++ [1]) y W hW.own (hW.size HB.out) hyz (by have := HTL.out; rw [← HREST.out] at this; simp only [List.length_append, List.length_cons, List.length_nil] at this ⊢; omega))
      have CALL := Lib.hid (fun (na : Option Addr) (ca : Nat) (W : World) (hW : Took B (.slice na (L ++ [1] ++ textL y.data.toList).length ca) (L ++ [1] ++ textL y.data.toList) w W) => hih w0 W B na ca (L ++ [1] ++ textL y.data.toList) lv hxin (HBL.out.trans (hW.below.mono HB0.out)) HB0.out (hW.size HB.out) hW.own hfx (by have := HTL.out; rw [← HREST.out] at this; simp only [List.length_append, List.length_cons, List.length_nil] at this ⊢; omega))
      have HCN := Lib.hid hcn
      clear hcn
      obtain ⟨R, hR⟩ : ∃ R, textL y.data.toList = R := ⟨_, rfl⟩
      rw [hR] at NAME CALL HREST
      obtain ⟨X, hX⟩ : ∃ X, AV.key x = X := ⟨_, rfl⟩
      rw [hX] at CALL HREST
      simp only [List.length_append, List.length_cons, List.length_nil, Nat.zero_add] at NAME CALL
      obtain ⟨k', n', s', na', nc', ns', xa', xc', xs'⟩ := x
      have HR := Lib.hid hr
      have hc0 : wr.cell? ⟨w.heap.size, 0, none⟩ = some (.int .i64 6) := (box_cells HBOX.out).1
      have hws : w.heap.size < wr.heap.size := World.block_lt_of_cell? wr _ hc0
      clear hd hrest hbr hr hxin hmem hfx hih hx hit hj hw hbox hy hyz hnit hgd hR hX
      simp only [AV.val, AV.row] at CALL
      have HA := Lib.hid (HW.out.alloc hBr (.cells #[.int .i64 k', .int .i64 n', .string s', .slice na' ns'.length nc', .slice xa' xs'.length xc'] 25))
      have HLA : Hid (L.length + 1 ≤ 140737488355328) := Lib.hid (by have := HTL.out; rw [← HREST.out] at this; simp only [List.length_append, List.length_cons] at this; omega)
      go_wp2_with (first | ((with_reducible refine wpList_item_out HR.out ?_ ?_); rfl) | (at_builtin; refine wpList_lit2 rfl _ _ rfl (Took.refl HA.out.own) (by omega) rfl [1] _ 1 rfl rfl rfl (by have := HLA.out; simpa using this) ?_))
      intro nc cc W2 hW2
      have HNX : Hid (W2.heap[wr.heap.size]? = some (.cells #[.int .i64 k', .int .i64 n', .string s', .slice na' ns'.length nc', .slice xa' xs'.length xc'] 25 (0, 0))) := Lib.hid (hW2.box (heap_alloc_new wr _) (by intro c fz h; cases h))
      have HQ2 := Lib.hid (hW2.box ((Lib.alloc_old wr _ _ hws).trans HBOX.out) (by intro c fz h; cases h))
      have HW2 := Lib.hid (HA.out.next hW2)
      clear hW2
      have hcq : W2.cell? ⟨w.heap.size, 3, none⟩ = some (.slice (some ⟨bn, on, none⟩) ns.length sc) := (box_cells HQ2.out).2.2.2.1
      have hcy : W2.cell? ⟨bn, on + j, none⟩ = some (.string y) := by
        rw [(HBL.out.trans (HW2.out.below.mono HB0.out)).cell (World.block_lt_of_cell? _ _ HCN.out)]; exact HCN.out
      go_wp2_with fail
      refine (NAME.out nc cc W2 HW2.out).mono ?_
      rintro e W3 ⟨nd, cd, rfl, hW3⟩
      simp only [List.length_append, List.length_cons, List.length_nil, Nat.zero_add] at hW3 ⊢
      obtain ⟨a0, a1, a2, a3, a4⟩ := box_cells (hW3.box HNX.out (by intro c fz h; cases h))
      have HQ3 := Lib.hid (hW3.box HQ2.out (by intro c fz h; cases h))
      have HW3 := Lib.hid (HW2.out.next hW3)
      clear hW3 hcq hcy
      go_wp2_with fail
      refine (CALL.out nd cd W3 HW3.out).mono ?_
      rintro e W4 ⟨nf, cf, rfl, hW4⟩
      simp only [List.length_append, List.length_cons, List.length_nil, Nat.zero_add] at hW4 ⊢
      have HQ4 := Lib.hid (hW4.box HQ3.out (by intro c fz h; cases h))
      have HW4 := Lib.hid (HW3.out.next hW4)
      clear hW4 a0 a1 a2 a3 a4
      go_wp2_with fail
      go_roundg (gk - 1)
      case measure => have := HJ.out; omega
      case rel => exact ⟨j + 1, L ++ [1] ++ R ++ X, by have := HJ.out; omega, by go_num, by have := HW4.out; simpa using this, by rw [← HREST.out]; simp, HQ4.out⟩
    · have hLT : L = T := by
        rw [← hrest, AV.keyAll_end (by omega), List.append_nil]
      subst hLT
      clear hrest hw hj hbox
      go_wp2_with (at_builtin; refine wpList_lit rfl _ _ rfl HW.out hBr rfl [0] _ 1 rfl rfl rfl (by have := HTL.out; simpa using this) ?_)
      intro nc cc W hW
      have HW2 := Lib.hid hW
      clear hW
      go_wp2_with fail
      go_ret
      exact ⟨nc, cc, by simp, by have := HW2.out; simpa using this⟩
end Go.Proofs.YtcbfbmidekmboaaDoor
