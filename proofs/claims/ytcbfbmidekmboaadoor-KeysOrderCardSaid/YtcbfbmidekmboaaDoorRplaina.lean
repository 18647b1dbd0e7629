/- A value's key by the document: what the call answers, for arrays; under Go's own limit of length. -/
import Derived.Test.YtcbfbmidekmboaaDoorRplain
import Derived.Test.YtcbfbmidekmboaaDoorOrd
namespace Go.Proofs.YtcbfbmidekmboaaDoor
open Go.ChangeShapes Go.WideShapes Go.Deep Go.RowKit Go.Lib

/-- What is asked of the document's call. -/
def PlainAt (t : AV) : Prop := ∀ (w0 w : World) (lv : Nat), t.In w0 → Below w0.heap.size w0 w → AV.formedJ t lv = true → (AV.key t).length ≤ 140737488355328 → Calls Tryd.prog 26 #[t.val] w (Gave (AV.key t) w)

set_option maxHeartbeats 4000000 in
set_option maxRecDepth 100000 in
theorem rplain_arr (n : Int) (s : ByteArray) (sa : Option Addr) (sc : Nat) (ns : List ByteArray) (xa : Option Addr) (xc : Nat) (xs : List AV) (w0 w : World) (lv : Nat) (hits : AV.Its w0 xa xs) (hx : xs.length ≤ 9223372036854775807)
    (hb : Below w0.heap.size w0 w) (hall : AV.allJ xs lv = true) (hlen : (AV.keyAll false ns xs).length + 2 ≤ 140737488355328) (IH : Hid (∀ x ∈ xs, PlainAt x)) :
    Calls Tryd.prog 26 #[(AV.mk 5 n s sa sc ns xa xc xs).val] w (Gave (6 :: (AV.keyAll false ns xs ++ [0])) w) := by
  obtain ⟨T, hT⟩ : ∃ T, [6] ++ AV.keyAll false ns xs = T := ⟨_, rfl⟩
  have hTl : T.length + 1 ≤ 140737488355328 := by rw [← hT, List.length_append]; simp only [List.length_cons, List.length_nil]; omega
  rw [show (6 : UInt8) :: (AV.keyAll false ns xs ++ [0]) = ([6] ++ AV.keyAll false ns xs) ++ [0] by simp, hT]
  have HT := Lib.hid hT
  have HTL := Lib.hid hTl
  have HBL := Lib.hid hb
  have HITS := Lib.hid hits
  have HALL : Hid (∀ x ∈ xs, AV.formedJ x lv = true) := Lib.hid (AV.allJ_all hall)
  have HS := Lib.hid (start_row w #[.int .i64 5, .int .i64 n, .string s, .slice sa ns.length sc, .slice xa xs.length xc] 6 6 rfl)
  have HBX := Lib.hid (start_box w #[.int .i64 5, .int .i64 n, .string s, .slice sa ns.length sc, .slice xa xs.length xc] (.cells #[.int .u8 6] 5))
  clear hT hTl hlen hb hits hall
  simp only [AV.val, AV.row]
  go_enter Tryd.func26, Tryd.ntmps26
  go_wp2_with fail
  go_loopg [3, 4] xs.length (fun g b i wr => ∃ (j : Nat) (L : List UInt8), j + g = xs.length ∧ i = .int .i64 (j : Int) ∧ Took w.heap.size b L w wr ∧ L ++ AV.keyAll false (ns.drop j) (xs.drop j) = T ∧
    wr.heap[w.heap.size]? = some (.cells #[.int .i64 5, .int .i64 n, .string s, .slice sa ns.length sc, .slice xa xs.length xc] 25 (0, 0)))
  case atStart => exact ⟨0, [6], by omega, rfl, HS.out, HT.out, HBX.out⟩
  case round =>
    obtain ⟨j, L, hj, rfl, hw, hrest, hbox⟩ := hrel
    obtain ⟨nb, cb, rfl⟩ := hw.slice
    have HJ := Lib.hid hj
    have HW := Lib.hid hw
    have HBOX := Lib.hid hbox
    have hBr := hw.size (Nat.le_refl _)
    have hc4 : wr.cell? ⟨w.heap.size, 4, none⟩ = some (.slice xa xs.length xc) := (box_cells hbox).2.2.2.2
    by_cases hlt : j < xs.length
    · obtain ⟨bx, ox, rfl, hit⟩ := (HITS.out).resolve_left (by intro e; rw [e] at hlt; simp at hlt)
      have hd := AV.keyAll_drop (o := false) (ns := ns) hlt
      rw [hd, AV.nameL, if_neg (by decide), List.nil_append] at hrest
      have hbr : Below w0.heap.size w0 wr := HBL.out.trans (hw.below.mono HBL.out.size)
      have hr : wr.rangeAt bx (ox + j * 5) xs[j].row := AV.rangeAt_old (fun a ha => hbr.cell ha) (hit j hlt).1
      have hxin : AV.In w0 xs[j] := (hit j hlt).2
      have hmem : xs[j] ∈ xs := List.getElem_mem hlt
      have hfx := HALL.out _ hmem
      have hih := IH.out _ hmem
      obtain ⟨x, hx⟩ : ∃ x, xs[j] = x := ⟨_, rfl⟩
      rw [hx] at hr hxin hrest hfx hih
      have hk1 := AV.key_length x
      have hkl : L.length + (AV.key x).length ≤ 140737488355328 := by have := HTL.out; rw [← hrest] at this; simp only [List.length_append] at this; omega
      have CALL := Lib.hid (hih w0 wr lv hxin hbr hfx (by omega))
      obtain ⟨R, hR⟩ : ∃ R, AV.key x = R := ⟨_, rfl⟩
      rw [hR] at CALL hrest hk1 hkl
      have HREST := Lib.hid hrest
      have HK1 := Lib.hid hk1
      have HKL := Lib.hid hkl
      obtain ⟨k', n', s', na', nc', ns', xa', xc', xs'⟩ := x
      have HR := Lib.hid hr
      have hws : w.heap.size < wr.heap.size := World.block_lt_of_cell? wr _ hc4
      clear hd hrest hbr hr hxin hmem hfx hih hx hit hj hw hbox hk1 hkl hR
      simp only [AV.val, AV.row] at CALL
      go_wp2_with ((with_reducible refine wpList_item_out HR.out ?_ ?_); rfl)
      refine (CALL.out).mono ?_
      rintro e W2 ⟨nc, cc, rfl, hin, hq⟩
      obtain ⟨ad, rfl, hsrc⟩ := hin.source HK1.out
      have HT2 := Lib.hid (HW.out.later hq hBr)
      have hB2 := HT2.out.size (Nat.le_refl _)
      have HK2 : Hid (W2.heap[w.heap.size]? = _) := Lib.hid (box_later HBOX.out hq)
      have HSRC := Lib.hid hsrc
      clear hin hsrc hq
      go_wp2_with (at_builtin; refine wpList_app rfl _ _ rfl (Took.refl HT2.out.own) hB2 rfl R ad R.length cc rfl rfl HSRC.out (by have := HKL.out; omega) ?_)
      intro nd cd W3 hW3
      have HK3 := Lib.hid (hW3.box HK2.out (by intro c fz h; cases h))
      have HW3 := Lib.hid (HT2.out.next hW3)
      clear hW3
      go_wp2_with fail
      go_roundg (gk - 1)
      case measure => have := HJ.out; omega
      case rel => exact ⟨j + 1, _, by have := HJ.out; omega, by go_num, HW3.out, by rw [← HREST.out]; simp, HK3.out⟩
    · have hLT : L = T := by
        rw [← hrest, AV.keyAll_end (by omega), List.append_nil]
      subst hLT
      clear hrest hw hj hbox
      go_wp2_with (at_builtin; refine wpList_lit rfl _ _ rfl HW.out hBr rfl [0] _ 1 rfl rfl rfl (by have := HTL.out; simpa using this) ?_)
      intro nc cc W hW
      have HW2 := Lib.hid hW
      clear hW
      go_wp2_with fail
      go_ret
      exact HW2.out.gave (by simp)
end Go.Proofs.YtcbfbmidekmboaaDoor
