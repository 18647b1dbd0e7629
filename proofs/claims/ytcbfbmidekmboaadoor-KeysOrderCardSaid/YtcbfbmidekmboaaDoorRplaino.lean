/- A value's key by the document: what the call answers, for objects; under Go's own limit of length. -/
import Derived.Test.YtcbfbmidekmboaaDoorRplaina
import Derived.Test.YtcbfbmidekmboaaDoorKeyo
namespace Go.Proofs.YtcbfbmidekmboaaDoor
open Go.ChangeShapes Go.WideShapes Go.Deep Go.RowKit Go.Lib

set_option maxHeartbeats 4000000 in
set_option maxRecDepth 100000 in
theorem rplain_obj (n : Int) (s : ByteArray) (sa : Option Addr) (sc : Nat) (ns : List ByteArray) (xa : Option Addr) (xc : Nat) (xs : List AV) (w0 w : World) (lv : Nat) (hits : AV.Its w0 xa xs) (hnin : AV.NamesIn w0 sa ns) (hnsz : ∀ y ∈ ns, y.size ≤ maxLen) (hl2 : ns.length = xs.length) (hx : xs.length ≤ 9223372036854775807)
    (hb : Below w0.heap.size w0 w) (hall : AV.allJ xs lv = true) (hlen : (AV.keyAll true ns xs).length + 2 ≤ 140737488355328) (IH : Hid (∀ x ∈ xs, PlainAt x)) :
    Calls Tryd.prog 26 #[(AV.mk 6 n s sa sc ns xa xc xs).val] w (Gave (7 :: (AV.keyAll true ns xs ++ [0])) w) := by
  obtain ⟨T, hT⟩ : ∃ T, [7] ++ AV.keyAll true ns xs = T := ⟨_, rfl⟩
  have hTl : T.length + 1 ≤ 140737488355328 := by rw [← hT, List.length_append]; simp only [List.length_cons, List.length_nil]; omega
  rw [show (7 : UInt8) :: (AV.keyAll true ns xs ++ [0]) = ([7] ++ AV.keyAll true ns xs) ++ [0] by simp, hT]
  have HT := Lib.hid hT
  have HTL := Lib.hid hTl
  have HBL := Lib.hid hb
  have HITS := Lib.hid hits
  have HNIN := Lib.hid hnin
  have HNSZ := Lib.hid hnsz
  have HL2 := Lib.hid hl2
  have HALL : Hid (∀ x ∈ xs, AV.formedJ x lv = true) := Lib.hid (AV.allJ_all hall)
  have HS := Lib.hid (start_row w #[.int .i64 6, .int .i64 n, .string s, .slice sa ns.length sc, .slice xa xs.length xc] 7 7 rfl)
  have HBX := Lib.hid (start_box w #[.int .i64 6, .int .i64 n, .string s, .slice sa ns.length sc, .slice xa xs.length xc] (.cells #[.int .u8 7] 5))
  clear hT hTl hlen hb hits hall hnin hnsz hl2
  simp only [AV.val, AV.row]
  go_enter Tryd.func26, Tryd.ntmps26
  go_wp2_with fail
  go_loopg [3, 5] xs.length (fun g b i wr => ∃ (j : Nat) (L : List UInt8), j + g = xs.length ∧ i = .int .i64 (j : Int) ∧ Took w.heap.size b L w wr ∧ L ++ AV.keyAll true (ns.drop j) (xs.drop j) = T ∧
    wr.heap[w.heap.size]? = some (.cells #[.int .i64 6, .int .i64 n, .string s, .slice sa ns.length sc, .slice xa xs.length xc] 25 (0, 0)))
  case atStart => exact ⟨0, [7], by omega, rfl, HS.out, HT.out, HBX.out⟩
  case round =>
    obtain ⟨j, L, hj, rfl, hw, hrest, hbox⟩ := hrel
    obtain ⟨nb, cb, rfl⟩ := hw.slice
    have HJ := Lib.hid hj
    have HW := Lib.hid hw
    have HBOX := Lib.hid hbox
    have hBr := hw.size (Nat.le_refl _)
    have hc4 : wr.cell? ⟨w.heap.size, 4, none⟩ = some (.slice xa xs.length xc) := (box_cells hbox).2.2.2.2
    by_cases hlt : j < xs.length
    · obtain ⟨bx, ox, rfl, hit⟩ := (HITS.out).resolve_left (by intro e; rw [e] at hlt; simp at hlt)
      have hltn : j < ns.length := by have := HL2.out; omega
      obtain ⟨bn, on, rfl, hnit⟩ := (HNIN.out).resolve_left (by intro e; rw [e] at hltn; simp at hltn)
      have hcn := hnit j hltn
      have hyz := HNSZ.out _ (List.getElem_mem hltn)
      have hd := AV.keyAll_drop (o := true) (ns := ns) hlt
      have hgd : ns.getD j ⟨#[]⟩ = ns[j] := by simp [List.getD_eq_getElem?_getD, List.getElem?_eq_getElem hltn]
      rw [hd, AV.nameL, if_pos rfl, hgd] at hrest
      obtain ⟨y, hy⟩ : ∃ y, ns[j] = y := ⟨_, rfl⟩
      rw [hy] at hrest hcn hyz
      have hbr : Below w0.heap.size w0 wr := HBL.out.trans (hw.below.mono HBL.out.size)
      have hr : wr.rangeAt bx (ox + j * 5) xs[j].row := AV.rangeAt_old (fun a ha => hbr.cell ha) (hit j hlt).1
      have hxin : AV.In w0 xs[j] := (hit j hlt).2
      have hmem : xs[j] ∈ xs := List.getElem_mem hlt
      have hfx := HALL.out _ hmem
      have hih := IH.out _ hmem
      obtain ⟨x, hx⟩ : ∃ x, xs[j] = x := ⟨_, rfl⟩
      rw [hx] at hr hxin hrest hfx hih
      have hk1 := AV.key_length x
      have hkl : L.length + ((textL y.data.toList).length + 1 + (AV.key x).length) ≤ 140737488355328 := by have := HTL.out; rw [← hrest] at this; simp only [List.length_append, List.length_cons] at this; omega
      have hy1 := (textL_length y.data.toList).1
      have NAME := Lib.hid (fun W => rText_any y W hyz (by omega))
      have CALL := Lib.hid (fun W (h : Below w0.heap.size w0 W) => hih w0 W lv hxin h hfx (by omega))
      obtain ⟨R, hR⟩ : ∃ R, AV.key x = R := ⟨_, rfl⟩
      obtain ⟨Y, hY⟩ : ∃ Y, textL y.data.toList = Y := ⟨_, rfl⟩
      rw [hR] at hrest hk1 hkl
      simp only [hR] at CALL
      rw [hY] at hrest hkl hy1 NAME
      have HREST := Lib.hid hrest
      have HK1 := Lib.hid hk1
      have HKL := Lib.hid hkl
      have HY1 : Hid (1 ≤ Y.length) := Lib.hid (by omega)
      have HBR := Lib.hid hbr
      have HCN := Lib.hid hcn
      obtain ⟨k', n', s', na', nc', ns', xa', xc', xs'⟩ := x
      have HR := Lib.hid (hit j hlt).1
      rw [hx] at HR
      have hws : w.heap.size < wr.heap.size := World.block_lt_of_cell? wr _ hc4
      clear hd hrest hbr hr hxin hmem hfx hih hx hit hj hw hbox hk1 hkl hR hY hy hgd hnit hyz hy1 hcn
      simp only [AV.val, AV.row] at CALL
      go_wp2_with (at_builtin; refine wpList_lit rfl _ _ rfl (Took.refl HW.out.own) hBr rfl [1] _ 1 rfl rfl rfl (by have := HKL.out; simp; omega) ?_)
      intro nc cc W2 hW2
      have HK2 := Lib.hid (hW2.box HBOX.out (by intro c fz h; cases h))
      have HW2 := Lib.hid (HW.out.next hW2)
      clear hW2 hc4
      have hc3 : W2.cell? ⟨w.heap.size, 3, none⟩ = some (.slice (some ⟨bn, on, none⟩) ns.length sc) := (box_cells HK2.out).2.2.2.1
      have hbr2 : Below w0.heap.size w0 W2 := HBL.out.trans (HW2.out.below.mono HBL.out.size)
      have hcy : W2.cell? ⟨bn, on + j, none⟩ = some (.string y) := by rw [hbr2.cell (World.block_lt_of_cell? _ _ HCN.out)]; exact HCN.out
      have HBR2 := Lib.hid hbr2
      clear hbr2
      go_wp2_with fail
      refine (NAME.out W2).mono ?_
      rintro e W3 ⟨nd, cd, rfl, hin, hq⟩
      obtain ⟨ad, rfl, hsrc⟩ := hin.source HY1.out
      have hB2 := HW2.out.size (Nat.le_refl _)
      have HT3 := Lib.hid (HW2.out.later hq hB2)
      have hB3 := HT3.out.size (Nat.le_refl _)
      have HK3 := Lib.hid (box_later HK2.out hq)
      have HSRC := Lib.hid hsrc
      clear hin hsrc hq hc3 hcy hB2
      go_wp2_with (at_builtin; refine wpList_app rfl _ _ rfl (Took.refl HT3.out.own) hB3 rfl Y ad Y.length cd (by first | rfl | simp [Act.eval]) rfl HSRC.out (by have := HKL.out; simp; omega) ?_)
      intro ne ce W4 hW4
      have HK4 := Lib.hid (hW4.box HK3.out (by intro c fz h; cases h))
      have HW4 := Lib.hid (HT3.out.next hW4)
      clear hW4 hB3
      have hc4 : W4.cell? ⟨w.heap.size, 4, none⟩ = some (.slice (some ⟨bx, ox, none⟩) xs.length xc) := (box_cells HK4.out).2.2.2.2
      have hbr4 : Below w0.heap.size w0 W4 := HBL.out.trans (HW4.out.below.mono HBL.out.size)
      have HR4 : Hid (W4.rangeAt bx (ox + j * 5) (AV.mk k' n' s' na' nc' ns' xa' xc' xs').row) := Lib.hid (AV.rangeAt_old (fun a ha => hbr4.cell ha) HR.out)
      have HBR4 := Lib.hid hbr4
      clear hbr4
      go_wp2_with ((with_reducible refine wpList_item_out HR4.out ?_ ?_); rfl)
      refine (CALL.out W4 HBR4.out).mono ?_
      rintro e W5 ⟨nf, cf, rfl, hin, hq⟩
      obtain ⟨ad2, rfl, hsrc⟩ := hin.source HK1.out
      have hB4 := HW4.out.size (Nat.le_refl _)
      have HT5 := Lib.hid (HW4.out.later hq hB4)
      have hB5 := HT5.out.size (Nat.le_refl _)
      have HK5 := Lib.hid (box_later HK4.out hq)
      have HSRC2 := Lib.hid hsrc
      clear hin hsrc hq hc4 hB4
      go_wp2_with (at_builtin; refine wpList_app rfl _ _ rfl (Took.refl HT5.out.own) hB5 rfl R ad2 R.length cf (by first | rfl | simp [Act.eval]) rfl HSRC2.out (by have := HKL.out; simp; omega) ?_)
      intro ng cg W6 hW6
      have HK6 := Lib.hid (hW6.box HK5.out (by intro c fz h; cases h))
      have HW6 := Lib.hid (HT5.out.next hW6)
      clear hW6
      go_wp2_with fail
      go_roundg (gk - 1)
      case measure => have := HJ.out; omega
      case rel => exact ⟨j + 1, L ++ [1] ++ Y ++ R, by have := HJ.out; omega, by go_num, by have := HW6.out; simpa using this, by rw [← HREST.out]; simp, HK6.out⟩
    · have hLT : L = T := by
        rw [← hrest, AV.keyAll_end (by omega), List.append_nil]
      subst hLT
      clear hrest hw hj hbox
      go_wp2_with (at_builtin; refine wpList_lit rfl _ _ rfl HW.out hBr rfl [0] _ 1 rfl rfl rfl (by have := HTL.out; simpa using this) ?_)
      intro nc cc W hW
      have HW2 := Lib.hid hW
      clear hW
      go_wp2_with fail
      go_ret
      exact HW2.out.gave (by simp)

theorem plain_any : ∀ t : AV, PlainAt t := by
  intro t
  induction t using AV.ind with
  | h k n s na nc ns xa xc xs ih =>
    intro w0 w lv hin hb hf hlen
    have hp := AV.parts hf
    rw [AV.key] at hlen ⊢
    by_cases h012 : k = 0 ∨ k = 1 ∨ k = 2
    · rw [if_neg (by omega), if_neg (by omega), if_neg (by omega)]
      exact rplain_word k n s na nc ns xa xc xs w h012
    by_cases h3 : k = 3
    · subst h3
      rw [if_pos rfl]
      have := hin.num
      exact rplain_num n s na nc ns xa xc xs w this.1 this.2
    by_cases h4 : k = 4
    · subst h4
      rw [if_neg (by omega), if_pos rfl] at hlen ⊢
      exact rplain_text n s na nc ns xa xc xs w hin.text (by simpa using hlen)
    by_cases h5 : k = 5
    · subst h5
      rw [if_neg (by omega), if_neg (by omega), if_pos (.inl rfl)] at hlen ⊢
      have ha : ∃ m, AV.allJ xs m = true := by
        rcases hp with ⟨hk, _⟩ | ⟨hk, _⟩ | ⟨hk, _⟩ | ⟨_, _, _, _, h⟩ | ⟨hk, _⟩
        · omega
        · omega
        · omega
        · exact ⟨_, h⟩
        · omega
      obtain ⟨m, ha⟩ := ha
      exact rplain_arr n s na nc ns xa xc xs w0 w m hin.its hin.lens.2.2 hb ha (by simp at hlen ⊢; omega) (Lib.hid ih)
    by_cases h6 : k = 6
    · subst h6
      rw [if_neg (by omega), if_neg (by omega), if_pos (.inr rfl)] at hlen ⊢
      have ha : ns.length = xs.length ∧ ∃ m, AV.allJ xs m = true := by
        rcases hp with ⟨hk, _⟩ | ⟨hk, _⟩ | ⟨hk, _⟩ | ⟨hk, _⟩ | ⟨_, _, _, hl, h⟩
        · omega
        · omega
        · omega
        · omega
        · exact ⟨hl, _, h⟩
      obtain ⟨hl, m, ha⟩ := ha
      exact rplain_obj n s na nc ns xa xc xs w0 w m hin.its hin.names.1 hin.names.2 hl hin.lens.2.2 hb ha (by simp at hlen ⊢; omega) (Lib.hid ih)
    · rcases hp with ⟨hk, _⟩ | ⟨hk, _⟩ | ⟨hk, _⟩ | ⟨hk, _⟩ | ⟨hk, _⟩ <;> omega
end Go.Proofs.YtcbfbmidekmboaaDoor
