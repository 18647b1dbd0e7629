/- The text of a formed value: what the document's answer is; no condition of ours. -/
import Derived.Test.YtijibjdgnaphiaaDoorRquot
namespace Go.Proofs.YtijibjdgnaphiaaDoor
open Go.ChangeShapes Go.WideShapes Go.Deep Go.RowKit Go.Lib

/-- What is asked of the call for each item. -/
def ShowAt (x : AV) : Prop := ∀ (lv : Nat) (w : World), lv ≤ 6 → AV.formedJ x lv = true → x.In w → Calls Tryd.prog 39 #[x.val] w fun e w' => e = .returned (.string ⟨x.text.toArray⟩) ∧ Below w.heap.size w w'

theorem bytes_size (l : List UInt8) : (⟨l.toArray⟩ : ByteArray).size = l.length := by simp [ByteArray.size]
theorem size_of_list {O : ByteArray} {L : List UInt8} (h : O.data.toList = L) : O.size = L.length := by rw [← h]; simp

set_option maxHeartbeats 1000000 in
set_option maxRecDepth 100000 in
theorem show_leaf (k n : Int) (s : ByteArray) (na : Option Addr) (nc : Nat) (ns : List ByteArray) (xa : Option Addr) (xc : Nat) (xs : List AV) (w : World) (hk : k = 0 ∨ k = 1 ∨ k = 2 ∨ k = 3 ∨ k = 4) (hs : k = 4 → s.size ≤ 60)
    (h0 : -9223372036854775808 ≤ n) (h1 : n ≤ 9223372036854775807) :
    Calls Tryd.prog 39 #[(AV.mk k n s na nc ns xa xc xs).val] w fun e w' => e = .returned (.string ⟨(AV.mk k n s na nc ns xa xc xs).text.toArray⟩) ∧ Below w.heap.size w w' := by
  have DIG := Lib.hid (fun W => Digits_any n.natAbs n rfl h0 h1 W)
  rw [AV.text]
  simp only [AV.val, AV.row]
  rcases hk with rfl | rfl | rfl | rfl | rfl
  iterate 3
    · go_enter Tryd.func39, Tryd.ntmps39
      go_wp2_with fail
      go_ret
      exact ⟨rfl, (Below.refl _ _).alloc (Nat.le_refl _) _⟩
  · obtain ⟨S, hS⟩ : ∃ S : ByteArray, ⟨(Lib.itoa n).toArray⟩ = S := ⟨_, rfl⟩
    rw [hS] at DIG
    simp only [show ¬ ((3 : Int) = 0) by omega, show ¬ ((3 : Int) = 1) by omega, show ¬ ((3 : Int) = 2) by omega, if_true, if_false, hS]
    clear hS h0 h1
    go_enter Tryd.func39, Tryd.ntmps39
    go_wp2_with fail
    refine (DIG.out _).mono ?_
    rintro e w1 ⟨rfl, hb1⟩
    have hb2 : Below w.heap.size w w1 := ((Below.refl w.heap.size w).alloc (Nat.le_refl _) _).trans (hb1.mono (by simp))
    go_wp2_with fail
    go_ret
    exact ⟨rfl, hb2⟩
  · have QUO := Lib.hid (fun W => Quoted_any s W (hs rfl))
    obtain ⟨S, hS⟩ : ∃ S : ByteArray, ⟨(quotedL s).toArray⟩ = S := ⟨_, rfl⟩
    rw [hS] at QUO
    simp only [show ¬ ((4 : Int) = 0) by omega, show ¬ ((4 : Int) = 1) by omega, show ¬ ((4 : Int) = 2) by omega, show ¬ ((4 : Int) = 3) by omega, if_true, if_false, hS]
    clear hS h0 h1 hs DIG
    go_enter Tryd.func39, Tryd.ntmps39
    go_wp2_with fail
    refine (QUO.out _).mono ?_
    rintro e w1 ⟨rfl, hb1⟩
    have hb2 : Below w.heap.size w w1 := ((Below.refl w.heap.size w).alloc (Nat.le_refl _) _).trans (hb1.mono (by simp))
    go_wp2_with fail
    go_ret
    exact ⟨rfl, hb2⟩

set_option maxHeartbeats 2000000 in
set_option maxRecDepth 100000 in
theorem show_arr (n : Int) (s : ByteArray) (na : Option Addr) (nc : Nat) (ns : List ByteArray) (xa : Option Addr) (xc : Nat) (xs : List AV) (lv : Nat) (w : World) (hlv : lv ≤ 6) (hl : xs.length ≤ 9223372036854775807)
    (hall : AV.allJ xs lv = true) (hits : AV.Its w xa xs) (hlen : (AV.itemsL 0 xs).length ≤ 140737488355328) (IH : Hid (∀ x ∈ xs, ShowAt x)) :
    Calls Tryd.prog 39 #[(AV.mk 5 n s na nc ns xa xc xs).val] w fun e w' => e = .returned (.string ⟨(91 :: (AV.itemsL 0 xs ++ [93])).toArray⟩) ∧ Below w.heap.size w w' := by
  have HITS := Lib.hid hits
  have HALL := Lib.hid hall
  obtain ⟨T, hT⟩ : ∃ T, AV.itemsL 0 xs = T := ⟨_, rfl⟩
  rw [hT] at hlen ⊢
  have HT := Lib.hid hT
  have HTL := Lib.hid hlen
  clear hits hall hT hlen
  simp only [AV.val, AV.row]
  go_enter Tryd.func39, Tryd.ntmps39
  go_wp2_with fail
  go_loopg [3, 4] xs.length (fun g o i wr => ∃ (j : Nat) (L : List UInt8) (O : ByteArray), j + g = xs.length ∧ i = .int .i64 (j : Int) ∧ o = .string O ∧ O.data.toList = L ∧ L ++ AV.itemsL j (xs.drop j) = T ∧ AV.allJ (xs.drop j) lv = true ∧ Below w.heap.size w wr ∧ w.heap.size < wr.heap.size ∧
    wr.cell? ⟨w.heap.size, 0, none⟩ = some (.int .i64 5) ∧ wr.cell? ⟨w.heap.size, 4, none⟩ = some (.slice xa xs.length xc))
  case atStart => exact ⟨0, [], ⟨#[]⟩, by omega, rfl, rfl, rfl, HT.out, HALL.out, (Below.refl _ _).alloc (Nat.le_refl _) _, by simp, by rw [Lib.cell_of_heap (box_new w _)]; rfl, by rw [Lib.cell_of_heap (box_new w _)]; rfl⟩
  case round =>
    obtain ⟨j, L, O, hj, rfl, rfl, hO, hrest, hall, hb, hz, hd0, hd4⟩ := hrel
    have hOT : O.size ≤ 140737488355328 := by have := size_of_list hO; have := congrArg List.length hrest; simp at this; have := HTL.out; omega
    have HJ := Lib.hid hj
    have HREST := Lib.hid hrest
    have HO := Lib.hid hO
    have HALLJ := Lib.hid hall
    clear hj hrest hO hall
    by_cases hlt : j < xs.length
    · obtain ⟨bx, ox, rfl, hit⟩ := (HITS.out).resolve_left (by intro e; rw [e] at hlt; simp at hlt)
      have hr : wr.rangeAt bx (ox + j * 5) xs[j].row := AV.rangeAt_old (fun a ha => hb.cell ha) (hit j hlt).1
      have hxin : AV.In wr xs[j] := (hit j hlt).2.below hb (Nat.le_refl _)
      have hmem : xs[j] ∈ xs := List.getElem_mem hlt
      obtain ⟨x, hx⟩ : ∃ x, xs[j] = x := ⟨_, rfl⟩
      have hd := AV.itemsL_drop hlt hx
      have hd2 := AV.allJ_drop (lv := lv) hlt hx
      rw [HALLJ.out] at hd2
      have HTR := Lib.hid (HREST.out.symm.trans (congrArg (L ++ ·) hd))
      rw [hx] at hxin hr hmem
      have hf : AV.formedJ x lv = true := by have := hd2.symm; simp at this; exact this.1
      have HF2 : Hid (AV.allJ (xs.drop (j + 1)) lv = true) := Lib.hid (by have := hd2.symm; simp at this; exact this.2)
      have CALL := Lib.hid (fun (W : World) (hW : Below wr.heap.size wr W) => IH.out _ hmem lv W hlv hf (hxin.below hW (Nat.le_refl _)))
      obtain ⟨S, hS⟩ : ∃ S : ByteArray, ⟨x.text.toArray⟩ = S := ⟨_, rfl⟩
      rw [hS] at CALL
      have HS : Hid (S.data.toList = x.text) := Lib.hid (by rw [← hS])
      have hSz : S.size ≤ 140737488355328 := by
        have := size_of_list HS.out; have h2 := congrArg List.length HTR.out; simp at h2; have := HTL.out; omega
      obtain ⟨k', n', s', na', nc', ns', xa', xc', xs'⟩ := x
      have HR := Lib.hid hr
      clear hx hit hr hd hd2 hf hmem hxin hS
      by_cases hj0 : j = 0
      · subst hj0
        go_wp2_with (first | ((with_reducible refine wpList_item_out HR.out ?_ ?_); rfl))
        refine (CALL.out _ (Below.refl _ _)).mono ?_
        rintro e w1 ⟨rfl, hb1⟩
        have hc0 := cell_later hd0 hb1
        have hc4 := cell_later hd4 hb1
        go_wp2_with fail
        go_roundg (gk - 1)
        case measure => have := HJ.out; omega
        case rel => exact ⟨1, L ++ (commaL 0 ++ (AV.mk k' n' s' na' nc' ns' xa' xc' xs').text), O ++ S, by have := HJ.out; omega, by go_num, rfl, by simp [HO.out, HS.out, commaL], by rw [HTR.out]; simp, HF2.out, hb.trans (hb1.mono hb.size), by have := hb1.size; omega, hc0, hc4⟩
      · have hjp : (0 : Int) < (j : Int) := by omega
        have HC : Hid (commaL j = [44]) := Lib.hid (by unfold commaL; rw [if_neg hj0])
        clear hj0
        go_wp2_with (first | ((with_reducible refine wpList_item_out HR.out ?_ ?_); rfl))
        refine (CALL.out _ (Below.refl _ _)).mono ?_
        rintro e w1 ⟨rfl, hb1⟩
        have hc0 := cell_later hd0 hb1
        have hc4 := cell_later hd4 hb1
        go_wp2_with fail
        go_roundg (gk - 1)
        case measure => have := HJ.out; omega
        case rel => exact ⟨j + 1, L ++ (commaL j ++ (AV.mk k' n' s' na' nc' ns' xa' xc' xs').text), O ++ ⟨#[44]⟩ ++ S, by have := HJ.out; omega, by go_num, rfl, by simp [HO.out, HS.out, HC.out], by rw [HTR.out]; simp, HF2.out, hb.trans (hb1.mono hb.size), by have := hb1.size; omega, hc0, hc4⟩
    · have hLT : L = T := by
        rw [← HREST.out, show xs.drop j = [] from List.drop_eq_nil_of_le (by omega)]
        simp [AV.itemsL]
      go_wp2_with fail
      go_ret
      exact ⟨ret_str (by simp [HO.out, hLT]), hb⟩
end Go.Proofs.YtijibjdgnaphiaaDoor
