/- The text of a formed object: what the document's answer is; and so of every formed value; no condition of ours. -/
import Derived.Test.YtijibjdgnaphiaaDoorRshow
namespace Go.Proofs.YtijibjdgnaphiaaDoor
open Go.ChangeShapes Go.WideShapes Go.Deep Go.RowKit Go.Lib

theorem cell_kept {w w' : World} {p : Addr} {v : Value} (hb : Below w.heap.size w w') (h : w.cell? p = some v) : w'.cell? p = some v := by
  rw [hb.cell (World.block_lt_of_cell? w _ h)]; exact h

set_option maxHeartbeats 2000000 in
set_option maxRecDepth 100000 in
theorem show_obj (n : Int) (s : ByteArray) (na : Option Addr) (nc : Nat) (ns : List ByteArray) (xa : Option Addr) (xc : Nat) (xs : List AV) (lv : Nat) (w : World) (hlv : lv ≤ 6) (hnin : AV.NamesIn w na ns) (hnsz : ∀ y ∈ ns, y.size ≤ 60) (hlen2 : ns.length = xs.length) (hl : xs.length ≤ 9223372036854775807)
    (hall : AV.allJ xs lv = true) (hits : AV.Its w xa xs) (hlen : (AV.membersL 0 ns xs).length ≤ 140737488355328) (IH : Hid (∀ x ∈ xs, ShowAt x)) :
    Calls Tryd.prog 39 #[(AV.mk 6 n s na nc ns xa xc xs).val] w fun e w' => e = .returned (.string ⟨(123 :: (AV.membersL 0 ns xs ++ [125])).toArray⟩) ∧ Below w.heap.size w w' := by
  have HITS := Lib.hid hits
  have HNIN := Lib.hid hnin
  have HNSZ := Lib.hid hnsz
  have HLEN2 := Lib.hid hlen2
  have HALL := Lib.hid hall
  obtain ⟨T, hT⟩ : ∃ T, AV.membersL 0 ns xs = T := ⟨_, rfl⟩
  rw [hT] at hlen ⊢
  have HT := Lib.hid hT
  have HTL := Lib.hid hlen
  clear hits hall hT hlen hnin hnsz hlen2
  simp only [AV.val, AV.row]
  go_enter Tryd.func39, Tryd.ntmps39
  go_wp2_with fail
  go_loopg [3, 4] xs.length (fun g o i wr => ∃ (j : Nat) (L : List UInt8) (O : ByteArray), j + g = xs.length ∧ i = .int .i64 (j : Int) ∧ o = .string O ∧ O.data.toList = L ∧ L ++ AV.membersL j (ns.drop j) (xs.drop j) = T ∧ AV.allJ (xs.drop j) lv = true ∧ Below w.heap.size w wr ∧ w.heap.size < wr.heap.size ∧
    wr.cell? ⟨w.heap.size, 0, none⟩ = some (.int .i64 6) ∧ wr.cell? ⟨w.heap.size, 3, none⟩ = some (.slice na ns.length nc) ∧ wr.cell? ⟨w.heap.size, 4, none⟩ = some (.slice xa xs.length xc))
  case atStart => exact ⟨0, [], ⟨#[]⟩, by omega, rfl, rfl, rfl, HT.out, HALL.out, (Below.refl _ _).alloc (Nat.le_refl _) _, by simp, by rw [Lib.cell_of_heap (box_new w _)]; rfl, by rw [Lib.cell_of_heap (box_new w _)]; rfl, by rw [Lib.cell_of_heap (box_new w _)]; rfl⟩
  case round =>
    obtain ⟨j, L, O, hj, rfl, rfl, hO, hrest, hall, hb, hz, hd0, hd3, hd4⟩ := hrel
    have hOT : O.size ≤ 140737488355328 := by have := size_of_list hO; have := congrArg List.length hrest; simp at this; have := HTL.out; omega
    have HJ := Lib.hid hj
    have HREST := Lib.hid hrest
    have HO := Lib.hid hO
    have HALLJ := Lib.hid hall
    clear hj hrest hO hall
    by_cases hlt : j < xs.length
    · obtain ⟨bx, ox, rfl, hit⟩ := (HITS.out).resolve_left (by intro e; rw [e] at hlt; simp at hlt)
      have hltn : j < ns.length := by have := HLEN2.out; omega
      obtain ⟨bn, on, rfl, hnit⟩ := (HNIN.out).resolve_left (by intro e; rw [e] at hltn; simp at hltn)
      have hcn : wr.cell? ⟨bn, on + j, none⟩ = some (.string ns[j]) := cell_kept hb (hnit j hltn)
      have hyz := HNSZ.out _ (List.getElem_mem hltn)
      obtain ⟨y, hy⟩ : ∃ y, ns[j] = y := ⟨_, rfl⟩
      have hr : wr.rangeAt bx (ox + j * 5) xs[j].row := AV.rangeAt_old (fun a ha => hb.cell ha) (hit j hlt).1
      have hxin : AV.In wr xs[j] := (hit j hlt).2.below hb (Nat.le_refl _)
      have hmem : xs[j] ∈ xs := List.getElem_mem hlt
      obtain ⟨x, hx⟩ : ∃ x, xs[j] = x := ⟨_, rfl⟩
      have hd := AV.membersL_drop hlt hx hltn hy
      rw [hy] at hcn hyz
      have QUO := Lib.hid (fun W => Quoted_any y W hyz)
      obtain ⟨Q, hQ⟩ : ∃ Q : ByteArray, ⟨(quotedL y).toArray⟩ = Q := ⟨_, rfl⟩
      rw [hQ] at QUO
      have HQ : Hid (Q.data.toList = quotedL y) := Lib.hid (by rw [← hQ])
      have hQz : Q.size ≤ 140737488355328 := by have := size_of_list HQ.out; have := quotedL_length y; omega
      have hd2 := AV.allJ_drop (lv := lv) hlt hx
      rw [HALLJ.out] at hd2
      have HTR := Lib.hid (HREST.out.symm.trans (congrArg (L ++ ·) hd))
      rw [hx] at hxin hr hmem
      have hf : AV.formedJ x lv = true := by have := hd2.symm; simp at this; exact this.1
      have HF2 : Hid (AV.allJ (xs.drop (j + 1)) lv = true) := Lib.hid (by have := hd2.symm; simp at this; exact this.2)
      have CALL := Lib.hid (fun (W : World) (hW : Below wr.heap.size wr W) => IH.out _ hmem lv W hlv hf (hxin.below hW (Nat.le_refl _)))
      obtain ⟨S, hS⟩ : ∃ S : ByteArray, ⟨x.text.toArray⟩ = S := ⟨_, rfl⟩
      rw [hS] at CALL
      have HS : Hid (S.data.toList = x.text) := Lib.hid (by rw [← hS])
      have hSz : S.size ≤ 140737488355328 := by
        have := size_of_list HS.out; have h2 := congrArg List.length HTR.out; simp at h2; have := HTL.out; omega
      obtain ⟨k', n', s', na', nc', ns', xa', xc', xs'⟩ := x
      have HR := Lib.hid hr
      have HXIN := Lib.hid hxin
      clear hx hit hr hd hd2 hf hmem hxin hS hy hQ hnit hyz
      by_cases hj0 : j = 0
      · subst hj0
        simp only [Nat.add_zero] at hcn
        go_wp2_with fail
        refine (QUO.out _).mono ?_
        rintro e w2 ⟨rfl, hb2⟩
        have hc0 := cell_later hd0 hb2
        have hc3 := cell_later hd3 hb2
        have hc4 := cell_later hd4 hb2
        have HR2 := Lib.hid (AV.rangeAt_old (fun a ha => hb2.cell ha) HR.out)
        go_wp2_with (first | ((with_reducible refine wpList_item_out HR2.out ?_ ?_); rfl))
        refine (CALL.out _ hb2).mono ?_
        rintro e w1 ⟨rfl, hb1⟩
        have hc0' := cell_later hc0 hb1
        have hc3' := cell_later hc3 hb1
        have hc4' := cell_later hc4 hb1
        have hb3 := hb2.trans (hb1.mono hb2.size)
        go_wp2_with fail
        go_roundg (gk - 1)
        case measure => have := HJ.out; omega
        case rel => exact ⟨1, L ++ (commaL 0 ++ (quotedL y ++ 58 :: (AV.mk k' n' s' na' nc' ns' xa' xc' xs').text)), O ++ (Q ++ ⟨#[58]⟩) ++ S, by have := HJ.out; omega, by go_num, rfl, by simp [HO.out, HS.out, HQ.out, commaL], by rw [HTR.out]; simp, HF2.out, hb.trans (hb3.mono hb.size), by have := hb3.size; omega, hc0', hc3', hc4'⟩
      · have hjp : (0 : Int) < (j : Int) := by omega
        have HC : Hid (commaL j = [44]) := Lib.hid (by unfold commaL; rw [if_neg hj0])
        clear hj0
        go_wp2_with fail
        refine (QUO.out _).mono ?_
        rintro e w2 ⟨rfl, hb2⟩
        have hc0 := cell_later hd0 hb2
        have hc3 := cell_later hd3 hb2
        have hc4 := cell_later hd4 hb2
        have HR2 := Lib.hid (AV.rangeAt_old (fun a ha => hb2.cell ha) HR.out)
        go_wp2_with (first | ((with_reducible refine wpList_item_out HR2.out ?_ ?_); rfl))
        refine (CALL.out _ hb2).mono ?_
        rintro e w1 ⟨rfl, hb1⟩
        have hc0' := cell_later hc0 hb1
        have hc3' := cell_later hc3 hb1
        have hc4' := cell_later hc4 hb1
        have hb3 := hb2.trans (hb1.mono hb2.size)
        go_wp2_with fail
        go_roundg (gk - 1)
        case measure => have := HJ.out; omega
        case rel => exact ⟨j + 1, L ++ (commaL j ++ (quotedL y ++ 58 :: (AV.mk k' n' s' na' nc' ns' xa' xc' xs').text)), O ++ ⟨#[44]⟩ ++ (Q ++ ⟨#[58]⟩) ++ S, by have := HJ.out; omega, by go_num, rfl, by simp [HO.out, HS.out, HQ.out, HC.out], by rw [HTR.out]; simp, HF2.out, hb.trans (hb3.mono hb.size), by have := hb3.size; omega, hc0', hc3', hc4'⟩
    · have hLT : L = T := by
        rw [← HREST.out, show xs.drop j = [] from List.drop_eq_nil_of_le (by omega)]
        simp [AV.membersL]
      go_wp2_with fail
      go_ret
      exact ⟨ret_str (by simp [HO.out, hLT]), hb⟩

theorem show_any : ∀ t : AV, ShowAt t := by
  intro t
  induction t using AV.ind with
  | h k n s na nc ns xa xc xs ih =>
    intro lv w hlv hf hin
    have hits := hin.its
    have hnin := hin.names.1
    have hl := hin.lens.2.2
    obtain ⟨n0, n1⟩ := num_range hin
    have hlen := (text_length w _ lv hin hf).1
    have hpow : 40 ^ lv ≤ 40 ^ 6 := Nat.pow_le_pow_right (by decide) hlv
    have hf0 := hf
    rw [AV.formedJ] at hf
    by_cases h0 : lv = 0
    · rw [if_pos h0] at hf; cases hf
    rw [if_neg h0] at hf
    by_cases k012 : k = 0 ∨ k = 1 ∨ k = 2
    · exact show_leaf k n s na nc ns xa xc xs w (by omega) (fun h => by omega) n0 n1
    rw [if_neg k012] at hf
    by_cases k3 : k = 3
    · exact show_leaf k n s na nc ns xa xc xs w (by omega) (fun h => by omega) n0 n1
    rw [if_neg k3] at hf
    by_cases k4 : k = 4
    · rw [if_pos k4] at hf
      simp only [Bool.and_eq_true] at hf
      exact show_leaf k n s na nc ns xa xc xs w (by omega) (fun h => textOk_size hf.2.1) n0 n1
    rw [if_neg k4] at hf
    by_cases k5 : k = 5
    · subst k5
      have e : (AV.mk 5 n s na nc ns xa xc xs).text = 91 :: (AV.itemsL 0 xs ++ [93]) := by rw [AV.text]; rfl
      rw [e] at hlen ⊢
      rw [if_pos rfl] at hf
      simp only [Bool.and_eq_true] at hf
      exact show_arr n s na nc ns xa xc xs (lv - 1) w (by omega) hl hf.2.2.2.2 hits (by simp at hlen; omega) ih
    rw [if_neg k5] at hf
    by_cases k6 : k = 6
    · subst k6
      have e : (AV.mk 6 n s na nc ns xa xc xs).text = 123 :: (AV.membersL 0 ns xs ++ [125]) := by rw [AV.text]; rfl
      rw [e] at hlen ⊢
      rw [if_pos rfl] at hf
      simp only [Bool.and_eq_true, decide_eq_true_eq] at hf
      exact show_obj n s na nc ns xa xc xs (lv - 1) w (by omega) hnin (namesOk_sizes hf.2.2.2.2) hf.2.2.1 hl hf.2.2.2.1.2 hits (by simp at hlen; omega) ih
    · rw [if_neg k6] at hf; cases hf

set_option maxHeartbeats 1000000 in
set_option maxRecDepth 100000 in
/-- Print, by the document. -/
theorem rPrint_any (t : AV) (w : World) (hin : t.In w) : Calls Tryd.prog 20 #[t.val] w fun e w' => e = printed t ∧ Below w.heap.size w w' := by
  have CALL := Lib.hid (fun W (hb : Below w.heap.size w W) => rFormed_any t W (hin.below hb (Nat.le_refl _)))
  unfold printed
  by_cases hf : AV.formedJ t 6 = true
  · have SHOW := Lib.hid (fun W (hb : Below w.heap.size w W) => show_any t 6 W (Nat.le_refl _) hf (hin.below hb (Nat.le_refl _)))
    rw [if_pos hf]
    rw [hf] at CALL
    obtain ⟨S, hS⟩ : ∃ S : ByteArray, ⟨t.text.toArray⟩ = S := ⟨_, rfl⟩
    rw [hS] at SHOW ⊢
    clear hS hf hin
    obtain ⟨k, n, s, na, nc, ns, xa, xc, xs⟩ := t
    simp only [AV.val, AV.row] at CALL SHOW ⊢
    go_enter Tryd.func20, Tryd.ntmps20
    go_wp2_with fail
    refine (CALL.out _ ((Below.refl _ _).alloc (Nat.le_refl _) _)).mono ?_
    rintro e w1 ⟨rfl, hb1⟩
    have hb2 : Below w.heap.size w w1 := ((Below.refl w.heap.size w).alloc (Nat.le_refl _) _).trans (hb1.mono (by simp))
    have hk1 := (hb1.block w.heap.size (by simp)).trans (box_new w #[.int .i64 k, .int .i64 n, .string s, .slice na ns.length nc, .slice xa xs.length xc])
    have HK1 : Hid (w1.rangeAt w.heap.size 0 (AV.mk k n s na nc ns xa xc xs).row) := Lib.hid (box_row hk1)
    clear hk1 hb1
    go_wp2_with (first | ((with_reducible refine wpList_item_out HK1.out ?_ ?_); rfl))
    refine (SHOW.out _ hb2).mono ?_
    rintro e w2 ⟨rfl, hb3⟩
    go_wp2_with fail
    go_ret2
    exact ⟨rfl, hb2.trans (hb3.mono hb2.size)⟩
  · rw [if_neg hf]
    have hf' : AV.formedJ t 6 = false := by simpa using hf
    rw [hf'] at CALL
    clear hf hf' hin
    obtain ⟨k, n, s, na, nc, ns, xa, xc, xs⟩ := t
    simp only [AV.val, AV.row] at CALL ⊢
    go_enter Tryd.func20, Tryd.ntmps20
    go_wp2_with fail
    refine (CALL.out _ ((Below.refl _ _).alloc (Nat.le_refl _) _)).mono ?_
    rintro e w1 ⟨rfl, hb1⟩
    have hb2 : Below w.heap.size w w1 := ((Below.refl w.heap.size w).alloc (Nat.le_refl _) _).trans (hb1.mono (by simp))
    go_wp2_with fail
    go_ret2
    exact ⟨rfl, hb2⟩
end Go.Proofs.YtijibjdgnaphiaaDoor
