/- JsonSame: two values are told to be alike just if they are, and formed ones just if their texts are: the walk of the statement. -/
import Derived.Test.YthapifpccnbliaaDoorInk
import Derived.Test.YthapifpccnbliaaDoorLawprint
namespace Go.Proofs.YthapifpccnbliaaDoor
open Go.ChangeShapes Go.WideShapes Go.Deep Go.RowKit Go.Lib

theorem box_cells {w : World} {n : Nat} {a b c d e : Value} (h : w.heap[n]? = some (.cells #[a, b, c, d, e] 25 (0, 0))) :
    w.cell? ⟨n, 0, none⟩ = some a ∧ w.cell? ⟨n, 1, none⟩ = some b ∧ w.cell? ⟨n, 2, none⟩ = some c ∧ w.cell? ⟨n, 3, none⟩ = some d ∧ w.cell? ⟨n, 4, none⟩ = some e := by
  refine ⟨?_, ?_, ?_, ?_, ?_⟩ <;> rw [Lib.cell_of_heap h] <;> rfl

theorem box_later {w w' : World} {n : Nat} {o : Obj} (h : w.heap[n]? = some o) (hb : Below w.heap.size w w') : w'.heap[n]? = some o := by
  have hlt : n < w.heap.size := by
    rcases Nat.lt_or_ge n w.heap.size with h' | h'
    · exact h'
    · simp [Array.getElem?_eq_none h'] at h
  rw [hb.block n hlt]; exact h

/-- What the two printings tell. -/
theorem printed_two (a b : AV) : ∃ (S T : ByteArray) (e f : Int), printed a = .returned (.tuple #[.string S, .int .i64 e]) ∧ printed b = .returned (.tuple #[.string T, .int .i64 f]) ∧ ((e = 2 ∧ (f = 2 ∨ f = 0)) ∨ (e = 0 ∧ f = 2) ∨ (e = 0 ∧ f = 0 ∧ (S.toList == T.toList) = AV.eqv a b)) := by
  unfold printed
  by_cases ha : AV.formedJ a 6 = true
  · by_cases hb : AV.formedJ b 6 = true
    · rw [if_pos ha, if_pos hb]
      refine ⟨_, _, _, _, rfl, rfl, .inr (.inr ⟨rfl, rfl, ?_⟩)⟩
      rw [ByteArray.toList_eq, ByteArray.toList_eq]
      have h := AV.text_iff ha hb
      cases hv : AV.eqv a b
      · rw [beq_eq_false_iff_ne]
        intro e
        rw [h.1 e] at hv; cases hv
      · rw [beq_iff_eq]
        exact h.2 hv
    · rw [if_pos ha, if_neg hb]
      exact ⟨_, _, _, _, rfl, rfl, .inr (.inl ⟨rfl, rfl⟩)⟩
  · by_cases hb : AV.formedJ b 6 = true
    · rw [if_neg ha, if_pos hb]
      exact ⟨_, _, _, _, rfl, rfl, .inl ⟨rfl, .inr rfl⟩⟩
    · rw [if_neg ha, if_neg hb]
      exact ⟨_, _, _, _, rfl, rfl, .inl ⟨rfl, .inl rfl⟩⟩

set_option maxHeartbeats 4000000 in
set_option maxRecDepth 100000 in
theorem lawsame_any (a b : AV) (w : World) (ha : a.In w) (hb : b.In w) (hT : Tabs w) (hP : Pow w) : Calls Tryd.prog 7 #[a.val, b.val] w fun e w' => e = .returned (.bool true) ∧ Below w.heap.size w w' := by
  have FEWA := Lib.hid (fun W (h : Below w.heap.size w W) => few_any a W (ha.below h (Nat.le_refl _)))
  have FEWB := Lib.hid (fun W (h : Below w.heap.size w W) => few_any b W (hb.below h (Nat.le_refl _)))
  have SAB := Lib.hid (fun W (h : Below w.heap.size w W) => Same_any a b W (ha.below h (Nat.le_refl _)) (hb.below h (Nat.le_refl _)))
  have SAA := Lib.hid (fun W (h : Below w.heap.size w W) => Same_any a a W (ha.below h (Nat.le_refl _)) (ha.below h (Nat.le_refl _)))
  have RAB := Lib.hid (fun W (h : Below w.heap.size w W) => rsame_any a b W (ha.below h (Nat.le_refl _)) (hb.below h (Nat.le_refl _)))
  have PA := Lib.hid (fun W (h : Below w.heap.size w W) => Print_any a W (ha.below h (Nat.le_refl _)) (hT.later h) (hP.later h))
  have PB := Lib.hid (fun W (h : Below w.heap.size w W) => Print_any b W (hb.below h (Nat.le_refl _)) (hT.later h) (hP.later h))
  obtain ⟨S, T, e1, e2, hpa, hpb, hcase⟩ := printed_two a b
  rw [hpa] at PA
  rw [hpb] at PB
  have HSAME : AV.few a = true → AV.sameJ a b 10000 = AV.eqv a b ∧ AV.sameJ a a 10000 = true := fun h =>
    ⟨AV.same_eq a 40 (AV.few_nodes h) b 10000 (by omega), by rw [AV.same_eq a 40 (AV.few_nodes h) a 10000 (by omega)]; exact AV.eqv_refl a⟩
  obtain ⟨FA, hFA⟩ : ∃ F, AV.few a = F := ⟨_, rfl⟩
  obtain ⟨FB, hFB⟩ : ∃ F, AV.few b = F := ⟨_, rfl⟩
  obtain ⟨V, hV⟩ : ∃ F, AV.eqv a b = F := ⟨_, rfl⟩
  rw [hFA] at FEWA HSAME
  rw [hFB] at FEWB
  rw [hV] at RAB hcase HSAME
  have HCASE := Lib.hid hcase
  clear hpa hpb hFA hFB hV hT hP ha hb hcase
  obtain ⟨k, n, s, na, nc, ns, xa, xc, xs⟩ := a
  obtain ⟨k', n', s', na', nc', ns', xa', xc', xs'⟩ := b
  simp only [AV.val, AV.row] at FEWA FEWB SAB SAA RAB PA PB ⊢
  have hb0 := two_below w (.cells #[.int .i64 k, .int .i64 n, .string s, .slice na ns.length nc, .slice xa xs.length xc] 25) (.cells #[.int .i64 k', .int .i64 n', .string s', .slice na' ns'.length nc', .slice xa' xs'.length xc'] 25)
  have hbx := two_box w #[.int .i64 k, .int .i64 n, .string s, .slice na ns.length nc, .slice xa xs.length xc] #[.int .i64 k', .int .i64 n', .string s', .slice na' ns'.length nc', .slice xa' xs'.length xc']
  have HBX := Lib.hid hbx
  clear hbx
  go_enter Tryd.func7, Tryd.ntmps7
  go_wp2_with fail
  generalize (w.alloc (.cells #[.int .i64 k, .int .i64 n, .string s, .slice na ns.length nc, .slice xa xs.length xc] 25)).alloc (.cells #[.int .i64 k', .int .i64 n', .string s', .slice na' ns'.length nc', .slice xa' xs'.length xc'] 25) = W0 at *
  refine (awake_any _).mono ?_
  rintro e w1 ⟨rfl, hq1⟩
  have hb1 := hb0.trans (hq1.mono hb0.size)
  have x1 := box_later HBX.out.1 hq1
  have y1 := box_later HBX.out.2 hq1
  obtain ⟨a0, a1, a2, a3, a4⟩ := box_cells x1
  have X1 := Lib.hid x1
  have Y1 := Lib.hid y1
  clear x1 y1
  go_wp2_with fail
  refine (FEWA.out _ hb1).mono ?_
  rintro e w2 ⟨rfl, hq2⟩
  have hb2 := hb1.trans (hq2.mono hb1.size)
  cases FA
  · go_wp2_with fail
    refine (awake_any _).mono ?_
    rintro e w3 ⟨rfl, hq3⟩
    go_wp2_with fail
    go_ret
    exact ⟨rfl, hb2.trans (hq3.mono hb2.size)⟩
  have X2 := Lib.hid (box_later X1.out hq2)
  have Y2 := Lib.hid (box_later Y1.out hq2)
  clear a0 a1 a2 a3 a4
  obtain ⟨b0, b1, b2, b3, b4⟩ := box_cells Y2.out
  go_wp2_with fail
  refine (FEWB.out _ hb2).mono ?_
  rintro e w3 ⟨rfl, hq3⟩
  have hb3 := hb2.trans (hq3.mono hb2.size)
  cases FB
  · go_wp2_with fail
    refine (awake_any _).mono ?_
    rintro e w4 ⟨rfl, hq4⟩
    go_wp2_with fail
    go_ret
    exact ⟨rfl, hb3.trans (hq4.mono hb3.size)⟩
  obtain ⟨hs1, hs2⟩ := HSAME (by simp)
  rw [hs1] at SAB
  rw [hs2] at SAA
  have X3 := Lib.hid (box_later X2.out hq3)
  have Y3 := Lib.hid (box_later Y2.out hq3)
  clear b0 b1 b2 b3 b4 hs1 hs2 HSAME
  have KX3 : Hid (w3.rangeAt w.heap.size 0 (AV.mk k n s na nc ns xa xc xs).row) := Lib.hid (box_row X3.out)
  have KY3 : Hid (w3.rangeAt (w.heap.size + 1) 0 (AV.mk k' n' s' na' nc' ns' xa' xc' xs').row) := Lib.hid (box_row Y3.out)
  go_wp2_with (first | ((with_reducible refine wpList_item_out KX3.out ?_ ?_); rfl) | ((with_reducible refine wpList_item_out KY3.out ?_ ?_); rfl))
  refine (SAB.out _ hb3).mono ?_
  rintro e w4 ⟨rfl, hq4⟩
  have hb4 := hb3.trans (hq4.mono hb3.size)
  have X4 := Lib.hid (box_later X3.out hq4)
  have Y4 := Lib.hid (box_later Y3.out hq4)
  have KX4 : Hid (w4.rangeAt w.heap.size 0 (AV.mk k n s na nc ns xa xc xs).row) := Lib.hid (box_row X4.out)
  have KY4 : Hid (w4.rangeAt (w.heap.size + 1) 0 (AV.mk k' n' s' na' nc' ns' xa' xc' xs').row) := Lib.hid (box_row Y4.out)
  go_wp2_with (first | ((with_reducible refine wpList_item_out KX4.out ?_ ?_); rfl) | ((with_reducible refine wpList_item_out KY4.out ?_ ?_); rfl))
  refine (RAB.out _ hb4).mono ?_
  rintro e w5 ⟨rfl, hq5⟩
  have hb5 := hb4.trans (hq5.mono hb4.size)
  have X5 := Lib.hid (box_later X4.out hq5)
  have Y5 := Lib.hid (box_later Y4.out hq5)
  obtain ⟨a0, a1, a2, a3, a4⟩ := box_cells X5.out
  have hVV : (V != V) = false := by cases V <;> rfl
  go_wp2_with fail
  refine (SAA.out _ hb5).mono ?_
  rintro e w6 ⟨rfl, hq6⟩
  have hb6 := hb5.trans (hq6.mono hb5.size)
  have X6 := Lib.hid (box_later X5.out hq6)
  have Y6 := Lib.hid (box_later Y5.out hq6)
  clear a0 a1 a2 a3 a4
  have KX6 : Hid (w6.rangeAt w.heap.size 0 (AV.mk k n s na nc ns xa xc xs).row) := Lib.hid (box_row X6.out)
  go_wp2_with (first | ((with_reducible refine wpList_item_out KX6.out ?_ ?_); rfl))
  refine (PA.out _ hb6).mono ?_
  rintro e w7 ⟨rfl, hq7⟩
  have hb7 := hb6.trans (hq7.mono hb6.size)
  have Y7 := Lib.hid (box_later Y6.out hq7)
  have KY7 : Hid (w7.rangeAt (w.heap.size + 1) 0 (AV.mk k' n' s' na' nc' ns' xa' xc' xs').row) := Lib.hid (box_row Y7.out)
  go_wp2_with (first | ((with_reducible refine wpList_item_out KY7.out ?_ ?_); rfl))
  refine (PB.out _ hb7).mono ?_
  rintro e w8 ⟨rfl, hq8⟩
  have hb8 := hb7.trans (hq8.mono hb7.size)
  rcases HCASE.out with ⟨rfl, rfl | rfl⟩ | ⟨rfl, rfl⟩ | ⟨rfl, rfl, hEq⟩
  iterate 3
    · go_wp2_with fail
      go_ret
      exact ⟨rfl, hb8⟩
  · go_wp2_with fail
    go_ret
    exact ⟨ret_bool (by simp), hb8⟩
end Go.Proofs.YthapifpccnbliaaDoor
