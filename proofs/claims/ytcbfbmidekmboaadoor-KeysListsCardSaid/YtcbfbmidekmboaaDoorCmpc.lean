/- Two values, formed or not, compared by the program: what Compare answers; no condition of ours. -/
import Derived.Test.YtcbfbmidekmboaaDoorCmpp
namespace Go.Proofs.YtcbfbmidekmboaaDoor
open Go.ChangeShapes Go.WideShapes Go.Deep Go.RowKit Go.Lib

/-- The order of all values: those that aren't formed are alike every one. -/
def cmpV (a b : AV) : Int := if AV.formedJ a 6 = true ∧ AV.formedJ b 6 = true then AV.ord a b else 0

set_option maxHeartbeats 4000000 in
set_option maxRecDepth 100000 in
theorem Compare_any (a b : AV) (w : World) (ha : a.In w) (hb : b.In w) (hT : Tabs w) : Calls Tryd.prog 18 #[a.val, b.val] w fun e w' => e = .returned (.int .i64 (cmpV a b)) ∧ Below w.heap.size w w' := by
  have FA := Lib.hid (fun W (h : Below w.heap.size w W) => Formed_any a W (ha.below h (Nat.le_refl _)) (hT.later h))
  have FB := Lib.hid (fun W (h : Below w.heap.size w W) => Formed_any b W (hb.below h (Nat.le_refl _)) (hT.later h))
  have CMP : AV.formedJ a 6 = true → AV.formedJ b 6 = true → Hid (∀ W, Below w.heap.size w W → Calls Tryd.prog 30 #[a.val, b.val] W fun e w' => e = .returned (.int .i64 (cmpV a b)) ∧ Below W.heap.size W w') := fun h1 h2 => Lib.hid fun W h => by
    rw [cmpV, if_pos ⟨h1, h2⟩]
    exact compare_any a b W ⟨6, h1⟩ ⟨6, h2⟩ (ha.below h (Nat.le_refl _)) (hb.below h (Nat.le_refl _))
  have hno : (AV.formedJ a 6 = false ∨ AV.formedJ b 6 = false) → cmpV a b = 0 := fun h => by
    rw [cmpV, if_neg]
    rintro ⟨h1, h2⟩
    rcases h with h | h
    · rw [h] at h1; cases h1
    · rw [h] at h2; cases h2
  obtain ⟨A, hA⟩ : ∃ A, AV.formedJ a 6 = A := ⟨_, rfl⟩
  obtain ⟨B, hB⟩ : ∃ B, AV.formedJ b 6 = B := ⟨_, rfl⟩
  obtain ⟨C, hC⟩ : ∃ C, cmpV a b = C := ⟨_, rfl⟩
  rw [hA] at FA CMP hno
  rw [hB] at FB CMP hno
  rw [hC] at CMP hno
  rw [hC]
  clear hA hB hC ha hb hT
  obtain ⟨k, n, s, na, nc, ns, xa, xc, xs⟩ := a
  obtain ⟨k', n', s', na', nc', ns', xa', xc', xs'⟩ := b
  simp only [AV.val, AV.row] at FA FB CMP ⊢
  have hb2 := two_below w (.cells #[.int .i64 k, .int .i64 n, .string s, .slice na ns.length nc, .slice xa xs.length xc] 25) (.cells #[.int .i64 k', .int .i64 n', .string s', .slice na' ns'.length nc', .slice xa' xs'.length xc'] 25)
  have hbx := two_box w #[.int .i64 k, .int .i64 n, .string s, .slice na ns.length nc, .slice xa xs.length xc] #[.int .i64 k', .int .i64 n', .string s', .slice na' ns'.length nc', .slice xa' xs'.length xc']
  have HBX := Lib.hid hbx
  have HNO := Lib.hid hno
  clear hbx hno
  go_enter Tryd.func18, Tryd.ntmps18
  go_wp2_with fail
  generalize (w.alloc (.cells #[.int .i64 k, .int .i64 n, .string s, .slice na ns.length nc, .slice xa xs.length xc] 25)).alloc (.cells #[.int .i64 k', .int .i64 n', .string s', .slice na' ns'.length nc', .slice xa' xs'.length xc'] 25) = W0 at *
  refine (FA.out _ hb2).mono ?_
  rintro e w1 ⟨rfl, hq1⟩
  have hb3 := hb2.trans (hq1.mono hb2.size)
  have X1 := Lib.hid (box_later HBX.out.1 hq1)
  have Y1 := Lib.hid (box_later HBX.out.2 hq1)
  cases A
  · have hC := HNO.out (.inl rfl)
    have HC := Lib.hid hC
    clear hC
    go_wp2_with fail
    go_ret
    exact ⟨ret_i64 HC.out.symm, hb3⟩
  obtain ⟨d0, d1, d2, d3, d4⟩ := box_cells Y1.out
  go_wp2_with fail
  refine (FB.out _ hb3).mono ?_
  rintro e w2 ⟨rfl, hq2⟩
  have hb4 := hb3.trans (hq2.mono hb3.size)
  clear d0 d1 d2 d3 d4
  have X2 := Lib.hid (box_later X1.out hq2)
  have Y2 := Lib.hid (box_later Y1.out hq2)
  cases B
  · have hC := HNO.out (.inr rfl)
    have HC := Lib.hid hC
    clear hC
    go_wp2_with fail
    go_ret
    exact ⟨ret_i64 HC.out.symm, hb4⟩
  have KX2 : Hid (w2.rangeAt w.heap.size 0 (AV.mk k n s na nc ns xa xc xs).row) := Lib.hid (box_row X2.out)
  have KY2 : Hid (w2.rangeAt (w.heap.size + 1) 0 (AV.mk k' n' s' na' nc' ns' xa' xc' xs').row) := Lib.hid (box_row Y2.out)
  have CALL := CMP (by simp) (by simp)
  clear CMP
  go_wp2_with (first | ((with_reducible refine wpList_item_out KX2.out ?_ ?_); rfl) | ((with_reducible refine wpList_item_out KY2.out ?_ ?_); rfl))
  refine (CALL.out _ hb4).mono ?_
  rintro e w3 ⟨rfl, hq3⟩
  go_wp2_with fail
  go_ret
  exact ⟨rfl, hb4.trans (hq3.mono hb4.size)⟩
end Go.Proofs.YtcbfbmidekmboaaDoor
