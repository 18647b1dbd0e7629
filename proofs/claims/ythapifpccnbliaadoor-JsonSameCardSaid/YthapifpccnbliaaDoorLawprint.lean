/- JsonPrints: the program and the document print alike: the walk of the statement. -/
import Derived.Test.YthapifpccnbliaaDoorRprint
import Derived.Test.YthapifpccnbliaaDoorLawform
namespace Go.Proofs.YthapifpccnbliaaDoor
open Go.ChangeShapes Go.WideShapes Go.Deep Go.RowKit Go.Lib

theorem printed_is (t : AV) : ∃ (S : ByteArray) (e : Int), printed t = .returned (.tuple #[.string S, .int .i64 e]) := by
  unfold printed
  split
  · exact ⟨_, _, rfl⟩
  · exact ⟨_, _, rfl⟩

set_option maxHeartbeats 1000000 in
set_option maxRecDepth 100000 in
theorem lawprint_any (t : AV) (w : World) (hin : t.In w) (hT : Tabs w) (hP : Pow w) : Calls Tryd.prog 5 #[t.val] w fun e w' => e = .returned (.bool true) ∧ Below w.heap.size w w' := by
  have CALLF := Lib.hid (fun W hW => few_any t W hW)
  have CALLJ := Lib.hid (fun W (hb : Below w.heap.size w W) => Print_any t W (hin.below hb (Nat.le_refl _)) (hT.later hb) (hP.later hb))
  have CALLR := Lib.hid (fun W (hb : Below w.heap.size w W) => rPrint_any t W (hin.below hb (Nat.le_refl _)))
  obtain ⟨F, hF⟩ : ∃ F, AV.few t = F := ⟨_, rfl⟩
  obtain ⟨S, E, hR⟩ := printed_is t
  rw [hF] at CALLF
  rw [hR] at CALLJ CALLR
  have HIN := Lib.hid hin
  clear hF hR hin hT hP
  obtain ⟨k, n, s, na, nc, ns, xa, xc, xs⟩ := t
  simp only [AV.val, AV.row] at CALLF CALLJ CALLR ⊢
  go_enter Tryd.func5, Tryd.ntmps5
  go_wp2_with fail
  refine (awake_any _).mono ?_
  rintro e w1 ⟨rfl, hb1⟩
  have hb2 : Below w.heap.size w w1 := ((Below.refl w.heap.size w).alloc (Nat.le_refl _) _).trans (hb1.mono (by simp))
  have hc0 : w1.cell? ⟨w.heap.size, 0, none⟩ = some (.int .i64 k) := cell_later (by simp) hb1
  have hc1 : w1.cell? ⟨w.heap.size, 1, none⟩ = some (.int .i64 n) := cell_later (by simp) hb1
  have hc2 : w1.cell? ⟨w.heap.size, 2, none⟩ = some (.string s) := cell_later (by simp) hb1
  have hc3 : w1.cell? ⟨w.heap.size, 3, none⟩ = some (.slice na ns.length nc) := cell_later (by simp) hb1
  have hc4 : w1.cell? ⟨w.heap.size, 4, none⟩ = some (.slice xa xs.length xc) := cell_later (by simp) hb1
  have hk1 := (hb1.block w.heap.size (by simp)).trans (box_new w #[.int .i64 k, .int .i64 n, .string s, .slice na ns.length nc, .slice xa xs.length xc])
  have hz1 : w.heap.size < w1.heap.size := by have := hb1.size; simp at this; omega
  have HKK := Lib.hid hk1
  have HB2 := Lib.hid hb2
  clear hk1
  go_wp2_with fail
  refine (CALLF.out _ (HIN.out.below hb2 (Nat.le_refl _))).mono ?_
  rintro e w2 ⟨rfl, hb3⟩
  have hb4 := hb2.trans (hb3.mono hb2.size)
  cases F
  · go_wp2_with fail
    refine (awake_any _).mono ?_
    rintro e w3 ⟨rfl, hb5⟩
    go_wp2_with fail
    go_ret
    exact ⟨rfl, hb4.trans (hb5.mono hb4.size)⟩
  · have hk2 := (hb3.block w.heap.size hz1).trans HKK.out
    have HK2 : Hid (w2.rangeAt w.heap.size 0 (AV.mk k n s na nc ns xa xc xs).row) := Lib.hid (box_row hk2)
    have hz2 : w.heap.size < w2.heap.size := by have := hb3.size; omega
    clear hc0 hc1 hc2 hc3 hc4
    go_wp2_with (first | ((with_reducible refine wpList_item_out HK2.out ?_ ?_); rfl))
    refine (CALLJ.out _ hb4).mono ?_
    rintro e w3 ⟨rfl, hb5⟩
    have hb6 := hb4.trans (hb5.mono hb4.size)
    have HK3 : Hid (w3.rangeAt w.heap.size 0 (AV.mk k n s na nc ns xa xc xs).row) := Lib.hid (box_row ((hb5.block w.heap.size hz2).trans hk2))
    clear hk2
    go_wp2_with (first | ((with_reducible refine wpList_item_out HK3.out ?_ ?_); rfl))
    refine (CALLR.out _ hb6).mono ?_
    rintro e w4 ⟨rfl, hb7⟩
    go_wp2_with fail
    go_ret
    exact ⟨ret_bool (by simp), hb6.trans (hb7.mono hb6.size)⟩
end Go.Proofs.YthapifpccnbliaaDoor
