/- JsonNumbers: every integer is printed as its digits, and read as it was, whatever blanks stand around it: the walk of the statement. -/
import Derived.Test.YtijibjdgnaphiaaDoorReadt
import Derived.Test.YtijibjdgnaphiaaDoorDigits
import Derived.Test.YtijibjdgnaphiaaDoorLawform
import Derived.Deep.RegionHeld3
import Derived.Deep.DeepCutAuto
namespace Go.Proofs.YtijibjdgnaphiaaDoor
open Go.ChangeShapes Go.WideShapes Go.Deep Go.RowKit Go.Lib

theorem printed_num (n : Int) : printed (AV.mk 3 n ⟨#[]⟩ none 0 [] none 0 []) = .returned (.tuple #[.string ⟨(Lib.itoa n).toArray⟩, .int .i64 0]) := by
  unfold printed
  rw [if_pos (num_formed n), AV.text]
  rfl

/-- The blanks of each number. -/
def space (k : Nat) : List UInt8 := [[], [32], [9, 10], [13, 32]].getD k []

theorem space_ok (k : Nat) (hk : k < 4) : (∀ c ∈ space k, isBlank c = true) ∧ (space k).length ≤ 2 := by
  have : ∀ j : Fin 4, (∀ c ∈ space j.1, isBlank c = true) ∧ (space j.1).length ≤ 2 := by decide
  exact this ⟨k, hk⟩

theorem space_cell (w : World) (T : TypeId) (k : Nat) (hk : k < 4) : (w.alloc (.cells #[.string ⟨#[]⟩, .string ⟨#[32]⟩, .string ⟨#[9, 10]⟩, .string ⟨#[13, 32]⟩] T)).cell? ⟨w.heap.size, k, none⟩ = some (.string ⟨(space k).toArray⟩) := by
  rw [Lib.cell_of_heap (heap_alloc_new w _)]
  match k, hk with
  | 0, _ => rfl
  | 1, _ => rfl
  | 2, _ => rfl
  | 3, _ => rfl

theorem glue (A B L : List UInt8) : (⟨A.toArray⟩ ++ ⟨L.toArray⟩ ++ ⟨B.toArray⟩ : ByteArray) = ⟨(A ++ (L ++ B)).toArray⟩ := ext_list (by simp)

theorem block_five {w : World} {b : Nat} {c0 c1 c2 c3 c4 d0 d1 d2 d3 d4 : Value} {t : TypeId} (h : w.heap[b]? = some (.cells #[c0, c1, c2, c3, c4] t (0, 0))) :
    (((((w.setCell ⟨b, 0, none⟩ d0).setCell ⟨b, 1, none⟩ d1).setCell ⟨b, 2, none⟩ d2).setCell ⟨b, 3, none⟩ d3).setCell ⟨b, 4, none⟩ d4).heap[b]? = some (.cells #[d0, d1, d2, d3, d4] t (0, 0)) := by
  have h1 := heap_setCell_same w b 0 _ t d0 h
  have h2 := heap_setCell_same _ b 1 _ t d1 h1
  have h3 := heap_setCell_same _ b 2 _ t d2 h2
  have h4 := heap_setCell_same _ b 3 _ t d3 h3
  have h5 := heap_setCell_same _ b 4 _ t d4 h4
  rw [h5]
  rfl

/-- The result's box was made behind the call. -/
theorem meet_new {w V w3 : World} {n : Int} (h1 : Below w.heap.size w V) (h3 : Below V.heap.size V w3) :
    ∃ N : Nat, Value.pointer (some ⟨w3.heap.size, 0, none⟩) = .pointer (some ⟨N, 0, none⟩) ∧ Value.int .i64 0 = .int .i64 0 ∧ (w3.alloc (.cells #[.int .i64 3, .int .i64 n, .string ⟨#[]⟩, .slice none 0 0, .slice none 0 0] 25)).cell? ⟨N, 0, none⟩ = some (.int .i64 3) ∧
      (w3.alloc (.cells #[.int .i64 3, .int .i64 n, .string ⟨#[]⟩, .slice none 0 0, .slice none 0 0] 25)).cell? ⟨N, 1, none⟩ = some (.int .i64 n) ∧ Below w.heap.size w (w3.alloc (.cells #[.int .i64 3, .int .i64 n, .string ⟨#[]⟩, .slice none 0 0, .slice none 0 0] 25)) := by
  have h := heap_alloc_new w3 (.cells #[.int .i64 3, .int .i64 n, .string ⟨#[]⟩, .slice none 0 0, .slice none 0 0] 25)
  have hb := h1.trans (h3.mono h1.size)
  exact ⟨w3.heap.size, rfl, rfl, by rw [Lib.cell_of_heap h]; rfl, by rw [Lib.cell_of_heap h]; rfl, hb.alloc hb.size _⟩

/-- .. or ahead of it. -/
theorem meet_old {w V w3 : World} {n : Int} {B : Nat} {c0 c1 c2 c3 c4 : Value} (h1 : Below w.heap.size w V) (h3 : Below V.heap.size V w3) (hbox : V.heap[B]? = some (.cells #[c0, c1, c2, c3, c4] 25 (0, 0))) (hB : w.heap.size ≤ B) :
    ∃ N : Nat, Value.pointer (some ⟨B, 0, none⟩) = .pointer (some ⟨N, 0, none⟩) ∧ Value.int .i64 0 = .int .i64 0 ∧
      (((((w3.setCell ⟨B, 0, none⟩ (.int .i64 3)).setCell ⟨B, 1, none⟩ (.int .i64 n)).setCell ⟨B, 2, none⟩ (.string ⟨#[]⟩)).setCell ⟨B, 3, none⟩ (.slice none 0 0)).setCell ⟨B, 4, none⟩ (.slice none 0 0)).cell? ⟨N, 0, none⟩ = some (.int .i64 3) ∧
      (((((w3.setCell ⟨B, 0, none⟩ (.int .i64 3)).setCell ⟨B, 1, none⟩ (.int .i64 n)).setCell ⟨B, 2, none⟩ (.string ⟨#[]⟩)).setCell ⟨B, 3, none⟩ (.slice none 0 0)).setCell ⟨B, 4, none⟩ (.slice none 0 0)).cell? ⟨N, 1, none⟩ = some (.int .i64 n) ∧
      Below w.heap.size w (((((w3.setCell ⟨B, 0, none⟩ (.int .i64 3)).setCell ⟨B, 1, none⟩ (.int .i64 n)).setCell ⟨B, 2, none⟩ (.string ⟨#[]⟩)).setCell ⟨B, 3, none⟩ (.slice none 0 0)).setCell ⟨B, 4, none⟩ (.slice none 0 0)) := by
  have hb := h1.trans (h3.mono h1.size)
  have hlt : B < V.heap.size := by
    rcases Nat.lt_or_ge B V.heap.size with h | h
    · exact h
    · rw [Array.getElem?_eq_none h] at hbox; cases hbox
  have h5 := block_five (d0 := .int .i64 3) (d1 := .int .i64 n) (d2 := .string ⟨#[]⟩) (d3 := .slice none 0 0) (d4 := .slice none 0 0) ((h3.block B hlt).trans hbox)
  exact ⟨B, rfl, rfl, by rw [Lib.cell_of_heap h5]; rfl, by rw [Lib.cell_of_heap h5]; rfl,
    ((((hb.setCell (p := ⟨B, 0, none⟩) hB _).setCell (p := ⟨B, 1, none⟩) hB _).setCell (p := ⟨B, 2, none⟩) hB _).setCell (p := ⟨B, 3, none⟩) hB _).setCell (p := ⟨B, 4, none⟩) hB _⟩

set_option maxHeartbeats 16000000 in
set_option maxRecDepth 100000 in
theorem lawnum_any (n : Int) (a b : Nat) (w : World) (h0 : -9223372036854775808 ≤ n) (h1 : n ≤ 9223372036854775807) (hT : Tabs w) (hP : Pow w) :
    Calls Tryd.prog 8 #[.int .i64 n, .agg #[.int .u8 (a : Int), .int .u8 (b : Int)]] w fun e w' => e = .returned (.bool true) ∧ Below w.heap.size w w' := by
  have PRI := Lib.hid (fun W (h : Below w.heap.size w W) => Print_any (AV.mk 3 n ⟨#[]⟩ none 0 [] none 0 []) W (num_in n h0 h1 W) (hT.later h) (hP.later h))
  rw [printed_num] at PRI
  simp only [AV.val, AV.row, List.length_nil] at PRI
  have DIG := Lib.hid (fun W => Digits_any n.natAbs n rfl h0 h1 W)
  obtain ⟨k1, hk1⟩ : ∃ k, ((a : Int) % 4).toNat = k := ⟨_, rfl⟩
  obtain ⟨k2, hk2⟩ : ∃ k, ((b : Int) % 4).toNat = k := ⟨_, rfl⟩
  have lt1 : k1 < 4 := by omega
  have lt2 : k2 < 4 := by omega
  obtain ⟨oA, lA⟩ := space_ok k1 lt1
  obtain ⟨oB, lB⟩ := space_ok k2 lt2
  have READ := Lib.hid (fun W (h : Below w.heap.size w W) => Read_text (space k1) (space k2) n W h0 h1 oA oB lA lB (hT.later h))
  rw [← glue] at READ
  have CELL := Lib.hid (fun (W : World) (T : TypeId) => (⟨space_cell W T k1 lt1, space_cell W T k2 lt2⟩ : _ ∧ _))
  have hil := Lib.itoa_length_le n h0 h1
  obtain ⟨S, hS⟩ : ∃ S : ByteArray, ⟨(Lib.itoa n).toArray⟩ = S := ⟨_, rfl⟩
  obtain ⟨SA, hSA⟩ : ∃ S : ByteArray, ⟨(space k1).toArray⟩ = S := ⟨_, rfl⟩
  obtain ⟨SB, hSB⟩ : ∃ S : ByteArray, ⟨(space k2).toArray⟩ = S := ⟨_, rfl⟩
  have z1 : S.size ≤ 21 := by rw [← hS]; simpa [ByteArray.size] using hil
  have z2 : SA.size ≤ 2 := by rw [← hSA]; simpa [ByteArray.size] using lA
  have z3 : SB.size ≤ 2 := by rw [← hSB]; simpa [ByteArray.size] using lB
  rw [hS] at DIG PRI READ
  rw [hSA, hSB] at READ CELL
  have p2 : (a : Int).tmod 4 = (k1 : Int) := by rw [Int.tmod_eq_emod_of_nonneg (by omega)]; omega
  have r2 : (b : Int).tmod 4 = (k2 : Int) := by rw [Int.tmod_eq_emod_of_nonneg (by omega)]; omega
  have lt3 : (k1 : Int) < 4 := by omega
  have lt4 : (k2 : Int) < 4 := by omega
  have z4 : (SA ++ S).size = SA.size + S.size := by simp
  clear hS hSA hSB hil oA oB lA lB hk1 hk2 h0 h1 hT hP
  go_enter Tryd.func8, Tryd.ntmps8
  go_wp2_with fail
  refine (awake_any _).mono ?_
  rintro e w1 ⟨rfl, hq1⟩
  have hb1 : Below w.heap.size w w1 := ((Below.refl w.heap.size w).alloc (Nat.le_refl _) _).trans (hq1.mono (by simp))
  have x0 : w1.cell? ⟨w.heap.size, 0, none⟩ = some (.int .u8 (a : Int)) := cell_later (by simp) hq1
  have x1 : w1.cell? ⟨w.heap.size, 1, none⟩ = some (.int .u8 (b : Int)) := cell_later (by simp) hq1
  go_wp2_with fail
  refine (PRI.out _ hb1).mono ?_
  rintro e w2 ⟨rfl, hq2⟩
  have hb2 := hb1.trans (hq2.mono hb1.size)
  have y0 := cell_later x0 hq2
  have y1 := cell_later x1 hq2
  clear x0 x1
  go_wp2_with fail
  have c1 := (CELL.out w2 38).1
  have c2 := (CELL.out w2 38).2
  have y0' : (w2.alloc (.cells #[.string ⟨#[]⟩, .string ⟨#[32]⟩, .string ⟨#[9, 10]⟩, .string ⟨#[13, 32]⟩] 38)).cell? ⟨w.heap.size, 0, none⟩ = some (.int .u8 (a : Int)) := cell_later y0 ((Below.refl _ _).alloc (Nat.le_refl _) _)
  have y1' : (w2.alloc (.cells #[.string ⟨#[]⟩, .string ⟨#[32]⟩, .string ⟨#[9, 10]⟩, .string ⟨#[13, 32]⟩] 38)).cell? ⟨w.heap.size, 1, none⟩ = some (.int .u8 (b : Int)) := cell_later y1 ((Below.refl _ _).alloc (Nat.le_refl _) _)
  have hb3 : Below w.heap.size w (w2.alloc (.cells #[.string ⟨#[]⟩, .string ⟨#[32]⟩, .string ⟨#[9, 10]⟩, .string ⟨#[13, 32]⟩] 38)) := hb2.alloc hb2.size _
  clear y0 y1 hb1 hq1
  generalize w2.alloc (.cells #[.string ⟨#[]⟩, .string ⟨#[32]⟩, .string ⟨#[9, 10]⟩, .string ⟨#[13, 32]⟩] 38) = W0 at *
  have HB3 := Lib.hid hb3
  have HD : Hid (Below w.heap.size w W0.drew) := Lib.hid hb3.drew
  have HE : Hid (∀ o, Below w.heap.size w (W0.alloc o).drew) := Lib.hid (fun o => (hb3.alloc hb3.size o).drew)
  have e1 : ∀ o, (W0.alloc o).cell? ⟨w2.heap.size, k1, none⟩ = some (.string SA) := fun o => cell_later (w := W0) c1 ((Below.refl _ _).alloc (Nat.le_refl _) _)
  have e2 : ∀ o, (W0.alloc o).cell? ⟨w2.heap.size, k2, none⟩ = some (.string SB) := fun o => cell_later (w := W0) c2 ((Below.refl _ _).alloc (Nat.le_refl _) _)
  have e3 : ∀ o, (W0.alloc o).cell? ⟨w.heap.size, 0, none⟩ = some (.int .u8 (a : Int)) := fun o => cell_later (w := W0) y0' ((Below.refl _ _).alloc (Nat.le_refl _) _)
  have e4 : ∀ o, (W0.alloc o).cell? ⟨w.heap.size, 1, none⟩ = some (.int .u8 (b : Int)) := fun o => cell_later (w := W0) y1' ((Below.refl _ _).alloc (Nat.le_refl _) _)
  have HSZ := Lib.hid hb3.size
  clear CELL hb3 hb2 hq2
  have s1 : ¬ 9223372036854775807 < SA.size + S.size := by omega
  have s2 : ¬ 9223372036854775807 < SA.size + S.size + SB.size := by omega
  have s3 : ¬ 9223372036854775807 < (SA ++ S).size + SB.size := by omega
  have HBOX : Hid ((W0.alloc (.cells #[.int .i64 0, .int .i64 0, .string ⟨#[]⟩, .slice none 0 0, .slice none 0 0] 25)).drew.heap[W0.heap.size]? = some (.cells #[.int .i64 0, .int .i64 0, .string ⟨#[]⟩, .slice none 0 0, .slice none 0 0] 25 (0, 0))) := Lib.hid (box_new W0 _)
  go_upto_region 5 with fail
  go_cut [8, 9] (fun s8 s9 wx => ∃ N : Nat, s8 = .pointer (some ⟨N, 0, none⟩) ∧ s9 = .int .i64 0 ∧ wx.cell? ⟨N, 0, none⟩ = some (.int .i64 3) ∧ wx.cell? ⟨N, 1, none⟩ = some (.int .i64 n) ∧ Below w.heap.size w wx)
  case first =>
    go_region_with (first
      | (go_at_call 21; refine (READ.out _ ?_).mono ?_; exact HD.out; rintro e w3 ⟨rfl, hq3⟩)
      | (go_at_call 21; refine (READ.out _ ?_).mono ?_; exact HE.out _; rintro e w3 ⟨rfl, hq3⟩; obtain ⟨g0, g1, g2, g3, g4⟩ := box5 (box_later2 HBOX.out hq3); obtain ⟨f0, f1, f2, f3, f4⟩ := frozen5 (box_later2 HBOX.out hq3)))
    all_goals
      go_wp2_with fail
      go_meet
      first
        | with_reducible exact meet_new HD.out hq3
        | with_reducible exact meet_old (HE.out _) hq3 HBOX.out HSZ.out
  case rest =>
    obtain ⟨N, rfl, rfl, n0, n1, hbx⟩ := hcut
    go_wp2_with fail
    refine (DIG.out _).mono ?_
    rintro e w4 ⟨rfl, hq4⟩
    have m0 := cell_later n0 hq4
    have m1 := cell_later n1 hq4
    clear n0 n1
    go_wp2_with fail
    go_ret
    exact ⟨rfl, hbx.trans (hq4.mono hbx.size)⟩
end Go.Proofs.YtijibjdgnaphiaaDoor
