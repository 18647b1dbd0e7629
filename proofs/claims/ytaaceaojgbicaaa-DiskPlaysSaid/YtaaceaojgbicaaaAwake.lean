/- The statements' first question: a disk of two sectors takes a write; no condition. -/
import Derived.Test.YtaaceaojgbicaaaWritea
namespace Go.Proofs.Ytaaceaojgbicaaa
open Go.ChangeShapes Go.WideShapes Go.Deep Go.RowKit Go.Lib Go.Maps

set_option maxHeartbeats 4000000 in
set_option maxRecDepth 100000 in
theorem awake_any (w : World) : Calls Try.prog 8 #[] w fun e w' => e = .returned (.bool true) ∧ Below w.heap.size w w' := by
  have NEW := Lib.hid (new_any 2)
  have MAKE := make_256
  have HIN : Hid (∀ W : World, BytesIn (W.alloc (.cells (Lib.byteCells zeroS).toArray 5)) (some ⟨W.heap.size, 0, none⟩) zeroS) := Lib.hid (fun W => .inr ⟨W.heap.size, 0, rfl, fun j hj => by
    rw [Lib.cell_of_heap (heap_alloc_new W _)]
    simpa using byteCells_at zeroS j hj⟩)
  go_enter Try.func8, Try.ntmps8
  go_wp2_with fail
  refine (NEW.out _).mono ?_
  rintro e w1 ⟨a, rfl, hd, hb, hf⟩
  have HSIZE := Lib.hid (size_any hd)
  have HD := Lib.hid hd
  have HB := Lib.hid hb
  have HF := Lib.hid hf
  have hc : clampN 2 = 2 := by decide
  rw [hc] at HSIZE HD
  clear hd hb hf hc NEW
  unfold ptr at HSIZE ⊢
  go_wp2_with fail
  refine (HSIZE.out).mono ?_
  rintro e w2 ⟨rfl, rfl⟩
  go_wp2_with fail
  have hba : Below w1.heap.size w1 (w1.alloc (.cells (Lib.byteCells zeroS).toArray 5)) := (Below.refl _ _).alloc (Nat.le_refl _) _
  have hcall := write_any (HD.out.below hba) (by decide) 1 (by unfold wfI; decide) (some ⟨w1.heap.size, 0, none⟩) 256 zeroS (HIN.out w1) (fun x hx e => by
    cases hx
    exact absurd (HD.out.lt _ e) (Nat.lt_irrefl _))
  rw [wrote_ok (s := freshD 2) rfl (by decide) zeroS_length rfl, zeroS_length] at hcall
  have HBA := Lib.hid hba
  clear hba
  refine hcall.mono ?_
  clear hcall
  rintro e w3 ⟨rfl, a3, he3, hd3, hO3, hf3⟩
  have HP3 := Lib.hid (pending_any hd3)
  rw [show ptr a3 = ptr a by unfold ptr; rw [he3]] at HP3
  have HB3 : Hid (Below w.heap.size w w3) := Lib.hid ((HB.out.trans (HBA.out.mono HB.out.size)).trans (hO3.below (by simp; have := HB.out.size; omega) (fun j hj => HF.out j hj)))
  clear hd3 hO3 hf3 he3
  unfold ptr at HP3
  go_wp2_with fail
  refine (HP3.out).mono ?_
  rintro e w4 ⟨rfl, rfl⟩
  go_wp2_with fail
  go_ret
  exact ⟨rfl, HB3.out⟩
end Go.Proofs.Ytaaceaojgbicaaa
