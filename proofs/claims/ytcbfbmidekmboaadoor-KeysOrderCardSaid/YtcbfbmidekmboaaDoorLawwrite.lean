/- KeysWrite: every value, formed or not, has the document's key, or is refused: the walk of the statement. -/
import Derived.Test.YtcbfbmidekmboaaDoorAwk
import Derived.Test.YtcbfbmidekmboaaDoorRkey
import Derived.Test.YtcbfbmidekmboaaDoorBsame
import Derived.Test.YtcbfbmidekmboaaDoorFewl
namespace Go.Proofs.YtcbfbmidekmboaaDoor
open Go.ChangeShapes Go.WideShapes Go.Deep Go.RowKit Go.Lib

theorem row_new (w : World) (cs : List Value) (t : TypeId) : (w.alloc (.cells cs.toArray t)).rangeAt w.heap.size 0 cs := fun j v hv => by
  rw [Lib.cell_of_heap (heap_alloc_new w _)]
  simpa using hv

theorem keyR_max (t : AV) : (keyR t).length ≤ 819200000000 := by
  unfold keyR
  split
  · exact key_max (by assumption)
  · simp

set_option maxHeartbeats 4000000 in
set_option maxRecDepth 100000 in
theorem lawwrite_any (t : AV) (w : World) (hin : t.In w) (hT : Tabs w) : Calls Tryd.prog 3 #[t.val] w fun e w' => e = .returned (.bool true) ∧ Below w.heap.size w w' := by
  have AWAKE := Lib.hid (fun W (h : Below w.heap.size w W) => awake_any W (hT.later h))
  have KEY := Lib.hid (fun W (h : Below w.heap.size w W) => Key_any t W (hin.below h (Nat.le_refl _)) (hT.later h))
  have RKEY := Lib.hid (fun W (h : Below w.heap.size w W) => rKey_any t W (hin.below h (Nat.le_refl _)))
  have FEW := Lib.hid (fun W x c (h : Below w.heap.size w W) (hr : W.rangeAt x 0 t.row) => fewL_any (some ⟨x, 0, none⟩) c [t] W (.inr ⟨x, 0, rfl, fun i hi => by
    rcases i with _ | i
    · exact ⟨by simpa using hr, hin.below h (Nat.le_refl _)⟩
    · simp at hi⟩) (by simp))
  have hmax := keyR_max t
  unfold KeyGave at KEY RKEY
  obtain ⟨R, hR⟩ : ∃ R, keyR t = R := ⟨_, rfl⟩
  obtain ⟨E, hE⟩ : ∃ E, keyE t = E := ⟨_, rfl⟩
  obtain ⟨F, hF⟩ : ∃ F, fewL 0 [t] = F := ⟨_, rfl⟩
  simp only [hR, hE] at KEY RKEY
  rw [hR] at hmax
  simp only [hF] at FEW
  have SAME := Lib.hid (fun (na nb : Option Addr) (ca cb : Nat) (W : World) (h1 : BytesIn W na R) (h2 : BytesIn W nb R) => sameB_any na nb ca cb R R W h1 h2 (by omega) (by omega))
  simp only [decide_true] at SAME
  clear hR hE hF hin hT hmax
  obtain ⟨k, n, s, na, nc, ns, xa, xc, xs⟩ := t
  simp only [AV.val, AV.row] at KEY RKEY FEW ⊢
  have hb0 : Below w.heap.size w (w.alloc (.cells #[.int .i64 k, .int .i64 n, .string s, .slice na ns.length nc, .slice xa xs.length xc] 25)) := (Below.refl _ _).alloc (Nat.le_refl _) _
  have hbx : (w.alloc (.cells #[.int .i64 k, .int .i64 n, .string s, .slice na ns.length nc, .slice xa xs.length xc] 25)).heap[w.heap.size]? = some (.cells #[.int .i64 k, .int .i64 n, .string s, .slice na ns.length nc, .slice xa xs.length xc] 25 (0, 0)) := heap_alloc_new w _
  have HBX := Lib.hid hbx
  clear hbx
  go_enter Tryd.func3, Tryd.ntmps3
  go_wp2_with fail
  generalize w.alloc (.cells #[.int .i64 k, .int .i64 n, .string s, .slice na ns.length nc, .slice xa xs.length xc] 25) = W0 at *
  refine (AWAKE.out _ hb0).mono ?_
  rintro e w1 ⟨rfl, hq1⟩
  have hb1 := hb0.trans (hq1.mono hb0.size)
  have x1 := box_later HBX.out hq1
  obtain ⟨a0, a1, a2, a3, a4⟩ := box_cells x1
  have X1 := Lib.hid x1
  clear x1 HBX
  go_wp2_with fail
  have hba : Below w1.heap.size w1 (w1.alloc (.cells #[.int .i64 k, .int .i64 n, .string s, .slice na ns.length nc, .slice xa xs.length xc] 25)) := (Below.refl _ _).alloc (Nat.le_refl _) _
  have hb2 := hb1.trans (hba.mono hb1.size)
  have X2 := Lib.hid (box_later X1.out hba)
  refine (FEW.out _ w1.heap.size 1 hb2 (row_new w1 [.int .i64 k, .int .i64 n, .string s, .slice na ns.length nc, .slice xa xs.length xc] 25)).mono ?_
  rintro e w2 ⟨rfl, hq2⟩
  have hb3 := hb2.trans (hq2.mono hb2.size)
  have X3 := Lib.hid (box_later X2.out hq2)
  clear a0 a1 a2 a3 a4 X1 X2 hba hb2 hq2
  cases F
  · go_wp2_with fail
    refine (AWAKE.out _ hb3).mono ?_
    rintro e w3 ⟨rfl, hq3⟩
    go_wp2_with fail
    go_ret
    exact ⟨rfl, hb3.trans (hq3.mono hb3.size)⟩
  obtain ⟨a0, a1, a2, a3, a4⟩ := box_cells X3.out
  go_wp2_with fail
  refine (KEY.out _ hb3).mono ?_
  rintro e w4 ⟨va, vc, rfl, hin4, hq4⟩
  have hb4 := hb3.trans (hq4.mono hb3.size)
  have X4 := box_later X3.out hq4
  clear a0 a1 a2 a3 a4
  obtain ⟨a0, a1, a2, a3, a4⟩ := box_cells X4
  have HI4 := Lib.hid hin4
  clear hin4 hq4 X3 X4
  go_wp2_with fail
  refine (RKEY.out _ hb4).mono ?_
  rintro e w5 ⟨vb, vd, rfl, hin5, hq5⟩
  have hb5 := hb4.trans (hq5.mono hb4.size)
  have HI4' := Lib.hid (HI4.out.below hq5)
  have HI5 := Lib.hid hin5
  clear hin5 hq5 a0 a1 a2 a3 a4
  go_wp2_with fail
  refine (SAME.out va vb vc vd w5 HI4'.out HI5.out).mono ?_
  rintro e w6 ⟨rfl, hq6⟩
  go_wp2_with fail
  go_ret
  exact ⟨rfl, hb5.trans (hq6.mono hb5.size)⟩
end Go.Proofs.YtcbfbmidekmboaaDoor
