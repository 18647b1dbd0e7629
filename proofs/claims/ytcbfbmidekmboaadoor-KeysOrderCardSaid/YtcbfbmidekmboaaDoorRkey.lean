/- A value's key by the document: what Key answers, formed or not; no condition of ours. -/
import Derived.Test.YtcbfbmidekmboaaDoorRplaino
import Derived.Test.YtcbfbmidekmboaaDoorKeyp
namespace Go.Proofs.YtcbfbmidekmboaaDoor
open Go.ChangeShapes Go.WideShapes Go.Deep Go.RowKit Go.Lib

set_option maxHeartbeats 4000000 in
set_option maxRecDepth 100000 in
theorem rKey_any (t : AV) (w : World) (hin : t.In w) : Calls Tryd.prog 12 #[t.val] w (KeyGave t w) := by
  have FORM := Lib.hid (fun W (hW : Below w.heap.size w W) => rFormed_any t W (hin.below hW (Nat.le_refl _)))
  unfold KeyGave keyR keyE
  by_cases hf : AV.formedJ t 6 = true
  · rw [if_pos hf, if_pos hf]
    simp only [hf] at FORM
    have CALL := Lib.hid (fun W (hW : Below w.heap.size w W) => plain_any t w W 6 hin hW hf (by have := key_max hf; omega))
    obtain ⟨R, hR⟩ : ∃ R, AV.key t = R := ⟨_, rfl⟩
    rw [hR]
    simp only [hR] at CALL
    clear hin hf hR
    obtain ⟨k, n, s, na, nc, ns, xa, xc, xs⟩ := t
    simp only [AV.val, AV.row] at CALL FORM ⊢
    have hb0 : Below w.heap.size w (w.alloc (.cells #[.int .i64 k, .int .i64 n, .string s, .slice na ns.length nc, .slice xa xs.length xc] 25)) := (Below.refl _ _).alloc (Nat.le_refl _) _
    have hbx : (w.alloc (.cells #[.int .i64 k, .int .i64 n, .string s, .slice na ns.length nc, .slice xa xs.length xc] 25)).heap[w.heap.size]? = some (.cells #[.int .i64 k, .int .i64 n, .string s, .slice na ns.length nc, .slice xa xs.length xc] 25 (0, 0)) := heap_alloc_new w _
    have HBX := Lib.hid hbx
    clear hbx
    go_enter Tryd.func12, Tryd.ntmps12
    go_wp2_with fail
    generalize w.alloc (.cells #[.int .i64 k, .int .i64 n, .string s, .slice na ns.length nc, .slice xa xs.length xc] 25) = W0 at *
    refine (FORM.out _ hb0).mono ?_
    rintro e W1 ⟨rfl, hb1⟩
    obtain ⟨c0, c1, c2, c3, c4⟩ := box_cells (box_later HBX.out hb1)
    have hb2 := hb0.trans (hb1.mono hb0.size)
    go_wp2_with fail
    refine (CALL.out _ hb2).mono ?_
    rintro e W2 ⟨nb, cb, rfl, hin2, hq2⟩
    have HO := Lib.hid hin2
    have hb3 := hb2.trans (hq2.mono hb2.size)
    clear hq2 hin2
    go_wp2_with fail
    go_ret2
    exact ⟨nb, cb, rfl, HO.out, hb3⟩
  · have hf' : AV.formedJ t 6 = false := by simpa using hf
    rw [if_neg hf, if_neg hf]
    simp only [hf'] at FORM
    clear hin hf hf'
    obtain ⟨k, n, s, na, nc, ns, xa, xc, xs⟩ := t
    simp only [AV.val, AV.row] at FORM ⊢
    have hb0 : Below w.heap.size w (w.alloc (.cells #[.int .i64 k, .int .i64 n, .string s, .slice na ns.length nc, .slice xa xs.length xc] 25)) := (Below.refl _ _).alloc (Nat.le_refl _) _
    go_enter Tryd.func12, Tryd.ntmps12
    go_wp2_with fail
    refine (FORM.out _ hb0).mono ?_
    rintro e W1 ⟨rfl, hb1⟩
    go_wp2_with fail
    go_ret2
    exact ⟨none, 0, rfl, .inl rfl, hb0.trans (hb1.mono hb0.size)⟩
end Go.Proofs.YtcbfbmidekmboaaDoor
