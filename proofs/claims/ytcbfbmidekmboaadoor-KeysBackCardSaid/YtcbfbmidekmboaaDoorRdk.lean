/- A key read: what the program's call answers where bytes begin with one; no condition of ours. -/
import Derived.Test.YtcbfbmidekmboaaDoorRdf
import Derived.RegionTactic
import Derived.BigRegion
namespace Go.Proofs.YtcbfbmidekmboaaDoor
open Go.ChangeShapes Go.WideShapes Go.Deep Go.RowKit Go.Lib

theorem two_boxes (w : World) (cs : Array Value) (o : Obj) : ((w.alloc (.cells cs 25)).alloc o).heap[w.heap.size]? = some (.cells cs 25 (0, 0)) := by
  rw [Lib.alloc_old _ _ _ (by simp)]; exact heap_alloc_new w _

/-- What Read answers: the value, how many bytes, and that all is well. -/
def ReadGave (t : AV) (w : World) : Ending → World → Prop := fun e w' => ∃ u : AV, e = .returned (.tuple #[u.val, .int .i64 ((AV.key t).length : Int), .int .i64 0]) ∧ AV.eqv t u = true ∧ u.In w' ∧ Below w.heap.size w w'

set_option maxHeartbeats 4000000 in
set_option maxRecDepth 100000 in
theorem Read_any (w : World) (nb : Option Addr) (cb : Nat) (bs r : List UInt8) (t : AV) (hbs : bs = AV.key t ++ r) (hby : BytesIn w nb bs) (hlen : bs.length ≤ 9223372036854775807) (hf : AV.formedJ t 6 = true) (hin : ∃ W, t.In W) (hT : Tabs w) :
    Calls Tryd.prog 14 #[.slice nb bs.length cb] w (ReadGave t w) := by
  have hb2 : Below w.heap.size w ((w.alloc (.cells #[.int .i64 0, .int .i64 0, .string ⟨#[]⟩, .slice none 0 0, .slice none 0 0] 25)).alloc (.cells #[.int .i64 0] 3)) := two_below w _ _
  have hp1 : ((w.alloc (.cells #[.int .i64 0, .int .i64 0, .string ⟨#[]⟩, .slice none 0 0, .slice none 0 0] 25)).alloc (.cells #[.int .i64 0] 3)).heap[w.heap.size + 1]? = some (.cells #[.int .i64 0] 3 (0, 0)) := by
    have := heap_alloc_new (w.alloc (.cells #[.int .i64 0, .int .i64 0, .string ⟨#[]⟩, .slice none 0 0, .slice none 0 0] 25)) (.cells #[.int .i64 0] 3)
    rw [show (w.alloc (.cells #[.int .i64 0, .int .i64 0, .string ⟨#[]⟩, .slice none 0 0, .slice none 0 0] 25)).heap.size = w.heap.size + 1 by simp] at this
    exact this
  have hat : At (w.heap.size + 1) bs (AV.key t ++ r) ((w.alloc (.cells #[.int .i64 0, .int .i64 0, .string ⟨#[]⟩, .slice none 0 0, .slice none 0 0] 25)).alloc (.cells #[.int .i64 0] 3)) := ⟨0, Nat.zero_le _, by rw [List.drop_zero, hbs], hp1⟩
  have hS : Src w (w.heap.size + 1) nb bs ((w.alloc (.cells #[.int .i64 0, .int .i64 0, .string ⟨#[]⟩, .slice none 0 0, .slice none 0 0] 25)).alloc (.cells #[.int .i64 0] 3)) := ⟨hby, hb2, by omega, hlen⟩
  have CALL := Lib.hid (readFormed_any w _ (w.heap.size + 1) nb cb bs r t hS hat hf hin hT)
  have hq1 : ((w.alloc (.cells #[.int .i64 0, .int .i64 0, .string ⟨#[]⟩, .slice none 0 0, .slice none 0 0] 25)).alloc (.cells #[.int .i64 0] 3)).heap[w.heap.size]? = some (.cells #[.int .i64 0, .int .i64 0, .string ⟨#[]⟩, .slice none 0 0, .slice none 0 0] 25 (0, 0)) := two_boxes w _ _
  have HQ1 := Lib.hid hq1
  have HB2 := Lib.hid hb2
  have hz : ((w.alloc (.cells #[.int .i64 0, .int .i64 0, .string ⟨#[]⟩, .slice none 0 0, .slice none 0 0] 25)).alloc (.cells #[.int .i64 0] 3)).heap.size = w.heap.size + 2 := by simp
  have HZ := Lib.hid hz
  have hln : bs.length = (AV.key t).length + r.length := by rw [hbs, List.length_append]
  have HLN := Lib.hid hln
  clear hq1 hb2 hS hat hp1 hby hf hin hT hz hln hbs
  go_enter Tryd.func14, Tryd.ntmps14
  go_wp2_with fail
  refine (CALL.out).mono ?_
  rintro e w3 ⟨u, rfl, hu, hlies, hat3, hk3⟩
  obtain ⟨a, ha, hd, hbox⟩ := hat3
  have hal : a = (AV.key t).length := by
    have h1 := congrArg List.length hd
    rw [List.length_drop] at h1
    have := HLN.out
    omega
  subst hal
  have hz := HZ.out
  have hk3s := hk3.size
  have hz3 : w.heap.size + 1 < w3.heap.size := by omega
  have hz4 : w3.heap.size ≤ (w3.alloc (.cells u.row.toArray 25)).heap.size := by simp
  have HB3 := Lib.hid ((Lib.alloc_old w3 (.cells u.row.toArray 25) _ (by omega)).trans (hk3.box HQ1.out (by omega)))
  have HP3 := Lib.hid ((Lib.alloc_old w3 (.cells u.row.toArray 25) _ hz3).trans hbox)
  have HV3 := Lib.hid (heap_alloc_new w3 (.cells u.row.toArray 25))
  have HU := Lib.hid hu
  have HL3 := Lib.hid (hlies.later (w' := w3.alloc (.cells u.row.toArray 25)) fun k hC hD => Lib.alloc_old w3 _ k hD)
  have HK3 := Lib.hid (((hk3.below (B := w.heap.size) (by omega) (by omega)).alloc (by omega) (.cells u.row.toArray 25)))
  rw [hz] at HL3
  obtain ⟨k', n', s', na', nc', ns', xa', xc', xs'⟩ := u
  simp only [AV.row] at HB3 HP3 HV3 HL3 HK3 hz4
  clear hu hlies hk3 hbox hd ha hz hk3s
  simp only [AV.val, AV.row]
  go_upto_region 5 with fail
  generalize hW4 : w3.alloc (.cells #[.int .i64 k', .int .i64 n', .string s', .slice na' ns'.length nc', .slice xa' xs'.length xc'] 25) = W4 at *
  clear hW4
  obtain ⟨a0, a1, a2, a3, a4⟩ := box_cells HV3.out
  obtain ⟨d0, d1, d2, d3, d4⟩ := box_cells HB3.out
  obtain ⟨f0, f1, f2, f3, f4⟩ := fz5 HB3.out
  obtain ⟨c0, -⟩ := place_cell HP3.out
  go_region
  have hkf := ((Kept.refl w.heap.size W4).five (.int .i64 k') (.int .i64 n') (.string s') (.slice na' ns'.length nc') (.slice xa' xs'.length xc')).drew
  have hfb : (((((W4.setCell ⟨w.heap.size, 0, none⟩ (.int .i64 k')).setCell ⟨w.heap.size, 1, none⟩ (.int .i64 n')).setCell ⟨w.heap.size, 2, none⟩ (.string s')).setCell ⟨w.heap.size, 3, none⟩ (.slice na' ns'.length nc')).setCell ⟨w.heap.size, 4, none⟩ (.slice xa' xs'.length xc')).drew.heap[w.heap.size]? = some (.cells #[.int .i64 k', .int .i64 n', .string s', .slice na' ns'.length nc', .slice xa' xs'.length xc'] 25 (0, 0)) := five_box HB3.out (.int .i64 k') (.int .i64 n') (.string s') (.slice na' ns'.length nc') (.slice xa' xs'.length xc')
  obtain ⟨g0, g1, g2, g3, g4⟩ := box_cells hfb
  have HBF := Lib.hid (HB2.out.trans (HK3.out.trans (hkf.below (Nat.le_refl _) (by omega))))
  have HIN := Lib.hid ((HL3.out.later fun k hC hD => hkf.block k (by omega) (by omega)).here)
  clear hkf hfb a0 a1 a2 a3 a4 d0 d1 d2 d3 d4 f0 f1 f2 f3 f4 c0
  go_wp2_with fail
  refine bodyPost_ret (v := .tuple #[.agg #[.int .i64 k', .int .i64 n', .string s', .slice na' ns'.length nc', .slice xa' xs'.length xc'], .int .i64 ((AV.key t).length : Int), .int .i64 0]) (by simp [results, Tryd.results14, go_sem, g0, g1, g2, g3, g4]) rfl ⟨_, rfl, HU.out, HIN.out, HBF.out⟩
end Go.Proofs.YtcbfbmidekmboaaDoor
