/- A formed value read: what the program's call answers where there is one; no condition of ours. -/
import Derived.Test.YtcbfbmidekmboaaDoorRdvo
import Derived.Test.YtcbfbmidekmboaaDoorForms
import Derived.Deep.DeepCutAuto
namespace Go.Proofs.YtcbfbmidekmboaaDoor
open Go.ChangeShapes Go.WideShapes Go.Deep Go.RowKit Go.Lib

set_option maxHeartbeats 4000000 in
set_option maxRecDepth 100000 in
theorem readFormed_any (w0 w : World) (p : Nat) (nb : Option Addr) (cb : Nat) (bs r : List UInt8) (t : AV) (hS : Src w0 p nb bs w) (hat : At p bs (AV.key t ++ r) w) (hf : AV.formedJ t 6 = true) (hin : ∃ W, t.In W) (hT : Tabs w0) :
    Calls Tryd.prog 27 #[.slice nb bs.length cb, .pointer (some ⟨p, 0, none⟩)] w (ValueGave p bs r t w) := by
  have HPL := Lib.hid hat.lt
  have hbz : Below w.heap.size w (w.alloc (.cells #[.int .i64 0, .int .i64 0, .string ⟨#[]⟩, .slice none 0 0, .slice none 0 0] 25)) := (Below.refl _ _).alloc (Nat.le_refl _) _
  have hkz : Kept p w (w.alloc (.cells #[.int .i64 0, .int .i64 0, .string ⟨#[]⟩, .slice none 0 0, .slice none 0 0] 25)) := Kept.of hbz
  have READ := Lib.hid (read_any t hin w0 _ p nb cb bs r 6 (hS.kept hkz) (hat.later hbz) hf (Nat.le_refl _))
  have FORM0 := Lib.hid (fun (u : AV) (hu : AV.eqv t u = true) (W3 W : World) (h3 : Kept p w W3) (hq : Kept w.heap.size W3 W) (hi : u.In W) => by
    have h := Formed_any u W hi (hT.later ((hS.old.trans (h3.below hS.place hS.old.size)).trans (hq.below hS.old.size (Nat.le_trans hS.old.size h3.size))))
    rw [← AV.formed_alike t u 6 hu, hf] at h
    exact h)
  have HKZ := Lib.hid hkz
  have HBX := Lib.hid (heap_alloc_new w (.cells #[.int .i64 0, .int .i64 0, .string ⟨#[]⟩, .slice none 0 0, .slice none 0 0] 25))
  have hzz : (w.alloc (.cells #[.int .i64 0, .int .i64 0, .string ⟨#[]⟩, .slice none 0 0, .slice none 0 0] 25)).heap.size = w.heap.size + 1 := by simp
  have HZZ := Lib.hid hzz
  clear hS hat hf hin hT hbz hkz hzz
  go_enter Tryd.func27, Tryd.ntmps27
  go_wp2_with fail
  refine (READ.out).mono ?_
  rintro e w3 ⟨u, rfl, hu, hlies, hat3, hk3⟩
  have hz3 : w.heap.size < w3.heap.size := by have := hk3.size; have := HZZ.out; omega
  have HB3 := Lib.hid ((Lib.alloc_old w3 (.cells u.row.toArray 25) _ hz3).trans (hk3.box HBX.out (by have := HPL.out; omega)))
  have HA3 := Lib.hid (hat3.later ((Below.refl _ _).alloc (Nat.le_refl _) (.cells u.row.toArray 25)))
  have HK3 := Lib.hid ((HKZ.out.trans hk3).alloc (.cells u.row.toArray 25))
  have HV3 := Lib.hid (heap_alloc_new w3 (.cells u.row.toArray 25))
  have HU := Lib.hid hu
  have hlz := HZZ.out
  have HL3 := Lib.hid ((hlies.later (w' := w3.alloc (.cells u.row.toArray 25)) fun k hC hD => Lib.alloc_old w3 _ k hD))
  have FORM := Lib.hid (fun W (hq : Kept w.heap.size (w3.alloc (.cells u.row.toArray 25)) W) => FORM0.out u hu _ W HK3.out hq ((HL3.out.later fun k hC hD => hq.block k (Nat.lt_of_lt_of_le hD (by simp)) (by omega)).here))
  have hz4 : w.heap.size < (w3.alloc (.cells u.row.toArray 25)).heap.size := by simp; omega
  have hz5 : w3.heap.size ≤ (w3.alloc (.cells u.row.toArray 25)).heap.size := by simp
  have hz6 : w.heap.size + 1 ≤ w3.heap.size := hz3
  obtain ⟨k', n', s', na', nc', ns', xa', xc', xs'⟩ := u
  simp only [AV.row] at HB3 HA3 HK3 HV3 HL3 hz4 hz5
  simp only [AV.row, AV.val] at FORM
  rw [hlz] at HL3
  clear hat3 hk3 hu hlies READ FORM0 hlz hz3
  simp only [AV.val, AV.row]
  go_upto_region 2 with fail
  generalize hW4 : w3.alloc (.cells #[.int .i64 k', .int .i64 n', .string s', .slice na' ns'.length nc', .slice xa' xs'.length xc'] 25) = W4 at *
  clear hW4
  obtain ⟨a0, a1, a2, a3, a4⟩ := box_cells HV3.out
  obtain ⟨d0, d1, d2, d3, d4⟩ := box_cells HB3.out
  obtain ⟨f0, f1, f2, f3, f4⟩ := fz5 HB3.out
  have KA := Lib.hid (Kept.refl w.heap.size W4)
  go_region_with (first
    | (go_at_call 17; (with_reducible refine (FORM.out _ KA.out).mono ?_); rintro e wq ⟨rfl, hq⟩; obtain ⟨m0, m1, m2, m3, m4⟩ := box_cells (box_later HB3.out hq); obtain ⟨q0, q1, q2, q3, q4⟩ := fz5 (box_later HB3.out hq); obtain ⟨b0, b1, b2, b3, b4⟩ := box_cells (box_later HV3.out hq); have hkq : Kept w.heap.size W4 wq := Kept.of hq; have hbq := Lib.hid (box_later HB3.out hq))
    | (go_at_call 17; (with_reducible refine (FORM.out _ KA.out.drew).mono ?_); rintro e wq ⟨rfl, hq⟩; obtain ⟨m0, m1, m2, m3, m4⟩ := box_cells (box_later (w := W4.drew) HB3.out hq); obtain ⟨q0, q1, q2, q3, q4⟩ := fz5 (box_later (w := W4.drew) HB3.out hq); obtain ⟨b0, b1, b2, b3, b4⟩ := box_cells (box_later (w := W4.drew) HV3.out hq); have hkq : Kept w.heap.size W4 wq := ⟨hq.os, hq.tape, hq.output, hq.size, fun k hk _ => hq.block k hk⟩; have hbq := Lib.hid (box_later (w := W4.drew) HB3.out hq)))
  all_goals
    go_wp2_with fail
    have hkf := hkq.five (.int .i64 k') (.int .i64 n') (.string s') (.slice na' ns'.length nc') (.slice xa' xs'.length xc')
    have hfb := five_box hbq.out (.int .i64 k') (.int .i64 n') (.string s') (.slice na' ns'.length nc') (.slice xa' xs'.length xc')
    obtain ⟨g0, g1, g2, g3, g4⟩ := box_cells hfb
    refine bodyPost_ret (v := .tuple #[.agg #[.int .i64 k', .int .i64 n', .string s', .slice na' ns'.length nc', .slice xa' xs'.length xc'], .bool true]) (by simp [results, Tryd.results27, Act.put, go_sem, g0, g1, g2, g3, g4]) rfl ?_
    exact value_end2 HA3.out HK3.out (Nat.le_refl _) HPL.out HU.out (HL3.out.later fun k hC hD => hkf.block k (by omega) (by omega)) (by omega) (Nat.le_trans hz5 hkf.size) hkf rfl
end Go.Proofs.YtcbfbmidekmboaaDoor
