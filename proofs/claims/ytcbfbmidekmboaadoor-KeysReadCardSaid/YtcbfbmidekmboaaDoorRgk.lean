/- A formed value read, whatever the bytes are: what the program's call answers; no condition of ours. -/
/- A key read: what the program's call answers where bytes begin with one; no condition of ours. -/
/- Bytes that begin with no formed value's key: what the program's Read answers; no condition of ours. -/
import Derived.Test.YtcbfbmidekmboaaDoorRgw
import Derived.Test.YtcbfbmidekmboaaDoorRdf
import Derived.RegionTactic
import Derived.BigRegion
namespace Go.Proofs.YtcbfbmidekmboaaDoor
open Go.ChangeShapes Go.WideShapes Go.Deep Go.RowKit Go.Lib

/-- What the call that reads a formed value answers. -/
def FormedSome (p : Nat) (bs b : List UInt8) (w : World) : Ending → World → Prop := fun e w' => Kept p w w' ∧ ((∃ u : AV, e = .returned (.tuple #[u.val, .bool false]) ∧ ∃ r, At p bs r w') ∨
  (∃ (u : AV) (r : List UInt8), e = .returned (.tuple #[u.val, .bool true]) ∧ b = AV.key u ++ r ∧ AV.formedJ u 6 = true ∧ At p bs r w' ∧ u.Lies w.heap.size w'.heap.size w'))

set_option maxHeartbeats 4000000 in
set_option maxRecDepth 100000 in
theorem formed_gen (w0 w : World) (p : Nat) (nb : Option Addr) (cb : Nat) (bs b : List UInt8) (hS : Src w0 p nb bs w) (hat : At p bs b w) (hT : Tabs w0) :
    Calls Tryd.prog 27 #[.slice nb bs.length cb, .pointer (some ⟨p, 0, none⟩)] w (FormedSome p bs b w) := by
  have HPL := Lib.hid hat.lt
  have hbz : Below w.heap.size w (w.alloc (.cells #[.int .i64 0, .int .i64 0, .string ⟨#[]⟩, .slice none 0 0, .slice none 0 0] 25)) := (Below.refl _ _).alloc (Nat.le_refl _) _
  have hkz : Kept p w (w.alloc (.cells #[.int .i64 0, .int .i64 0, .string ⟨#[]⟩, .slice none 0 0, .slice none 0 0] 25)) := Kept.of hbz
  have READ := Lib.hid (read_all 6 (Nat.le_refl _) w0 _ p nb cb bs b (hS.kept hkz) (hat.later hbz))
  have FORM0 := Lib.hid (fun (u : AV) (W3 W : World) (h3 : Kept p w W3) (hq : Kept w.heap.size W3 W) (hi : u.In W) =>
    Formed_any u W hi (hT.later ((hS.old.trans (h3.below hS.place hS.old.size)).trans (hq.below hS.old.size (Nat.le_trans hS.old.size h3.size)))))
  have HKZ := Lib.hid hkz
  have HBX := Lib.hid (heap_alloc_new w (.cells #[.int .i64 0, .int .i64 0, .string ⟨#[]⟩, .slice none 0 0, .slice none 0 0] 25))
  have hzz : (w.alloc (.cells #[.int .i64 0, .int .i64 0, .string ⟨#[]⟩, .slice none 0 0, .slice none 0 0] 25)).heap.size = w.heap.size + 1 := by simp
  have HZZ := Lib.hid hzz
  clear hS hat hT hbz hkz hzz
  go_enter Tryd.func27, Tryd.ntmps27
  go_wp2_with fail
  refine (READ.out).mono ?_
  rintro e w3 ⟨hk3, hcase⟩
  rcases hcase with ⟨u, rfl, r3, hat3⟩ | ⟨u, r3, rfl, hkey, hat3, hlies⟩
  · have hz3 : w.heap.size < w3.heap.size := by have := hk3.size; have := HZZ.out; omega
    have HB3 := Lib.hid ((Lib.alloc_old w3 (.cells u.row.toArray 25) _ hz3).trans (hk3.box HBX.out (by have := HPL.out; omega)))
    have HA3 := Lib.hid (hat3.later ((Below.refl _ _).alloc (Nat.le_refl _) (.cells u.row.toArray 25)))
    have HK3 := Lib.hid ((HKZ.out.trans hk3).alloc (.cells u.row.toArray 25))
    have HV3 := Lib.hid (heap_alloc_new w3 (.cells u.row.toArray 25))
    have hlz := HZZ.out
    have hz4 : w.heap.size < (w3.alloc (.cells u.row.toArray 25)).heap.size := by simp; omega
    have hz5 : w3.heap.size ≤ (w3.alloc (.cells u.row.toArray 25)).heap.size := by simp
    have hz6 : w.heap.size + 1 ≤ w3.heap.size := hz3
    obtain ⟨k', n', s', na', nc', ns', xa', xc', xs'⟩ := u
    simp only [AV.row] at HB3 HA3 HK3 HV3 hz4 hz5
    clear hat3 hk3 READ FORM0 hlz hz3
    simp only [AV.val, AV.row]
    go_upto_region 2 with fail
    generalize hW4 : w3.alloc (.cells #[.int .i64 k', .int .i64 n', .string s', .slice na' ns'.length nc', .slice xa' xs'.length xc'] 25) = W4 at *
    clear hW4
    obtain ⟨a0, a1, a2, a3, a4⟩ := box_cells HV3.out
    obtain ⟨d0, d1, d2, d3, d4⟩ := box_cells HB3.out
    obtain ⟨f0, f1, f2, f3, f4⟩ := fz5 HB3.out
    go_region
    all_goals
      have hkf := ((Kept.refl w.heap.size W4).five (.int .i64 k') (.int .i64 n') (.string s') (.slice na' ns'.length nc') (.slice xa' xs'.length xc')).drew
      have hpl := HPL.out
      have hfb : (((((W4.setCell ⟨w.heap.size, 0, none⟩ (.int .i64 k')).setCell ⟨w.heap.size, 1, none⟩ (.int .i64 n')).setCell ⟨w.heap.size, 2, none⟩ (.string s')).setCell ⟨w.heap.size, 3, none⟩ (.slice na' ns'.length nc')).setCell ⟨w.heap.size, 4, none⟩ (.slice xa' xs'.length xc')).drew.heap[w.heap.size]? = some (.cells #[.int .i64 k', .int .i64 n', .string s', .slice na' ns'.length nc', .slice xa' xs'.length xc'] 25 (0, 0)) := five_box HB3.out (.int .i64 k') (.int .i64 n') (.string s') (.slice na' ns'.length nc') (.slice xa' xs'.length xc')
      obtain ⟨g0, g1, g2, g3, g4⟩ := box_cells hfb
      go_wp2_with fail
      refine bodyPost_ret (v := .tuple #[.agg #[.int .i64 k', .int .i64 n', .string s', .slice na' ns'.length nc', .slice xa' xs'.length xc'], .bool false]) (by simp [results, Tryd.results27, go_sem, g0, g1, g2, g3, g4]) rfl ⟨HK3.out.fresh hkf (Nat.le_refl _), .inl ⟨AV.mk k' n' s' na' nc' ns' xa' xc' xs', rfl, _, HA3.out.other hkf (by omega)⟩⟩
  · have hz3 : w.heap.size < w3.heap.size := by have := hk3.size; have := HZZ.out; omega
    have HB3 := Lib.hid ((Lib.alloc_old w3 (.cells u.row.toArray 25) _ hz3).trans (hk3.box HBX.out (by have := HPL.out; omega)))
    have HA3 := Lib.hid (hat3.later ((Below.refl _ _).alloc (Nat.le_refl _) (.cells u.row.toArray 25)))
    have HK3 := Lib.hid ((HKZ.out.trans hk3).alloc (.cells u.row.toArray 25))
    have HV3 := Lib.hid (heap_alloc_new w3 (.cells u.row.toArray 25))
    have hlz := HZZ.out
    have hz4 : w.heap.size < (w3.alloc (.cells u.row.toArray 25)).heap.size := by simp; omega
    have hz5 : w3.heap.size ≤ (w3.alloc (.cells u.row.toArray 25)).heap.size := by simp
    have hz6 : w.heap.size + 1 ≤ w3.heap.size := hz3
    have HKEY := Lib.hid hkey
    have HL3 := Lib.hid ((hlies.later (w' := w3.alloc (.cells u.row.toArray 25)) fun k hC hD => Lib.alloc_old w3 _ k hD))
    have FORM := Lib.hid (fun W (hq : Kept w.heap.size (w3.alloc (.cells u.row.toArray 25)) W) => FORM0.out u _ W HK3.out hq ((HL3.out.later fun k hC hD => hq.block k (Nat.lt_of_lt_of_le hD (by simp)) (by omega)).here))
    obtain ⟨F, hF⟩ : ∃ F, AV.formedJ u 6 = F := ⟨_, rfl⟩
    simp only [hF] at FORM
    have HF := Lib.hid hF
    obtain ⟨k', n', s', na', nc', ns', xa', xc', xs'⟩ := u
    simp only [AV.row] at HB3 HA3 HK3 HV3 HL3 hz4 hz5
    simp only [AV.row, AV.val] at FORM
    rw [hlz] at HL3
    clear hat3 hk3 hlies hkey READ FORM0 hlz hz3 hF
    simp only [AV.val, AV.row]
    go_upto_region 2 with fail
    generalize hW4 : w3.alloc (.cells #[.int .i64 k', .int .i64 n', .string s', .slice na' ns'.length nc', .slice xa' xs'.length xc'] 25) = W4 at *
    clear hW4
    obtain ⟨a0, a1, a2, a3, a4⟩ := box_cells HV3.out
    obtain ⟨d0, d1, d2, d3, d4⟩ := box_cells HB3.out
    obtain ⟨f0, f1, f2, f3, f4⟩ := fz5 HB3.out
    have KA := Lib.hid (Kept.refl w.heap.size W4)
    go_region_with (first
      | (go_at_call 17; (with_reducible refine (FORM.out _ KA.out).mono ?_); rintro e wq ⟨rfl, hq⟩; obtain ⟨m0, m1, m2, m3, m4⟩ := box_cells (box_later HB3.out hq); obtain ⟨q0, q1, q2, q3, q4⟩ := fz5 (box_later HB3.out hq); obtain ⟨b0, b1, b2, b3, b4⟩ := box_cells (box_later HV3.out hq); have hkq : Kept w.heap.size W4 wq := Kept.of hq; have hbq := Lib.hid (box_later HB3.out hq))
      | (go_at_call 17; (with_reducible refine (FORM.out _ KA.out.drew).mono ?_); rintro e wq ⟨rfl, hq⟩; obtain ⟨m0, m1, m2, m3, m4⟩ := box_cells (box_later (w := W4.drew) HB3.out hq); obtain ⟨q0, q1, q2, q3, q4⟩ := fz5 (box_later (w := W4.drew) HB3.out hq); obtain ⟨b0, b1, b2, b3, b4⟩ := box_cells (box_later (w := W4.drew) HV3.out hq); have hkq : Kept w.heap.size W4 wq := ⟨hq.os, hq.tape, hq.output, hq.size, fun k hk _ => hq.block k hk⟩; have hbq := Lib.hid (box_later (w := W4.drew) HB3.out hq)))
    all_goals
      go_wp2_with fail
      have hkf := hkq.five (.int .i64 k') (.int .i64 n') (.string s') (.slice na' ns'.length nc') (.slice xa' xs'.length xc')
      have hfb := five_box hbq.out (.int .i64 k') (.int .i64 n') (.string s') (.slice na' ns'.length nc') (.slice xa' xs'.length xc')
      have hpl := HPL.out
      obtain ⟨g0, g1, g2, g3, g4⟩ := box_cells hfb
      refine bodyPost_ret (v := .tuple #[.agg #[.int .i64 k', .int .i64 n', .string s', .slice na' ns'.length nc', .slice xa' xs'.length xc'], .bool F]) (by simp [results, Tryd.results27, Act.put, go_sem, g0, g1, g2, g3, g4]) rfl ⟨HK3.out.fresh hkf (Nat.le_refl _), ?_⟩
      cases F
      · exact .inl ⟨AV.mk k' n' s' na' nc' ns' xa' xc' xs', rfl, _, HA3.out.other hkf (by omega)⟩
      · exact .inr ⟨AV.mk k' n' s' na' nc' ns' xa' xc' xs', r3, rfl, HKEY.out, HF.out, HA3.out.other hkf (by omega), ((HL3.out.later fun k hC hD => hkf.block k (by omega) (by omega)).wider (by omega) (Nat.le_trans hz5 hkf.size))⟩
end Go.Proofs.YtcbfbmidekmboaaDoor

namespace Go.Proofs.YtcbfbmidekmboaaDoor
open Go.ChangeShapes Go.WideShapes Go.Deep Go.RowKit Go.Lib

theorem two_boxes (w : World) (cs : Array Value) (o : Obj) : ((w.alloc (.cells cs 25)).alloc o).heap[w.heap.size]? = some (.cells cs 25 (0, 0)) := by
  rw [Lib.alloc_old _ _ _ (by simp)]; exact heap_alloc_new w _

/-- What Read answers: the value, how many bytes, and that all is well. -/
def ReadGave (t : AV) (w : World) : Ending → World → Prop := fun e w' => ∃ u : AV, e = .returned (.tuple #[u.val, .int .i64 ((AV.key t).length : Int), .int .i64 0]) ∧ AV.eqv t u = true ∧ u.In w' ∧ Below w.heap.size w w'

set_option maxHeartbeats 4000000 in
set_option maxRecDepth 100000 in
theorem Read_any (w : World) (nb : Option Addr) (cb : Nat) (bs r : List UInt8) (t : AV) (hbs : bs = AV.key t ++ r) (hby : BytesIn w nb bs) (hlen : bs.length ≤ 9223372036854775807) (hf : AV.formedJ t 6 = true) (hin : ∃ W, t.In W) (hT : Tabs w) :
    Calls Tryd.prog 14 #[.slice nb bs.length cb] w (ReadGave t w) := by
  have hb2 : Below w.heap.size w ((w.alloc (.cells #[.int .i64 0, .int .i64 0, .string ⟨#[]⟩, .slice none 0 0, .slice none 0 0] 25)).alloc (.cells #[.int .i64 0] 3)) := two_below w _ _
  have hp1 : ((w.alloc (.cells #[.int .i64 0, .int .i64 0, .string ⟨#[]⟩, .slice none 0 0, .slice none 0 0] 25)).alloc (.cells #[.int .i64 0] 3)).heap[w.heap.size + 1]? = some (.cells #[.int .i64 0] 3 (0, 0)) := by
    have := heap_alloc_new (w.alloc (.cells #[.int .i64 0, .int .i64 0, .string ⟨#[]⟩, .slice none 0 0, .slice none 0 0] 25)) (.cells #[.int .i64 0] 3)
    rw [show (w.alloc (.cells #[.int .i64 0, .int .i64 0, .string ⟨#[]⟩, .slice none 0 0, .slice none 0 0] 25)).heap.size = w.heap.size + 1 by simp] at this
    exact this
  have hat : At (w.heap.size + 1) bs (AV.key t ++ r) ((w.alloc (.cells #[.int .i64 0, .int .i64 0, .string ⟨#[]⟩, .slice none 0 0, .slice none 0 0] 25)).alloc (.cells #[.int .i64 0] 3)) := ⟨0, Nat.zero_le _, by rw [List.drop_zero, hbs], hp1⟩
  have hS : Src w (w.heap.size + 1) nb bs ((w.alloc (.cells #[.int .i64 0, .int .i64 0, .string ⟨#[]⟩, .slice none 0 0, .slice none 0 0] 25)).alloc (.cells #[.int .i64 0] 3)) := ⟨hby, hb2, by omega, hlen⟩
  have CALL := Lib.hid (readFormed_any w _ (w.heap.size + 1) nb cb bs r t hS hat hf hin hT)
  have hq1 : ((w.alloc (.cells #[.int .i64 0, .int .i64 0, .string ⟨#[]⟩, .slice none 0 0, .slice none 0 0] 25)).alloc (.cells #[.int .i64 0] 3)).heap[w.heap.size]? = some (.cells #[.int .i64 0, .int .i64 0, .string ⟨#[]⟩, .slice none 0 0, .slice none 0 0] 25 (0, 0)) := two_boxes w _ _
  have HQ1 := Lib.hid hq1
  have HB2 := Lib.hid hb2
  have hz : ((w.alloc (.cells #[.int .i64 0, .int .i64 0, .string ⟨#[]⟩, .slice none 0 0, .slice none 0 0] 25)).alloc (.cells #[.int .i64 0] 3)).heap.size = w.heap.size + 2 := by simp
  have HZ := Lib.hid hz
  have hln : bs.length = (AV.key t).length + r.length := by rw [hbs, List.length_append]
  have HLN := Lib.hid hln
  clear hq1 hb2 hS hat hp1 hby hf hin hT hz hln hbs
  go_enter Tryd.func14, Tryd.ntmps14
  go_wp2_with fail
  refine (CALL.out).mono ?_
  rintro e w3 ⟨u, rfl, hu, hlies, hat3, hk3⟩
  obtain ⟨a, ha, hd, hbox⟩ := hat3
  have hal : a = (AV.key t).length := by
    have h1 := congrArg List.length hd
    rw [List.length_drop] at h1
    have := HLN.out
    omega
  subst hal
  have hz := HZ.out
  have hk3s := hk3.size
  have hz3 : w.heap.size + 1 < w3.heap.size := by omega
  have hz4 : w3.heap.size ≤ (w3.alloc (.cells u.row.toArray 25)).heap.size := by simp
  have HB3 := Lib.hid ((Lib.alloc_old w3 (.cells u.row.toArray 25) _ (by omega)).trans (hk3.box HQ1.out (by omega)))
  have HP3 := Lib.hid ((Lib.alloc_old w3 (.cells u.row.toArray 25) _ hz3).trans hbox)
  have HV3 := Lib.hid (heap_alloc_new w3 (.cells u.row.toArray 25))
  have HU := Lib.hid hu
  have HL3 := Lib.hid (hlies.later (w' := w3.alloc (.cells u.row.toArray 25)) fun k hC hD => Lib.alloc_old w3 _ k hD)
  have HK3 := Lib.hid (((hk3.below (B := w.heap.size) (by omega) (by omega)).alloc (by omega) (.cells u.row.toArray 25)))
  rw [hz] at HL3
  obtain ⟨k', n', s', na', nc', ns', xa', xc', xs'⟩ := u
  simp only [AV.row] at HB3 HP3 HV3 HL3 HK3 hz4
  clear hu hlies hk3 hbox hd ha hz hk3s
  simp only [AV.val, AV.row]
  go_upto_region 5 with fail
  generalize hW4 : w3.alloc (.cells #[.int .i64 k', .int .i64 n', .string s', .slice na' ns'.length nc', .slice xa' xs'.length xc'] 25) = W4 at *
  clear hW4
  obtain ⟨a0, a1, a2, a3, a4⟩ := box_cells HV3.out
  obtain ⟨d0, d1, d2, d3, d4⟩ := box_cells HB3.out
  obtain ⟨f0, f1, f2, f3, f4⟩ := fz5 HB3.out
  obtain ⟨c0, -⟩ := place_cell HP3.out
  go_region
  have hkf := ((Kept.refl w.heap.size W4).five (.int .i64 k') (.int .i64 n') (.string s') (.slice na' ns'.length nc') (.slice xa' xs'.length xc')).drew
  have hfb : (((((W4.setCell ⟨w.heap.size, 0, none⟩ (.int .i64 k')).setCell ⟨w.heap.size, 1, none⟩ (.int .i64 n')).setCell ⟨w.heap.size, 2, none⟩ (.string s')).setCell ⟨w.heap.size, 3, none⟩ (.slice na' ns'.length nc')).setCell ⟨w.heap.size, 4, none⟩ (.slice xa' xs'.length xc')).drew.heap[w.heap.size]? = some (.cells #[.int .i64 k', .int .i64 n', .string s', .slice na' ns'.length nc', .slice xa' xs'.length xc'] 25 (0, 0)) := five_box HB3.out (.int .i64 k') (.int .i64 n') (.string s') (.slice na' ns'.length nc') (.slice xa' xs'.length xc')
  obtain ⟨g0, g1, g2, g3, g4⟩ := box_cells hfb
  have HBF := Lib.hid (HB2.out.trans (HK3.out.trans (hkf.below (Nat.le_refl _) (by omega))))
  have HIN := Lib.hid ((HL3.out.later fun k hC hD => hkf.block k (by omega) (by omega)).here)
  clear hkf hfb a0 a1 a2 a3 a4 d0 d1 d2 d3 d4 f0 f1 f2 f3 f4 c0
  go_wp2_with fail
  refine bodyPost_ret (v := .tuple #[.agg #[.int .i64 k', .int .i64 n', .string s', .slice na' ns'.length nc', .slice xa' xs'.length xc'], .int .i64 ((AV.key t).length : Int), .int .i64 0]) (by simp [results, Tryd.results14, go_sem, g0, g1, g2, g3, g4]) rfl ⟨_, rfl, HU.out, HIN.out, HBF.out⟩
end Go.Proofs.YtcbfbmidekmboaaDoor

namespace Go.Proofs.YtcbfbmidekmboaaDoor
open Go.ChangeShapes Go.WideShapes Go.Deep Go.RowKit Go.Lib

set_option maxHeartbeats 4000000 in
set_option maxRecDepth 100000 in
theorem Read_no (w : World) (nb : Option Addr) (cb : Nat) (bs : List UInt8) (hno : ∀ (u : AV) (r : List UInt8), AV.formedJ u 6 = true → (∃ W, u.In W) → bs ≠ AV.key u ++ r) (hby : BytesIn w nb bs) (hlen : bs.length ≤ 9223372036854775807) (hT : Tabs w) :
    Calls Tryd.prog 14 #[.slice nb bs.length cb] w (fun e w' => e = .returned (.tuple #[(AV.num 0 0).val, .int .i64 0, .int .i64 11]) ∧ Below w.heap.size w w') := by
  have hb2 : Below w.heap.size w ((w.alloc (.cells #[.int .i64 0, .int .i64 0, .string ⟨#[]⟩, .slice none 0 0, .slice none 0 0] 25)).alloc (.cells #[.int .i64 0] 3)) := two_below w _ _
  have hp1 : ((w.alloc (.cells #[.int .i64 0, .int .i64 0, .string ⟨#[]⟩, .slice none 0 0, .slice none 0 0] 25)).alloc (.cells #[.int .i64 0] 3)).heap[w.heap.size + 1]? = some (.cells #[.int .i64 0] 3 (0, 0)) := by
    have := heap_alloc_new (w.alloc (.cells #[.int .i64 0, .int .i64 0, .string ⟨#[]⟩, .slice none 0 0, .slice none 0 0] 25)) (.cells #[.int .i64 0] 3)
    rw [show (w.alloc (.cells #[.int .i64 0, .int .i64 0, .string ⟨#[]⟩, .slice none 0 0, .slice none 0 0] 25)).heap.size = w.heap.size + 1 by simp] at this
    exact this
  have hat : At (w.heap.size + 1) bs bs ((w.alloc (.cells #[.int .i64 0, .int .i64 0, .string ⟨#[]⟩, .slice none 0 0, .slice none 0 0] 25)).alloc (.cells #[.int .i64 0] 3)) := ⟨0, Nat.zero_le _, by rw [List.drop_zero], hp1⟩
  have hS : Src w (w.heap.size + 1) nb bs ((w.alloc (.cells #[.int .i64 0, .int .i64 0, .string ⟨#[]⟩, .slice none 0 0, .slice none 0 0] 25)).alloc (.cells #[.int .i64 0] 3)) := ⟨hby, hb2, by omega, hlen⟩
  have CALL := Lib.hid (formed_gen w _ (w.heap.size + 1) nb cb bs bs hS hat hT)
  have hq1 : ((w.alloc (.cells #[.int .i64 0, .int .i64 0, .string ⟨#[]⟩, .slice none 0 0, .slice none 0 0] 25)).alloc (.cells #[.int .i64 0] 3)).heap[w.heap.size]? = some (.cells #[.int .i64 0, .int .i64 0, .string ⟨#[]⟩, .slice none 0 0, .slice none 0 0] 25 (0, 0)) := two_boxes w _ _
  have HQ1 := Lib.hid hq1
  have HB2 := Lib.hid hb2
  have hz : ((w.alloc (.cells #[.int .i64 0, .int .i64 0, .string ⟨#[]⟩, .slice none 0 0, .slice none 0 0] 25)).alloc (.cells #[.int .i64 0] 3)).heap.size = w.heap.size + 2 := by simp
  have HZ := Lib.hid hz
  have HNO := Lib.hid hno
  clear hq1 hb2 hS hat hp1 hby hT hz hno
  go_enter Tryd.func14, Tryd.ntmps14
  go_wp2_with fail
  refine (CALL.out).mono ?_
  rintro e w3 ⟨hk3, hcase⟩
  rcases hcase with ⟨u, rfl, r3, hat3⟩ | ⟨u, r3, rfl, hkey, hfu, _, hlies⟩
  rotate_left
  · exact absurd hkey (HNO.out u r3 hfu ⟨_, hlies.here⟩)
  have hz := HZ.out
  have hk3s := hk3.size
  have hz3 : w.heap.size < w3.heap.size := by omega
  have HB3 := Lib.hid (hk3.box HQ1.out (by omega))
  have HK3 := Lib.hid (HB2.out.trans (hk3.below (B := w.heap.size) (by omega) (by omega)))
  obtain ⟨k', n', s', na', nc', ns', xa', xc', xs'⟩ := u
  obtain ⟨d0, d1, d2, d3, d4⟩ := box_cells HB3.out
  obtain ⟨f0, f1, f2, f3, f4⟩ := fz5 HB3.out
  clear hk3 hat3 hz hk3s
  simp only [AV.val, AV.row]
  go_wp2_with fail
  have hkf := ((Kept.refl w.heap.size w3).five (.int .i64 0) (.int .i64 0) (.string ⟨#[]⟩) (.slice none 0 0) (.slice none 0 0)).alloc (.cells #[.int .i64 k', .int .i64 n', .string s', .slice na' ns'.length nc', .slice xa' xs'.length xc'] 25)
  have hfb : ((((((w3.setCell ⟨w.heap.size, 0, none⟩ (.int .i64 0)).setCell ⟨w.heap.size, 1, none⟩ (.int .i64 0)).setCell ⟨w.heap.size, 2, none⟩ (.string ⟨#[]⟩)).setCell ⟨w.heap.size, 3, none⟩ (.slice none 0 0)).setCell ⟨w.heap.size, 4, none⟩ (.slice none 0 0)).alloc (.cells #[.int .i64 k', .int .i64 n', .string s', .slice na' ns'.length nc', .slice xa' xs'.length xc'] 25)).heap[w.heap.size]? = some (.cells #[.int .i64 0, .int .i64 0, .string ⟨#[]⟩, .slice none 0 0, .slice none 0 0] 25 (0, 0)) := (Lib.alloc_old _ _ _ (by simp [World.setCell]; omega)).trans (five_box HB3.out (.int .i64 0) (.int .i64 0) (.string ⟨#[]⟩) (.slice none 0 0) (.slice none 0 0))
  obtain ⟨g0, g1, g2, g3, g4⟩ := box_cells hfb
  refine bodyPost_ret (v := .tuple #[.agg #[.int .i64 0, .int .i64 0, .string ⟨#[]⟩, .slice none 0 0, .slice none 0 0], .int .i64 0, .int .i64 11]) (by simp [results, Tryd.results14, go_sem, g0, g1, g2, g3, g4]) rfl ⟨rfl, HK3.out.trans (hkf.below (Nat.le_refl _) (by omega))⟩
end Go.Proofs.YtcbfbmidekmboaaDoor
