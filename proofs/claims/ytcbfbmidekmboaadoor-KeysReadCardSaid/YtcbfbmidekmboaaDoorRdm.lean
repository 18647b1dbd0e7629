/- A member of an object read: what the program's call answers where there is one; no condition of ours. -/
import Derived.Test.YtcbfbmidekmboaaDoorGrow
import Derived.RegionTactic
import Derived.BigRegion
namespace Go.Proofs.YtcbfbmidekmboaaDoor
open Go.ChangeShapes Go.WideShapes Go.Deep Go.RowKit Go.Lib

set_option maxHeartbeats 4000000 in
set_option maxRecDepth 100000 in
theorem readMember_any (w0 w : World) (p : Nat) (nb : Option Addr) (cb : Nat) (bs r : List UInt8) (y : ByteArray) (t : AV) (lv : Nat) (hS : Src w0 p nb bs w) (hat : At p bs (1 :: (textL y.data.toList ++ (AV.key t ++ r))) w) (hy : y.size ≤ 60) (hf : AV.formedJ t lv = true) (hlv : lv ≤ 6) (IH : RdAt t) :
    Calls Tryd.prog 66 #[.slice nb bs.length cb, .pointer (some ⟨p, 0, none⟩), .int .i64 (lv : Int)] w (MemberGave p bs r y t w) := by
  have HPL := Lib.hid hat.lt
  have hbz : Below w.heap.size w (w.alloc (.cells #[.int .i64 0, .int .i64 0, .string ⟨#[]⟩, .slice none 0 0, .slice none 0 0] 25)) := (Below.refl _ _).alloc (Nat.le_refl _) _
  have hkz : Kept p w (w.alloc (.cells #[.int .i64 0, .int .i64 0, .string ⟨#[]⟩, .slice none 0 0, .slice none 0 0] 25)) := Kept.of hbz
  have NEXT := Lib.hid (next_any w0 _ p nb cb bs 1 _ (hS.kept hkz) (hat.later hbz))
  have TEXT := Lib.hid (fun W (h1 : Kept p w W) (h2 : At p bs (textL y.data.toList ++ (AV.key t ++ r)) W) => readText_any w0 W p nb cb bs _ y hy (hS.kept h1) h2)
  have CALL := Lib.hid (fun W (h1 : Kept p w W) (h2 : At p bs (AV.key t ++ r) W) => IH w0 W p nb cb bs _ lv (hS.kept h1) h2 hf hlv)
  have HKZ := Lib.hid hkz
  have HBX := Lib.hid (heap_alloc_new w (.cells #[.int .i64 0, .int .i64 0, .string ⟨#[]⟩, .slice none 0 0, .slice none 0 0] 25))
  have e1 : (((1 : UInt8).toNat : Nat) : Int) = 1 := rfl
  simp only [e1] at NEXT
  clear hS hat hy hf hlv IH hbz hkz e1
  go_enter Tryd.func66, Tryd.ntmps66
  go_wp2_with fail
  refine (NEXT.out).mono ?_
  rintro e w1 ⟨rfl, hat1, hk1⟩
  have HA1 := Lib.hid hat1
  have HB1 := Lib.hid (hk1.box HBX.out (by have := HPL.out; omega))
  have HK1 := Lib.hid (HKZ.out.trans hk1)
  clear hat1 hk1
  go_wp2_with fail
  refine (TEXT.out w1 HK1.out HA1.out).mono ?_
  rintro e w2 ⟨rfl, hat2, hk2⟩
  have HA2 := Lib.hid hat2
  have HB2 := Lib.hid (hk2.box HB1.out (by have := HPL.out; omega))
  have HK2 := Lib.hid (HK1.out.trans hk2)
  clear hat2 hk2
  go_wp2_with fail
  refine (CALL.out w2 HK2.out HA2.out).mono ?_
  rintro e w3 ⟨u, rfl, hu, hlies, hat3, hk3⟩
  have HA3 := Lib.hid hat3
  have HB3 := Lib.hid (hk3.box HB2.out (by have := HPL.out; omega))
  have HK3 := Lib.hid (HK2.out.trans hk3)
  have HU := Lib.hid hu
  have HL := Lib.hid hlies
  have hz2 : w.heap.size < w2.heap.size := (Array.getElem?_eq_some_iff.1 HB2.out).1
  have hz3 : w.heap.size < w3.heap.size := (Array.getElem?_eq_some_iff.1 HB3.out).1
  obtain ⟨k', n', s', na', nc', ns', xa', xc', xs'⟩ := u
  obtain ⟨d0, d1, d2, d3, d4⟩ := box_cells HB3.out
  obtain ⟨f0, f1, f2, f3, f4⟩ := fz5 HB3.out
  clear hat3 hk3 hu hlies
  simp only [AV.val, AV.row]
  go_wp2_with fail
  go_region
  have hkf := (((Kept.refl w.heap.size w3).five (.int .i64 k') (.int .i64 n') (.string s') (.slice na' ns'.length nc') (.slice xa' xs'.length xc')).alloc (.cells #[.int .i64 k', .int .i64 n', .string s', .slice na' ns'.length nc', .slice xa' xs'.length xc'] 25)).drew
  have hpl := HPL.out
  have HAF := Lib.hid (HA3.out.other hkf (by omega))
  have HKF := Lib.hid (HK3.out.fresh hkf (Nat.le_refl _))
  have HLF := Lib.hid ((HL.out.later (w' := _) fun k hC hD => hkf.block k hD (by omega)).wider (C' := w.heap.size) (D' := _) (by omega) hkf.size)
  have hfb : ((((((w3.setCell ⟨w.heap.size, 0, none⟩ (.int .i64 k')).setCell ⟨w.heap.size, 1, none⟩ (.int .i64 n')).setCell ⟨w.heap.size, 2, none⟩ (.string s')).setCell ⟨w.heap.size, 3, none⟩ (.slice na' ns'.length nc')).setCell ⟨w.heap.size, 4, none⟩ (.slice xa' xs'.length xc')).alloc (.cells #[.int .i64 k', .int .i64 n', .string s', .slice na' ns'.length nc', .slice xa' xs'.length xc'] 25)).drew.heap[w.heap.size]? = _ :=
    ((Lib.alloc_old _ _ _ (by simp [World.setCell]; omega)).trans (five_box HB3.out (.int .i64 k') (.int .i64 n') (.string s') (.slice na' ns'.length nc') (.slice xa' xs'.length xc')))
  obtain ⟨g0, g1, g2, g3, g4⟩ := box_cells hfb
  clear hkf hpl hfb
  go_wp2_with fail
  refine bodyPost_ret (v := .tuple #[.string y, .agg #[.int .i64 k', .int .i64 n', .string s', .slice na' ns'.length nc', .slice xa' xs'.length xc'], .bool true]) (by simp [results, Tryd.results66, go_sem, g0, g1, g2, g3, g4]) rfl ⟨_, rfl, HU.out, HLF.out, HAF.out, HKF.out⟩
end Go.Proofs.YtcbfbmidekmboaaDoor
