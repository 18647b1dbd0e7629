/- A value read, whatever the bytes are: what the program's call answers, at any level; no condition of ours. -/
import Derived.Test.YtcbfbmidekmboaaDoorRgv
import Derived.Test.YtcbfbmidekmboaaDoorRgo
import Derived.Test.YtcbfbmidekmboaaDoorRdvo
namespace Go.Proofs.YtcbfbmidekmboaaDoor
open Go.ChangeShapes Go.WideShapes Go.Deep Go.RowKit Go.Lib

set_option maxHeartbeats 4000000 in
set_option maxRecDepth 100000 in
theorem value_short (w0 w : World) (p : Nat) (nb : Option Addr) (cb : Nat) (bs b : List UInt8) (lv : Nat) (hlv : 0 < lv) (hlv6 : lv ≤ 6) (hb8 : b.length < 8) (hS : Src w0 p nb bs w) (hat : At p bs (4 :: b) w) :
    Calls Tryd.prog 42 #[.slice nb bs.length cb, .pointer (some ⟨p, 0, none⟩), .int .i64 (lv : Int)] w (ValueSome p bs (4 :: b) w) := by
  have HPL := Lib.hid hat.lt
  have hbz : Below w.heap.size w (w.alloc (.cells #[.int .i64 0, .int .i64 0, .string ⟨#[]⟩, .slice none 0 0, .slice none 0 0] 25)) := (Below.refl _ _).alloc (Nat.le_refl _) _
  have hkz : Kept p w (w.alloc (.cells #[.int .i64 0, .int .i64 0, .string ⟨#[]⟩, .slice none 0 0, .slice none 0 0] 25)) := Kept.of hbz
  have NEXT := Lib.hid (next_any w0 _ p nb cb bs 4 _ (hS.kept hkz) (hat.later hbz))
  have NUM := Lib.hid (fun W (h1 : Kept p w W) (h2 : At p bs b W) => readNumber_short w0 W p nb cb bs b hb8 (hS.kept h1) h2)
  have ew : IntKind.i64.wrap (IntKind.u64.wrap (-9223372036854775808)) = -9223372036854775808 := by decide
  have HKZ := Lib.hid hkz
  have HBX := Lib.hid (heap_alloc_new w (.cells #[.int .i64 0, .int .i64 0, .string ⟨#[]⟩, .slice none 0 0, .slice none 0 0] 25))
  have e0 : ((lv : Int) == 0) = false := by rw [beq_eq_false_iff_ne]; omega
  have hlv' : ¬ (lv : Int) = 0 := by omega
  simp only [show (((4 : UInt8).toNat : Nat) : Int) = 4 from rfl] at NEXT
  clear hS hat hlv hbz hkz hlv6 hb8
  go_enter Tryd.func42, Tryd.ntmps42
  go_wp2_with fail
  refine (NEXT.out).mono ?_
  rintro e w1 ⟨rfl, hat1, hk1⟩
  have HA1 := Lib.hid (hat1.later ((Below.refl _ _).alloc (Nat.le_refl _) (.cells #[.int .i64 3, .int .i64 0, .string ⟨#[]⟩, .slice none 0 0, .slice none 0 0] 25)))
  have HB1 := Lib.hid (hk1.box HBX.out (by have := HPL.out; omega))
  have HK1 := Lib.hid ((HKZ.out.trans hk1).alloc (.cells #[.int .i64 3, .int .i64 0, .string ⟨#[]⟩, .slice none 0 0, .slice none 0 0] 25))
  have hz1 : w.heap.size < w1.heap.size := (Array.getElem?_eq_some_iff.1 HB1.out).1
  have HV1 := Lib.hid (heap_alloc_new w1 (.cells #[.int .i64 3, .int .i64 0, .string ⟨#[]⟩, .slice none 0 0, .slice none 0 0] 25))
  have HB1' := Lib.hid ((Lib.alloc_old w1 (.cells #[.int .i64 3, .int .i64 0, .string ⟨#[]⟩, .slice none 0 0, .slice none 0 0] 25) _ hz1).trans HB1.out)
  have hzz : (w1.alloc (.cells #[.int .i64 3, .int .i64 0, .string ⟨#[]⟩, .slice none 0 0, .slice none 0 0] 25)).heap.size = w1.heap.size + 1 := by simp
  have HZZ := Lib.hid hzz
  clear hat1 hk1 HB1 hzz
  go_wp2_with fail
  refine (NUM.out _ HK1.out HA1.out).mono ?_
  rintro e w2 ⟨rfl, ⟨r2, hat2⟩, hk2⟩
  have HA2 := Lib.hid hat2
  have HB2 := Lib.hid (hk2.box HB1'.out (by have := HPL.out; omega))
  have HV2 := Lib.hid (hk2.box HV1.out (by have := HPL.out; omega))
  have HK2 := Lib.hid (HK1.out.trans hk2)
  obtain ⟨d0, d1, d2, d3, d4⟩ := box_cells HB2.out
  obtain ⟨f0, f1, f2, f3, f4⟩ := fz5 HB2.out
  obtain ⟨a0, a1, a2, a3, a4⟩ := box_cells HV2.out
  obtain ⟨b0, b1, b2, b3, b4⟩ := fz5 HV2.out
  clear hat2 hk2
  go_wp2_with fail
  have hk3 := (Kept.refl w1.heap.size w2).setAt 1 (.int .i64 (-9223372036854775808))
  have hpl := HPL.out
  have HA3 := Lib.hid (HA2.out.other hk3 (by omega))
  have HK3 := Lib.hid (HK2.out.fresh hk3 (by omega))
  have HB3 := Lib.hid (hk3.box HB2.out (by omega))
  have hkf := (Kept.refl w.heap.size (w2.setCell ⟨w1.heap.size, 1, none⟩ (.int .i64 (-9223372036854775808)))).five (.int .i64 3) (.int .i64 (-9223372036854775808)) (.string ⟨#[]⟩) (.slice none 0 0) (.slice none 0 0)
  have hfb := five_box HB3.out (.int .i64 3) (.int .i64 (-9223372036854775808)) (.string ⟨#[]⟩) (.slice none 0 0) (.slice none 0 0)
  obtain ⟨g0, g1, g2, g3, g4⟩ := box_cells hfb
  refine bodyPost_ret (v := .tuple #[.agg #[.int .i64 3, .int .i64 (-9223372036854775808), .string ⟨#[]⟩, .slice none 0 0, .slice none 0 0], .bool false]) (by simp [results, Tryd.results42, go_sem, g0, g1, g2, g3, g4]) rfl ?_
  exact ⟨HK3.out.fresh hkf (Nat.le_refl _), .inl ⟨AV.num 3 (-9223372036854775808), by simp [AV.val, AV.row, AV.num], _, HA3.out.other hkf (by omega)⟩⟩

set_option maxHeartbeats 4000000 in
set_option maxRecDepth 100000 in
theorem value_notext (w0 w : World) (p : Nat) (nb : Option Addr) (cb : Nat) (bs b : List UInt8) (lv : Nat) (hlv : 0 < lv) (hlv6 : lv ≤ 6) (hno : ∀ s r : List UInt8, s.length ≤ 60 → b ≠ textL s ++ r) (hS : Src w0 p nb bs w) (hat : At p bs (5 :: b) w) :
    Calls Tryd.prog 42 #[.slice nb bs.length cb, .pointer (some ⟨p, 0, none⟩), .int .i64 (lv : Int)] w (ValueSome p bs (5 :: b) w) := by
  have HPL := Lib.hid hat.lt
  have hbz : Below w.heap.size w (w.alloc (.cells #[.int .i64 0, .int .i64 0, .string ⟨#[]⟩, .slice none 0 0, .slice none 0 0] 25)) := (Below.refl _ _).alloc (Nat.le_refl _) _
  have hkz : Kept p w (w.alloc (.cells #[.int .i64 0, .int .i64 0, .string ⟨#[]⟩, .slice none 0 0, .slice none 0 0] 25)) := Kept.of hbz
  have NEXT := Lib.hid (next_any w0 _ p nb cb bs 5 _ (hS.kept hkz) (hat.later hbz))
  have NUM := Lib.hid (fun W (h1 : Kept p w W) (h2 : At p bs b W) => readText_no w0 W p nb cb bs b hno (hS.kept h1) h2)
  have HKZ := Lib.hid hkz
  have HBX := Lib.hid (heap_alloc_new w (.cells #[.int .i64 0, .int .i64 0, .string ⟨#[]⟩, .slice none 0 0, .slice none 0 0] 25))
  have e0 : ((lv : Int) == 0) = false := by rw [beq_eq_false_iff_ne]; omega
  have hlv' : ¬ (lv : Int) = 0 := by omega
  simp only [show (((5 : UInt8).toNat : Nat) : Int) = 5 from rfl] at NEXT
  clear hS hat hlv hbz hkz hlv6 hno
  go_enter Tryd.func42, Tryd.ntmps42
  go_wp2_with fail
  refine (NEXT.out).mono ?_
  rintro e w1 ⟨rfl, hat1, hk1⟩
  have HA1 := Lib.hid (hat1.later ((Below.refl _ _).alloc (Nat.le_refl _) (.cells #[.int .i64 4, .int .i64 0, .string ⟨#[]⟩, .slice none 0 0, .slice none 0 0] 25)))
  have HB1 := Lib.hid (hk1.box HBX.out (by have := HPL.out; omega))
  have HK1 := Lib.hid ((HKZ.out.trans hk1).alloc (.cells #[.int .i64 4, .int .i64 0, .string ⟨#[]⟩, .slice none 0 0, .slice none 0 0] 25))
  have hz1 : w.heap.size < w1.heap.size := (Array.getElem?_eq_some_iff.1 HB1.out).1
  have HV1 := Lib.hid (heap_alloc_new w1 (.cells #[.int .i64 4, .int .i64 0, .string ⟨#[]⟩, .slice none 0 0, .slice none 0 0] 25))
  have HB1' := Lib.hid ((Lib.alloc_old w1 (.cells #[.int .i64 4, .int .i64 0, .string ⟨#[]⟩, .slice none 0 0, .slice none 0 0] 25) _ hz1).trans HB1.out)
  have hzz : (w1.alloc (.cells #[.int .i64 4, .int .i64 0, .string ⟨#[]⟩, .slice none 0 0, .slice none 0 0] 25)).heap.size = w1.heap.size + 1 := by simp
  have HZZ := Lib.hid hzz
  clear hat1 hk1 HB1 hzz
  go_wp2_with fail
  refine (NUM.out _ HK1.out HA1.out).mono ?_
  rintro e w2 ⟨rfl, ⟨r2, hat2⟩, hk2⟩
  have HA2 := Lib.hid hat2
  have HB2 := Lib.hid (hk2.box HB1'.out (by have := HPL.out; omega))
  have HV2 := Lib.hid (hk2.box HV1.out (by have := HPL.out; omega))
  have HK2 := Lib.hid (HK1.out.trans hk2)
  obtain ⟨d0, d1, d2, d3, d4⟩ := box_cells HB2.out
  obtain ⟨f0, f1, f2, f3, f4⟩ := fz5 HB2.out
  obtain ⟨a0, a1, a2, a3, a4⟩ := box_cells HV2.out
  obtain ⟨b0, b1, b2, b3, b4⟩ := fz5 HV2.out
  clear hat2 hk2
  go_wp2_with fail
  have hk3 := (Kept.refl w1.heap.size w2).setAt 2 (.string ⟨#[]⟩)
  have hpl := HPL.out
  have HA3 := Lib.hid (HA2.out.other hk3 (by omega))
  have HK3 := Lib.hid (HK2.out.fresh hk3 (by omega))
  have HB3 := Lib.hid (hk3.box HB2.out (by omega))
  have hkf := (Kept.refl w.heap.size (w2.setCell ⟨w1.heap.size, 2, none⟩ (.string ⟨#[]⟩))).five (.int .i64 4) (.int .i64 0) (.string ⟨#[]⟩) (.slice none 0 0) (.slice none 0 0)
  have hfb := five_box HB3.out (.int .i64 4) (.int .i64 0) (.string ⟨#[]⟩) (.slice none 0 0) (.slice none 0 0)
  obtain ⟨g0, g1, g2, g3, g4⟩ := box_cells hfb
  refine bodyPost_ret (v := .tuple #[.agg #[.int .i64 4, .int .i64 0, .string ⟨#[]⟩, .slice none 0 0, .slice none 0 0], .bool false]) (by simp [results, Tryd.results42, go_sem, g0, g1, g2, g3, g4]) rfl ?_
  exact ⟨HK3.out.fresh hkf (Nat.le_refl _), .inl ⟨AV.num 4 0, by simp [AV.val, AV.row, AV.num], _, HA3.out.other hkf (by omega)⟩⟩

set_option maxHeartbeats 4000000 in
set_option maxRecDepth 100000 in
theorem value_arr (w0 w : World) (p : Nat) (nb : Option Addr) (cb : Nat) (bs b : List UInt8) (lv : Nat) (hlv : 0 < lv) (hlv6 : lv ≤ 6) (IH : RdAll (lv - 1)) (hS : Src w0 p nb bs w) (hat : At p bs (6 :: b) w) :
    Calls Tryd.prog 42 #[.slice nb bs.length cb, .pointer (some ⟨p, 0, none⟩), .int .i64 (lv : Int)] w (ValueSome p bs (6 :: b) w) := by
  have HPL := Lib.hid hat.lt
  have hbz : Below w.heap.size w (w.alloc (.cells #[.int .i64 0, .int .i64 0, .string ⟨#[]⟩, .slice none 0 0, .slice none 0 0] 25)) := (Below.refl _ _).alloc (Nat.le_refl _) _
  have hkz : Kept p w (w.alloc (.cells #[.int .i64 0, .int .i64 0, .string ⟨#[]⟩, .slice none 0 0, .slice none 0 0] 25)) := Kept.of hbz
  have NEXT := Lib.hid (next_any w0 _ p nb cb bs 6 _ (hS.kept hkz) (hat.later hbz))
  obtain ⟨m, hm⟩ : ∃ m, m = lv - 1 := ⟨_, rfl⟩
  rw [← hm] at IH
  have NUM := Lib.hid (fun W (h1 : Kept p w W) (h2 : At p bs b W) => items_gen w0 W p nb cb bs b m (hS.kept h1) h2 IH)
  have elv : (lv : Int) - 1 = (m : Int) := by omega
  have ewr : wrap64 (m : Int) = (m : Int) := by unfold wrap64; omega
  have HKZ := Lib.hid hkz
  have HBX := Lib.hid (heap_alloc_new w (.cells #[.int .i64 0, .int .i64 0, .string ⟨#[]⟩, .slice none 0 0, .slice none 0 0] 25))
  have e0 : ((lv : Int) == 0) = false := by rw [beq_eq_false_iff_ne]; omega
  have hlv' : ¬ (lv : Int) = 0 := by omega
  simp only [show (((6 : UInt8).toNat : Nat) : Int) = 6 from rfl] at NEXT
  clear hS hat hlv hbz hkz hlv6 IH hm
  go_enter Tryd.func42, Tryd.ntmps42
  go_wp2_with fail
  refine (NEXT.out).mono ?_
  rintro e w1 ⟨rfl, hat1, hk1⟩
  have HA1 := Lib.hid (hat1.later ((Below.refl _ _).alloc (Nat.le_refl _) (.cells #[.int .i64 5, .int .i64 0, .string ⟨#[]⟩, .slice none 0 0, .slice none 0 0] 25)))
  have HB1 := Lib.hid (hk1.box HBX.out (by have := HPL.out; omega))
  have HK1 := Lib.hid ((HKZ.out.trans hk1).alloc (.cells #[.int .i64 5, .int .i64 0, .string ⟨#[]⟩, .slice none 0 0, .slice none 0 0] 25))
  have hz1 : w.heap.size < w1.heap.size := (Array.getElem?_eq_some_iff.1 HB1.out).1
  have HV1 := Lib.hid (heap_alloc_new w1 (.cells #[.int .i64 5, .int .i64 0, .string ⟨#[]⟩, .slice none 0 0, .slice none 0 0] 25))
  have HB1' := Lib.hid ((Lib.alloc_old w1 (.cells #[.int .i64 5, .int .i64 0, .string ⟨#[]⟩, .slice none 0 0, .slice none 0 0] 25) _ hz1).trans HB1.out)
  have hzz : (w1.alloc (.cells #[.int .i64 5, .int .i64 0, .string ⟨#[]⟩, .slice none 0 0, .slice none 0 0] 25)).heap.size = w1.heap.size + 1 := by simp
  have HZZ := Lib.hid hzz
  clear hat1 hk1 HB1 hzz
  go_wp2_with fail
  refine (NUM.out _ HK1.out HA1.out).mono ?_
  rintro e w2 ⟨hk2, hcase⟩
  rcases hcase with ⟨ya, n, yc, rfl, r2, hat2⟩ | ⟨ya, yc, ys, u0, r, rfl, hkey, hrow, hat2⟩
  · have HA2 := Lib.hid hat2
    have HB2 := Lib.hid (hk2.box HB1'.out (by have := HPL.out; omega))
    have HV2 := Lib.hid (hk2.box HV1.out (by have := HPL.out; omega))
    have HK2 := Lib.hid (HK1.out.trans hk2)
    obtain ⟨d0, d1, d2, d3, d4⟩ := box_cells HB2.out
    obtain ⟨f0, f1, f2, f3, f4⟩ := fz5 HB2.out
    obtain ⟨a0, a1, a2, a3, a4⟩ := box_cells HV2.out
    obtain ⟨b0, b1, b2, b3, b4⟩ := fz5 HV2.out
    clear hat2 hk2
    go_wp2_with fail
    have hk3 := (Kept.refl w1.heap.size w2).setAt 4 (.slice ya n yc)
    have hpl := HPL.out
    have HA3 := Lib.hid (HA2.out.other hk3 (by omega))
    have HK3 := Lib.hid (HK2.out.fresh hk3 (by omega))
    have HB3 := Lib.hid (hk3.box HB2.out (by omega))
    have hkf := (Kept.refl w.heap.size (w2.setCell ⟨w1.heap.size, 4, none⟩ (.slice ya n yc))).five (.int .i64 5) (.int .i64 0) (.string ⟨#[]⟩) (.slice none 0 0) (.slice ya n yc)
    have hfb := five_box HB3.out (.int .i64 5) (.int .i64 0) (.string ⟨#[]⟩) (.slice none 0 0) (.slice ya n yc)
    obtain ⟨g0, g1, g2, g3, g4⟩ := box_cells hfb
    refine bodyPost_ret (v := .tuple #[.agg #[.int .i64 5, .int .i64 0, .string ⟨#[]⟩, .slice none 0 0, .slice ya n yc], .bool false]) (by simp [results, Tryd.results42, go_sem, g0, g1, g2, g3, g4]) rfl ?_
    exact ⟨HK3.out.fresh hkf (Nat.le_refl _), .inl ⟨AV.mk 5 0 ⟨#[]⟩ none 0 [] ya yc (List.replicate n (AV.num 0 0)), by simp [AV.val, AV.row, AV.num], _, HA3.out.other hkf (by omega)⟩⟩
  · have HROW := Lib.hid hrow
    have HKEY := Lib.hid hkey
    clear hrow hkey
    have HA2 := Lib.hid hat2
    have HB2 := Lib.hid (hk2.box HB1'.out (by have := HPL.out; omega))
    have HV2 := Lib.hid (hk2.box HV1.out (by have := HPL.out; omega))
    have HK2 := Lib.hid (HK1.out.trans hk2)
    obtain ⟨d0, d1, d2, d3, d4⟩ := box_cells HB2.out
    obtain ⟨f0, f1, f2, f3, f4⟩ := fz5 HB2.out
    obtain ⟨a0, a1, a2, a3, a4⟩ := box_cells HV2.out
    obtain ⟨b0, b1, b2, b3, b4⟩ := fz5 HV2.out
    clear hat2 hk2
    go_wp2_with fail
    have hk3 := (Kept.refl w1.heap.size w2).setAt 4 (.slice ya ys.length yc)
    have hpl := HPL.out
    have HA3 := Lib.hid (HA2.out.other hk3 (by omega))
    have HK3 := Lib.hid (HK2.out.fresh hk3 (by omega))
    have HB3 := Lib.hid (hk3.box HB2.out (by omega))
    have hkf := (Kept.refl w.heap.size (w2.setCell ⟨w1.heap.size, 4, none⟩ (.slice ya ys.length yc))).five (.int .i64 5) (.int .i64 0) (.string ⟨#[]⟩) (.slice none 0 0) (.slice ya ys.length yc)
    have hfb := five_box HB3.out (.int .i64 5) (.int .i64 0) (.string ⟨#[]⟩) (.slice none 0 0) (.slice ya ys.length yc)
    obtain ⟨g0, g1, g2, g3, g4⟩ := box_cells hfb
    refine bodyPost_ret (v := .tuple #[.agg #[.int .i64 5, .int .i64 0, .string ⟨#[]⟩, .slice none 0 0, .slice ya ys.length yc], .bool true]) (by simp [results, Tryd.results42, go_sem, g0, g1, g2, g3, g4]) rfl ?_
    have hl := list_lies (k := 5) (by decide) (na := none) (nc := 0) (ns := []) (by simp) (by simp [maxLen]) (by simp) (fun _ _ => .inl rfl) HROW.out
    have hB := HZZ.out
    exact ⟨HK3.out.fresh hkf (Nat.le_refl _), .inr ⟨AV.mk 5 0 ⟨#[]⟩ none 0 [] ya yc ys, r, rfl, by rw [AV.key, if_neg (by decide), if_neg (by decide), if_pos (.inl rfl), HKEY.out]; simp, HA3.out.other hkf (by omega),
      ((hl.later fun k hC hD => hk3.block k hD (by omega)).later fun k hC hD => hkf.block k (Nat.lt_of_lt_of_le hD hk3.size) (by omega)).wider (by omega) (Nat.le_trans hk3.size hkf.size)⟩⟩

set_option maxHeartbeats 4000000 in
set_option maxRecDepth 100000 in
theorem value_obj (w0 w : World) (p : Nat) (nb : Option Addr) (cb : Nat) (bs b : List UInt8) (lv : Nat) (hlv : 0 < lv) (hlv6 : lv ≤ 6) (IH : RdAll (lv - 1)) (hS : Src w0 p nb bs w) (hat : At p bs (7 :: b) w) :
    Calls Tryd.prog 42 #[.slice nb bs.length cb, .pointer (some ⟨p, 0, none⟩), .int .i64 (lv : Int)] w (ValueSome p bs (7 :: b) w) := by
  have HPL := Lib.hid hat.lt
  have hbz : Below w.heap.size w (w.alloc (.cells #[.int .i64 0, .int .i64 0, .string ⟨#[]⟩, .slice none 0 0, .slice none 0 0] 25)) := (Below.refl _ _).alloc (Nat.le_refl _) _
  have hkz : Kept p w (w.alloc (.cells #[.int .i64 0, .int .i64 0, .string ⟨#[]⟩, .slice none 0 0, .slice none 0 0] 25)) := Kept.of hbz
  have NEXT := Lib.hid (next_any w0 _ p nb cb bs 7 _ (hS.kept hkz) (hat.later hbz))
  obtain ⟨m, hm⟩ : ∃ m, m = lv - 1 := ⟨_, rfl⟩
  rw [← hm] at IH
  have NUM := Lib.hid (fun W (h1 : Kept p w W) (h2 : At p bs b W) => members_gen w0 W p nb cb bs b m (hS.kept h1) h2 IH)
  have elv : (lv : Int) - 1 = (m : Int) := by omega
  have ewr : wrap64 (m : Int) = (m : Int) := by unfold wrap64; omega
  have HKZ := Lib.hid hkz
  have HBX := Lib.hid (heap_alloc_new w (.cells #[.int .i64 0, .int .i64 0, .string ⟨#[]⟩, .slice none 0 0, .slice none 0 0] 25))
  have e0 : ((lv : Int) == 0) = false := by rw [beq_eq_false_iff_ne]; omega
  have hlv' : ¬ (lv : Int) = 0 := by omega
  simp only [show (((7 : UInt8).toNat : Nat) : Int) = 7 from rfl] at NEXT
  clear hS hat hlv hbz hkz hlv6 IH hm
  go_enter Tryd.func42, Tryd.ntmps42
  go_wp2_with fail
  refine (NEXT.out).mono ?_
  rintro e w1 ⟨rfl, hat1, hk1⟩
  have HA1 := Lib.hid (hat1.later ((Below.refl _ _).alloc (Nat.le_refl _) (.cells #[.int .i64 6, .int .i64 0, .string ⟨#[]⟩, .slice none 0 0, .slice none 0 0] 25)))
  have HB1 := Lib.hid (hk1.box HBX.out (by have := HPL.out; omega))
  have HK1 := Lib.hid ((HKZ.out.trans hk1).alloc (.cells #[.int .i64 6, .int .i64 0, .string ⟨#[]⟩, .slice none 0 0, .slice none 0 0] 25))
  have hz1 : w.heap.size < w1.heap.size := (Array.getElem?_eq_some_iff.1 HB1.out).1
  have HV1 := Lib.hid (heap_alloc_new w1 (.cells #[.int .i64 6, .int .i64 0, .string ⟨#[]⟩, .slice none 0 0, .slice none 0 0] 25))
  have HB1' := Lib.hid ((Lib.alloc_old w1 (.cells #[.int .i64 6, .int .i64 0, .string ⟨#[]⟩, .slice none 0 0, .slice none 0 0] 25) _ hz1).trans HB1.out)
  have hzz : (w1.alloc (.cells #[.int .i64 6, .int .i64 0, .string ⟨#[]⟩, .slice none 0 0, .slice none 0 0] 25)).heap.size = w1.heap.size + 1 := by simp
  have HZZ := Lib.hid hzz
  clear hat1 hk1 HB1 hzz
  go_wp2_with fail
  refine (NUM.out _ HK1.out HA1.out).mono ?_
  rintro e w2 ⟨hk2, hcase⟩
  rcases hcase with ⟨ma, m2, mc, ya, n, yc, rfl, r2, hat2⟩ | ⟨ma, mc, ya, yc, ns, ys, r, rfl, hnl, hn60, hkey, hmo, hrow, hat2⟩
  · have HA2 := Lib.hid hat2
    have HB2 := Lib.hid (hk2.box HB1'.out (by have := HPL.out; omega))
    have HV2 := Lib.hid (hk2.box HV1.out (by have := HPL.out; omega))
    have HK2 := Lib.hid (HK1.out.trans hk2)
    obtain ⟨d0, d1, d2, d3, d4⟩ := box_cells HB2.out
    obtain ⟨f0, f1, f2, f3, f4⟩ := fz5 HB2.out
    obtain ⟨a0, a1, a2, a3, a4⟩ := box_cells HV2.out
    obtain ⟨b0, b1, b2, b3, b4⟩ := fz5 HV2.out
    clear hat2 hk2
    go_wp2_with fail
    have hk3 := ((Kept.refl w1.heap.size w2).setAt 3 (.slice ma m2 mc)).setAt 4 (.slice ya n yc)
    have hpl := HPL.out
    have HA3 := Lib.hid (HA2.out.other hk3 (by omega))
    have HK3 := Lib.hid (HK2.out.fresh hk3 (by omega))
    have HB3 := Lib.hid (hk3.box HB2.out (by omega))
    have hkf := (Kept.refl w.heap.size ((w2.setCell ⟨w1.heap.size, 3, none⟩ (.slice ma m2 mc)).setCell ⟨w1.heap.size, 4, none⟩ (.slice ya n yc))).five (.int .i64 6) (.int .i64 0) (.string ⟨#[]⟩) (.slice ma m2 mc) (.slice ya n yc)
    have hfb := five_box HB3.out (.int .i64 6) (.int .i64 0) (.string ⟨#[]⟩) (.slice ma m2 mc) (.slice ya n yc)
    obtain ⟨g0, g1, g2, g3, g4⟩ := box_cells hfb
    refine bodyPost_ret (v := .tuple #[.agg #[.int .i64 6, .int .i64 0, .string ⟨#[]⟩, .slice ma m2 mc, .slice ya n yc], .bool false]) (by simp [results, Tryd.results42, go_sem, g0, g1, g2, g3, g4]) rfl ?_
    exact ⟨HK3.out.fresh hkf (Nat.le_refl _), .inl ⟨AV.mk 6 0 ⟨#[]⟩ ma mc (List.replicate m2 ⟨#[]⟩) ya yc (List.replicate n (AV.num 0 0)), by simp [AV.val, AV.row, AV.num], _, HA3.out.other hkf (by omega)⟩⟩
  · have HROW := Lib.hid hrow
    have HMO := Lib.hid hmo
    have HKEY := Lib.hid hkey
    have HN60 : Hid (∀ y ∈ ns, y.size ≤ maxLen) := Lib.hid (fun y hy => by have := hn60 y hy; unfold maxLen; omega)
    clear hrow hkey hmo hn60 hnl
    have HA2 := Lib.hid hat2
    have HB2 := Lib.hid (hk2.box HB1'.out (by have := HPL.out; omega))
    have HV2 := Lib.hid (hk2.box HV1.out (by have := HPL.out; omega))
    have HK2 := Lib.hid (HK1.out.trans hk2)
    obtain ⟨d0, d1, d2, d3, d4⟩ := box_cells HB2.out
    obtain ⟨f0, f1, f2, f3, f4⟩ := fz5 HB2.out
    obtain ⟨a0, a1, a2, a3, a4⟩ := box_cells HV2.out
    obtain ⟨b0, b1, b2, b3, b4⟩ := fz5 HV2.out
    clear hat2 hk2
    go_wp2_with fail
    have hk3 := ((Kept.refl w1.heap.size w2).setAt 3 (.slice ma ns.length mc)).setAt 4 (.slice ya ys.length yc)
    have hpl := HPL.out
    have HA3 := Lib.hid (HA2.out.other hk3 (by omega))
    have HK3 := Lib.hid (HK2.out.fresh hk3 (by omega))
    have HB3 := Lib.hid (hk3.box HB2.out (by omega))
    have hkf := (Kept.refl w.heap.size ((w2.setCell ⟨w1.heap.size, 3, none⟩ (.slice ma ns.length mc)).setCell ⟨w1.heap.size, 4, none⟩ (.slice ya ys.length yc))).five (.int .i64 6) (.int .i64 0) (.string ⟨#[]⟩) (.slice ma ns.length mc) (.slice ya ys.length yc)
    have hfb := five_box HB3.out (.int .i64 6) (.int .i64 0) (.string ⟨#[]⟩) (.slice ma ns.length mc) (.slice ya ys.length yc)
    obtain ⟨g0, g1, g2, g3, g4⟩ := box_cells hfb
    refine bodyPost_ret (v := .tuple #[.agg #[.int .i64 6, .int .i64 0, .string ⟨#[]⟩, .slice ma ns.length mc, .slice ya ys.length yc], .bool true]) (by simp [results, Tryd.results42, go_sem, g0, g1, g2, g3, g4]) rfl ?_
    obtain ⟨hm1, hm2, hm3⟩ := names_lie HMO.out
    have hl := list_lies (k := 6) (by decide) hm1 hm2 HN60.out hm3 HROW.out
    have hB := HZZ.out
    exact ⟨HK3.out.fresh hkf (Nat.le_refl _), .inr ⟨AV.mk 6 0 ⟨#[]⟩ ma mc ns ya yc ys, r, rfl, by rw [AV.key, if_neg (by decide), if_neg (by decide), if_pos (.inr rfl), HKEY.out]; simp, HA3.out.other hkf (by omega),
      ((hl.later fun k hC hD => hk3.block k hD (by omega)).later fun k hC hD => hkf.block k (Nat.lt_of_lt_of_le hD hk3.size) (by omega)).wider (by omega) (Nat.le_trans hk3.size hkf.size)⟩⟩

theorem read_all : ∀ lv : Nat, lv ≤ 6 → RdAll lv := by
  intro lv
  induction lv with
  | zero =>
    intro _ w0 w p nb cb bs b hS hat
    cases b with
    | nil => exact value_none w p nb cb bs 0 hat
    | cons c b => exact value_deep w0 w p nb cb bs c b hS hat
  | succ m ih =>
    intro h6 w0 w p nb cb bs b hS hat
    have IH := ih (by omega)
    cases b with
    | nil => exact value_none w p nb cb bs (m + 1) hat
    | cons c b =>
      by_cases hc : c = 0 ∨ 7 < c.toNat
      · exact value_other w0 w p nb cb bs c b (m + 1) (by omega) h6 hc hS hat
      have hcl : 1 ≤ c.toNat ∧ c.toNat ≤ 7 := by
        refine ⟨?_, by omega⟩
        have := zero_lt_byte (c := c) (fun e => hc (.inl e))
        omega
      have hcs : c = 1 ∨ c = 2 ∨ c = 3 ∨ c = 4 ∨ c = 5 ∨ c = 6 ∨ c = 7 := by
        have h : c.toNat = 1 ∨ c.toNat = 2 ∨ c.toNat = 3 ∨ c.toNat = 4 ∨ c.toNat = 5 ∨ c.toNat = 6 ∨ c.toNat = 7 := by omega
        rcases h with h | h | h | h | h | h | h
        · exact .inl (UInt8.toNat_inj.1 h)
        · exact .inr (.inl (UInt8.toNat_inj.1 h))
        · exact .inr (.inr (.inl (UInt8.toNat_inj.1 h)))
        · exact .inr (.inr (.inr (.inl (UInt8.toNat_inj.1 h))))
        · exact .inr (.inr (.inr (.inr (.inl (UInt8.toNat_inj.1 h)))))
        · exact .inr (.inr (.inr (.inr (.inr (.inl (UInt8.toNat_inj.1 h))))))
        · exact .inr (.inr (.inr (.inr (.inr (.inr (UInt8.toNat_inj.1 h))))))
      clear hc hcl
      rcases hcs with rfl | rfl | rfl | rfl | rfl | rfl | rfl
      · exact some_of_gave rfl (by rw [AV.key]; rfl) (readValue_word w0 w p nb cb bs b 0 1 none 0 none 0 (m + 1) (.inl ⟨rfl, rfl⟩) hS hat (by omega) h6)
      · exact some_of_gave rfl (by rw [AV.key]; rfl) (readValue_word w0 w p nb cb bs b 1 2 none 0 none 0 (m + 1) (.inr (.inl ⟨rfl, rfl⟩)) hS hat (by omega) h6)
      · exact some_of_gave rfl (by rw [AV.key]; rfl) (readValue_word w0 w p nb cb bs b 2 3 none 0 none 0 (m + 1) (.inr (.inr ⟨rfl, rfl⟩)) hS hat (by omega) h6)
      · by_cases h8 : b.length < 8
        · exact value_short w0 w p nb cb bs b (m + 1) (by omega) h6 h8 hS hat
        · obtain ⟨y, hy, hyb⟩ := big_of (b.take 8) (by rw [List.length_take]; omega)
          have hb : b = bigL y ++ b.drop 8 := by rw [← hyb, List.take_append_drop]
          have hy2 : (((y : Int) - 9223372036854775808) + 9223372036854775808).toNat = y := by omega
          have hw : (Lit.int .i64 ((y : Int) - 9223372036854775808)).wf = true := by
            have h1 : IntKind.i64.min ≤ (y : Int) - 9223372036854775808 := by show -9223372036854775808 ≤ _; omega
            have h2 : (y : Int) - 9223372036854775808 ≤ IntKind.i64.max := by show _ ≤ (9223372036854775807 : Int); omega
            simpa [Lit.wf] using And.intro h1 h2
          refine some_of_gave (t := AV.mk 3 ((y : Int) - 9223372036854775808) ⟨#[]⟩ none 0 [] none 0 []) (r := b.drop 8) rfl ?_ (readValue_num w0 w p nb cb bs (b.drop 8) ((y : Int) - 9223372036854775808) none 0 none 0 (m + 1) (by omega) (by omega) hw hS ?_ (by omega))
          · rw [AV.key, if_pos rfl, hy2, List.cons_append, ← hb]; rfl
          · rw [hy2, ← hb]; exact hat
      · by_cases ht : ∃ s r : List UInt8, s.length ≤ 60 ∧ b = textL s ++ r
        · obtain ⟨s, r, hs, rfl⟩ := ht
          obtain ⟨y, hy, hy60⟩ : ∃ y : ByteArray, y.data.toList = s ∧ y.size ≤ 60 := ⟨⟨s.toArray⟩, rfl, hs⟩
          subst hy
          exact some_of_gave (t := AV.mk 4 0 y none 0 [] none 0 []) (r := r) rfl (by rw [AV.key, if_neg (by decide), if_pos rfl]; rfl) (readValue_text w0 w p nb cb bs r y none 0 none 0 (m + 1) hy60 hS hat (by omega))
        · exact value_notext w0 w p nb cb bs b (m + 1) (by omega) h6 (fun s r hl e => ht ⟨s, r, hl, e⟩) hS hat
      · exact value_arr w0 w p nb cb bs b (m + 1) (by omega) h6 IH hS hat
      · exact value_obj w0 w p nb cb bs b (m + 1) (by omega) h6 IH hS hat
end Go.Proofs.YtcbfbmidekmboaaDoor
