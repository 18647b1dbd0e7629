/- A value read: what the program's call answers where there is an array; no condition of ours. -/
import Derived.Test.YtcbfbmidekmboaaDoorRdv
import Derived.Test.YtcbfbmidekmboaaDoorRdi
namespace Go.Proofs.YtcbfbmidekmboaaDoor
open Go.ChangeShapes Go.WideShapes Go.Deep Go.RowKit Go.Lib

set_option maxHeartbeats 4000000 in
set_option maxRecDepth 100000 in
theorem readValue_arr (w0 w : World) (p : Nat) (nb : Option Addr) (cb : Nat) (bs r : List UInt8) (sa : Option Addr) (sc : Nat) (xa : Option Addr) (xc : Nat) (xs : List AV) (lv : Nat) (hall : AV.allJ xs (lv - 1) = true) (h24 : xs.length ≤ 24) (hlv6 : lv ≤ 6) (IH : Hid (∀ x ∈ xs, RdAt x)) (hS : Src w0 p nb bs w) (hat : At p bs (6 :: (AV.keyAll false [] xs ++ ([0] ++ r))) w) (hlv : 0 < lv) :
    Calls Tryd.prog 42 #[.slice nb bs.length cb, .pointer (some ⟨p, 0, none⟩), .int .i64 (lv : Int)] w (ValueGave p bs r (AV.mk 5 0 ⟨#[]⟩ sa sc [] xa xc xs) w) := by
  have HPL := Lib.hid hat.lt
  have hbz : Below w.heap.size w (w.alloc (.cells #[.int .i64 0, .int .i64 0, .string ⟨#[]⟩, .slice none 0 0, .slice none 0 0] 25)) := (Below.refl _ _).alloc (Nat.le_refl _) _
  have hkz : Kept p w (w.alloc (.cells #[.int .i64 0, .int .i64 0, .string ⟨#[]⟩, .slice none 0 0, .slice none 0 0] 25)) := Kept.of hbz
  have NEXT := Lib.hid (next_any w0 _ p nb cb bs 6 _ (hS.kept hkz) (hat.later hbz))
  obtain ⟨m, hm⟩ : ∃ m, m = lv - 1 := ⟨_, rfl⟩
  have NUM := Lib.hid (fun W (h1 : Kept p w W) (h2 : At p bs (AV.keyAll false [] xs ++ ([0] ++ r)) W) => readItems_any w0 W p nb cb bs r [] xs m (hS.kept h1) h2 (by rw [hm]; exact hall) (by omega) h24 IH)
  have elv : (lv : Int) - 1 = (m : Int) := by omega
  have ewr : wrap64 (m : Int) = (m : Int) := by unfold wrap64; omega
  have HKZ := Lib.hid hkz
  have HBX := Lib.hid (heap_alloc_new w (.cells #[.int .i64 0, .int .i64 0, .string ⟨#[]⟩, .slice none 0 0, .slice none 0 0] 25))
  have e0 : ((lv : Int) == 0) = false := by rw [beq_eq_false_iff_ne]; omega
  have hlv' : ¬ (lv : Int) = 0 := by omega
  simp only [show (((6 : UInt8).toNat : Nat) : Int) = 6 from rfl] at NEXT
  clear hS hat hlv hbz hkz hall h24 hlv6 IH hm
  go_enter Tryd.func42, Tryd.ntmps42
  go_wp2_with fail
  refine (NEXT.out).mono ?_
  rintro e w1 ⟨rfl, hat1, hk1⟩
  have HA1 := Lib.hid (hat1.later ((Below.refl _ _).alloc (Nat.le_refl _) (.cells #[.int .i64 5, .int .i64 0, .string ⟨#[]⟩, .slice none 0 0, .slice none 0 0] 25)))
  have HB1 := Lib.hid (hk1.box HBX.out (by have := HPL.out; omega))
  have HK1 := Lib.hid ((HKZ.out.trans hk1).alloc (.cells #[.int .i64 5, .int .i64 0, .string ⟨#[]⟩, .slice none 0 0, .slice none 0 0] 25))
  have hz1 : w.heap.size < w1.heap.size := (Array.getElem?_eq_some_iff.1 HB1.out).1
  have HV1 := Lib.hid (heap_alloc_new w1 (.cells #[.int .i64 5, .int .i64 0, .string ⟨#[]⟩, .slice none 0 0, .slice none 0 0] 25))
  have HB1' := Lib.hid ((Lib.alloc_old w1 (.cells #[.int .i64 5, .int .i64 0, .string ⟨#[]⟩, .slice none 0 0, .slice none 0 0] 25) _ hz1).trans HB1.out)
  clear hat1 hk1 HB1
  go_wp2_with fail
  refine (NUM.out _ HK1.out HA1.out).mono ?_
  rintro e w2 ⟨ya, yc, ys, u0, rfl, hyl, heq, hrow, hat2, hk2⟩
  have HYL := Lib.hid hyl
  have HEQ := Lib.hid heq
  have HROW := Lib.hid hrow
  have hzz : (w1.alloc (.cells #[.int .i64 5, .int .i64 0, .string ⟨#[]⟩, .slice none 0 0, .slice none 0 0] 25)).heap.size = w1.heap.size + 1 := by simp
  have HZZ := Lib.hid hzz
  clear hyl heq hrow hzz
  have HA2 := Lib.hid hat2
  have HB2 := Lib.hid (hk2.box HB1'.out (by have := HPL.out; omega))
  have HV2 := Lib.hid (hk2.box HV1.out (by have := HPL.out; omega))
  have HK2 := Lib.hid (HK1.out.trans hk2)
  obtain ⟨d0, d1, d2, d3, d4⟩ := box_cells HB2.out
  obtain ⟨f0, f1, f2, f3, f4⟩ := fz5 HB2.out
  obtain ⟨a0, a1, a2, a3, a4⟩ := box_cells HV2.out
  obtain ⟨b0, b1, b2, b3, b4⟩ := fz5 HV2.out
  clear hat2 hk2
  go_wp2_with fail
  have hk3 := (Kept.refl w1.heap.size w2).setAt 4 (.slice ya ys.length yc)
  have hpl := HPL.out
  have HA3 := Lib.hid (HA2.out.other hk3 (by omega))
  have HK3 := Lib.hid (HK2.out.fresh hk3 (by omega))
  have HB3 := Lib.hid (hk3.box HB2.out (by omega))
  have hkf := (Kept.refl w.heap.size (w2.setCell ⟨w1.heap.size, 4, none⟩ (.slice ya ys.length yc))).five (.int .i64 5) (.int .i64 0) (.string ⟨#[]⟩) (.slice none 0 0) (.slice ya ys.length yc)
  have hfb := five_box HB3.out (.int .i64 5) (.int .i64 0) (.string ⟨#[]⟩) (.slice none 0 0) (.slice ya ys.length yc)
  obtain ⟨g0, g1, g2, g3, g4⟩ := box_cells hfb
  refine bodyPost_ret (v := .tuple #[.agg #[.int .i64 5, .int .i64 0, .string ⟨#[]⟩, .slice none 0 0, .slice ya ys.length yc], .bool true]) (by simp [results, Tryd.results42, go_sem, g0, g1, g2, g3, g4]) rfl ?_
  have hl := list_lies (k := 5) (by decide) (na := none) (nc := 0) (ns := []) (by simp) (by simp [maxLen]) (by simp) (fun _ _ => .inl rfl) HROW.out
  have hB := HZZ.out
  exact value_end2 HA3.out HK3.out (Nat.le_refl _) HPL.out (AV.eqv_mk HYL.out HEQ.out) ((hl.later fun k hC hD => hk3.block k hD (by omega)).later fun k hC hD => hkf.block k (Nat.lt_of_lt_of_le hD hk3.size) (by omega)) (by omega) (Nat.le_trans hk3.size hkf.size) hkf rfl
end Go.Proofs.YtcbfbmidekmboaaDoor
