/- The members of an array read: what the program's call answers where they are; no condition of ours. -/
import Derived.Test.YtcbfbmidekmboaaDoorGrow
namespace Go.Proofs.YtcbfbmidekmboaaDoor
open Go.ChangeShapes Go.WideShapes Go.Deep Go.RowKit Go.Lib

set_option maxHeartbeats 4000000 in
set_option maxRecDepth 100000 in
theorem readItems_any (w0 w : World) (p : Nat) (nb : Option Addr) (cb : Nat) (bs r : List UInt8) (ns : List ByteArray) (xs : List AV) (lv : Nat) (hS : Src w0 p nb bs w) (hat : At p bs (AV.keyAll false ns xs ++ ([0] ++ r)) w) (hall : AV.allJ xs lv = true) (hlv : lv ≤ 6) (h24 : xs.length ≤ 24) (IH : Hid (∀ x ∈ xs, RdAt x)) :
    Calls Tryd.prog 57 #[.slice nb bs.length cb, .pointer (some ⟨p, 0, none⟩), .int .i64 (lv : Int)] w (ItemsGave p bs r xs w) := by
  have HS := Lib.hid hS
  have HPL := Lib.hid hat.lt
  have HAT := Lib.hid hat
  have HALL : Hid (∀ x ∈ xs, AV.formedJ x lv = true) := Lib.hid (AV.allJ_all hall)
  have H24 := Lib.hid h24
  have HLV := Lib.hid hlv
  clear hS hat hall h24 hlv
  go_enter Tryd.func57, Tryd.ntmps57
  go_wp2_with fail
  go_loopg [8] xs.length (fun g v wr => ∃ (j : Nat) (ya : Option Addr) (yc : Nat) (ys : List AV), j + g = xs.length ∧ ys.length = j ∧ v = .slice ya ys.length yc ∧ Row w.heap.size (.slice none 0 0) ya yc ys wr ∧ AV.eqvAll (xs.take j) ys = true ∧ At p bs (AV.keyAll false (ns.drop j) (xs.drop j) ++ ([0] ++ r)) wr ∧ Kept p w wr)
  case atStart => exact ⟨0, none, 0, [], by omega, rfl, rfl, Row.nil _ _ _, by simp [AV.eqvAll], HAT.out, Kept.refl _ _⟩
  case round =>
    obtain ⟨j, ya, yc, ys, hj, hyl, rfl, hrow, heq, hat, hk⟩ := hrel
    have HJ := Lib.hid hj
    have HYL := Lib.hid hyl
    have HROW := Lib.hid hrow
    have HEQ := Lib.hid heq
    have HK := Lib.hid hk
    clear hj hyl hrow heq
    by_cases h1 : j < xs.length
    · have hd := AV.keyAll_drop (o := false) (ns := ns) h1
      rw [hd, AV.nameL, if_neg (by decide), List.nil_append, List.append_assoc] at hat
      have hmem : xs[j] ∈ xs := List.getElem_mem h1
      have hfx := HALL.out _ hmem
      have hih := IH.out _ hmem
      have HTK := Lib.hid (fun u (hu : AV.eqv xs[j] u = true) => eqvAll_take h1 rfl HYL.out HEQ.out hu)
      obtain ⟨x, hx⟩ : ∃ x, xs[j] = x := ⟨_, rfl⟩
      rw [hx] at hat hfx hih
      simp only [hx] at HTK
      have HAT2 := Lib.hid hat
      obtain ⟨c, l, hcl, hc0⟩ := AV.key_head hfx
      rw [hcl, List.cons_append] at hat
      have ENDS := Lib.hid (ends_more w0 wr p nb cb bs _ c ys.length (HS.out.kept hk) hat (by intro e; rw [e] at hc0; simp at hc0) (by have := H24.out; have := HYL.out; omega))
      rw [← List.cons_append, ← hcl] at ENDS
      have CALL := Lib.hid (fun W (h1 : Kept p wr W) (h2 : At p bs (AV.key x ++ (AV.keyAll false (ns.drop (j + 1)) (xs.drop (j + 1)) ++ ([0] ++ r))) W) => hih w0 W p nb cb bs _ lv ((HS.out.kept hk).kept h1) h2 hfx HLV.out)
      have HY24 : Hid (ys.length < 24) := Lib.hid (by have := H24.out; have := HYL.out; omega)
      clear hd hat hmem hfx hih hx hcl hc0 hk
      go_wp2_with fail
      refine (ENDS.out).mono ?_
      rintro e w1 ⟨rfl, hat1, hk1⟩
      have HA1 := Lib.hid hat1
      have HQ1 := Lib.hid hk1
      have HR1 := Lib.hid (HROW.out.step hk1 HPL.out)
      have HK1 := Lib.hid (HK.out.trans hk1)
      clear hat1 hk1
      go_wp2_with fail
      refine (CALL.out w1 HQ1.out HA1.out).mono ?_
      rintro e w2 ⟨u, rfl, hu, hlies, hat2, hk2⟩
      have HR2 := Lib.hid (HR1.out.step hk2 HPL.out)
      have HF := Lib.hid (own_lt (C := w1.heap.size) (D := w2.heap.size) HR1.out.own (Nat.le_refl _))
      have HTK2 := Lib.hid (HTK.out u hu)
      have HA2 := Lib.hid hat2
      have HK2 := Lib.hid (HK1.out.trans hk2)
      obtain ⟨k', n', s', na', nc', ns', xa', xc', xs'⟩ := u
      have HLI := Lib.hid hlies
      have hz1 : w.heap.size ≤ w1.heap.size := HK1.out.size
      have HZ2 := Lib.hid hk2.size
      clear hat2 hk2 hu hlies
      simp only [AV.val, AV.row]
      go_wp2_with (at_builtin; refine wpList_val2 rfl _ _ rfl HR2.out (Nat.le_trans hz1 HZ2.out) rfl (AV.mk k' n' s' na' nc' ns' xa' xc' xs') _ rfl rfl HLI.out hz1 (Nat.le_refl _) HF.out (fun g hg => by cases hg) HY24.out ?_)
      intro ya3 yc3 W3 hR3 hb3
      have HR3 : Hid (Row w.heap.size (.slice none 0 0) ya3 yc3 (ys ++ [AV.mk k' n' s' na' nc' ns' xa' xc' xs']) W3) := Lib.hid hR3
      have HA3 := Lib.hid (HA2.out.through hb3 HPL.out)
      have HK3 := Lib.hid (HK2.out.grow hb3)
      clear hR3 hb3
      go_wp2_with fail
      go_roundg (gk - 1)
      case measure => have := HJ.out; omega
      case rel => exact ⟨j + 1, ya3, yc3, _, by have := HJ.out; omega, by have := HYL.out; simp; omega, by simp, HR3.out, HTK2.out, HA3.out, HK3.out⟩
    · obtain rfl : j = xs.length := by have := HJ.out; omega
      rw [AV.keyAll_end (Nat.le_refl _), List.nil_append] at hat
      have ENDS := Lib.hid (ends_over w0 wr p nb cb bs r ys.length (HS.out.kept hk) hat)
      have heq := HEQ.out
      rw [List.take_of_length_le (Nat.le_refl _)] at heq
      have HEQ2 := Lib.hid heq
      clear hat hk heq
      go_wp2_with fail
      refine (ENDS.out).mono ?_
      rintro e w1 ⟨rfl, hat1, hk1⟩
      have HA1 := Lib.hid hat1
      have HR1 := Lib.hid (HROW.out.step hk1 HPL.out)
      have HK1 := Lib.hid (HK.out.trans hk1)
      clear hat1 hk1
      go_wp2_with fail
      go_ret2
      exact ⟨ya, yc, ys, _, rfl, HYL.out.symm, HEQ2.out, HR1.out, HA1.out, HK1.out⟩
end Go.Proofs.YtcbfbmidekmboaaDoor
