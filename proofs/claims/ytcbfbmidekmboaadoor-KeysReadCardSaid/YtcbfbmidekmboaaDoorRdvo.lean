/- A value read: what the program's call answers where there is an object; and so for every value; no condition of ours. -/
import Derived.Test.YtcbfbmidekmboaaDoorRdva
import Derived.Test.YtcbfbmidekmboaaDoorRdo
import Derived.Test.YtcbfbmidekmboaaDoorKeyn
namespace Go.Proofs.YtcbfbmidekmboaaDoor
open Go.ChangeShapes Go.WideShapes Go.Deep Go.RowKit Go.Lib

theorem names_lie {B : Nat} {na : Option Addr} {nc : Nat} {ns : List ByteArray} {W : World} (h : W.ownsRow B 9 1 (.slice na ns.length nc) ns.length (ns.map Value.string)) :
    ns.length ≤ nc ∧ nc ≤ maxLen ∧ ∀ w' : World, (∀ k, B ≤ k → k < W.heap.size → w'.heap[k]? = W.heap[k]?) → AV.NamesIn w' na ns := by
  rcases id h.2 with ⟨hv, h0⟩ | ⟨g, cap, cur, hv, hb, hg, hc, hm, _⟩
  · simp only [Value.slice.injEq] at hv
    obtain ⟨rfl, _, rfl⟩ := hv
    exact ⟨by omega, Nat.zero_le _, fun _ _ => .inl (List.length_eq_zero_iff.1 h0)⟩
  · simp only [Value.slice.injEq, true_and] at hv
    obtain ⟨rfl, rfl⟩ := hv
    refine ⟨hc, hm, fun w' hw => .inr ⟨g, 0, rfl, fun i hi => ?_⟩⟩
    have h1 := h.cells (g := g) rfl i (.string ns[i]) (by simp [hi])
    rw [WideShapes.add_plain] at h1
    rw [World.cell?_of_block (w := W) (hw g hb (Array.getElem?_eq_some_iff.1 hg).1)]
    simpa using h1

set_option maxHeartbeats 4000000 in
set_option maxRecDepth 100000 in
theorem readValue_obj (w0 w : World) (p : Nat) (nb : Option Addr) (cb : Nat) (bs r : List UInt8) (sa : Option Addr) (sc : Nat) (xa : Option Addr) (xc : Nat) (ns : List ByteArray) (xs : List AV) (lv : Nat) (hl : ns.length = xs.length) (hns : ∀ y ∈ ns, y.size ≤ 60) (hall : AV.allJ xs (lv - 1) = true) (h24 : xs.length ≤ 24) (hlv6 : lv ≤ 6) (IH : Hid (∀ x ∈ xs, RdAt x)) (hS : Src w0 p nb bs w) (hat : At p bs (7 :: (AV.keyAll true ns xs ++ ([0] ++ r))) w) (hlv : 0 < lv) :
    Calls Tryd.prog 42 #[.slice nb bs.length cb, .pointer (some ⟨p, 0, none⟩), .int .i64 (lv : Int)] w (ValueGave p bs r (AV.mk 6 0 ⟨#[]⟩ sa sc ns xa xc xs) w) := by
  have HPL := Lib.hid hat.lt
  have hbz : Below w.heap.size w (w.alloc (.cells #[.int .i64 0, .int .i64 0, .string ⟨#[]⟩, .slice none 0 0, .slice none 0 0] 25)) := (Below.refl _ _).alloc (Nat.le_refl _) _
  have hkz : Kept p w (w.alloc (.cells #[.int .i64 0, .int .i64 0, .string ⟨#[]⟩, .slice none 0 0, .slice none 0 0] 25)) := Kept.of hbz
  have NEXT := Lib.hid (next_any w0 _ p nb cb bs 7 _ (hS.kept hkz) (hat.later hbz))
  obtain ⟨m, hm⟩ : ∃ m, m = lv - 1 := ⟨_, rfl⟩
  have NUM := Lib.hid (fun W (h1 : Kept p w W) (h2 : At p bs (AV.keyAll true ns xs ++ ([0] ++ r)) W) => readMembers_any w0 W p nb cb bs r ns xs m (hS.kept h1) h2 hl hns (by rw [hm]; exact hall) (by omega) h24 IH)
  have HNS : Hid (∀ y ∈ ns, y.size ≤ maxLen) := Lib.hid (fun y hy => by have := hns y hy; unfold maxLen; omega)
  have elv : (lv : Int) - 1 = (m : Int) := by omega
  have ewr : wrap64 (m : Int) = (m : Int) := by unfold wrap64; omega
  have HKZ := Lib.hid hkz
  have HBX := Lib.hid (heap_alloc_new w (.cells #[.int .i64 0, .int .i64 0, .string ⟨#[]⟩, .slice none 0 0, .slice none 0 0] 25))
  have e0 : ((lv : Int) == 0) = false := by rw [beq_eq_false_iff_ne]; omega
  have hlv' : ¬ (lv : Int) = 0 := by omega
  simp only [show (((7 : UInt8).toNat : Nat) : Int) = 7 from rfl] at NEXT
  clear hS hat hlv hbz hkz hall h24 hlv6 IH hm hl hns
  go_enter Tryd.func42, Tryd.ntmps42
  go_wp2_with fail
  refine (NEXT.out).mono ?_
  rintro e w1 ⟨rfl, hat1, hk1⟩
  have HA1 := Lib.hid (hat1.later ((Below.refl _ _).alloc (Nat.le_refl _) (.cells #[.int .i64 6, .int .i64 0, .string ⟨#[]⟩, .slice none 0 0, .slice none 0 0] 25)))
  have HB1 := Lib.hid (hk1.box HBX.out (by have := HPL.out; omega))
  have HK1 := Lib.hid ((HKZ.out.trans hk1).alloc (.cells #[.int .i64 6, .int .i64 0, .string ⟨#[]⟩, .slice none 0 0, .slice none 0 0] 25))
  have hz1 : w.heap.size < w1.heap.size := (Array.getElem?_eq_some_iff.1 HB1.out).1
  have HV1 := Lib.hid (heap_alloc_new w1 (.cells #[.int .i64 6, .int .i64 0, .string ⟨#[]⟩, .slice none 0 0, .slice none 0 0] 25))
  have HB1' := Lib.hid ((Lib.alloc_old w1 (.cells #[.int .i64 6, .int .i64 0, .string ⟨#[]⟩, .slice none 0 0, .slice none 0 0] 25) _ hz1).trans HB1.out)
  clear hat1 hk1 HB1
  go_wp2_with fail
  refine (NUM.out _ HK1.out HA1.out).mono ?_
  rintro e w2 ⟨ma, mc, ya, yc, ys, rfl, hyl, heq, hmo, hrow, hat2, hk2⟩
  have HYL := Lib.hid hyl
  have HEQ := Lib.hid heq
  have HROW := Lib.hid hrow
  have HMO := Lib.hid hmo
  have hzz : (w1.alloc (.cells #[.int .i64 6, .int .i64 0, .string ⟨#[]⟩, .slice none 0 0, .slice none 0 0] 25)).heap.size = w1.heap.size + 1 := by simp
  have HZZ := Lib.hid hzz
  clear hyl heq hrow hzz hmo
  have HA2 := Lib.hid hat2
  have HB2 := Lib.hid (hk2.box HB1'.out (by have := HPL.out; omega))
  have HV2 := Lib.hid (hk2.box HV1.out (by have := HPL.out; omega))
  have HK2 := Lib.hid (HK1.out.trans hk2)
  obtain ⟨d0, d1, d2, d3, d4⟩ := box_cells HB2.out
  obtain ⟨f0, f1, f2, f3, f4⟩ := fz5 HB2.out
  obtain ⟨a0, a1, a2, a3, a4⟩ := box_cells HV2.out
  obtain ⟨b0, b1, b2, b3, b4⟩ := fz5 HV2.out
  clear hat2 hk2
  go_wp2_with fail
  have hk3 := ((Kept.refl w1.heap.size w2).setAt 3 (.slice ma ns.length mc)).setAt 4 (.slice ya ys.length yc)
  have hpl := HPL.out
  have HA3 := Lib.hid (HA2.out.other hk3 (by omega))
  have HK3 := Lib.hid (HK2.out.fresh hk3 (by omega))
  have HB3 := Lib.hid (hk3.box HB2.out (by omega))
  have hkf := (Kept.refl w.heap.size ((w2.setCell ⟨w1.heap.size, 3, none⟩ (.slice ma ns.length mc)).setCell ⟨w1.heap.size, 4, none⟩ (.slice ya ys.length yc))).five (.int .i64 6) (.int .i64 0) (.string ⟨#[]⟩) (.slice ma ns.length mc) (.slice ya ys.length yc)
  have hfb := five_box HB3.out (.int .i64 6) (.int .i64 0) (.string ⟨#[]⟩) (.slice ma ns.length mc) (.slice ya ys.length yc)
  obtain ⟨g0, g1, g2, g3, g4⟩ := box_cells hfb
  refine bodyPost_ret (v := .tuple #[.agg #[.int .i64 6, .int .i64 0, .string ⟨#[]⟩, .slice ma ns.length mc, .slice ya ys.length yc], .bool true]) (by simp [results, Tryd.results42, go_sem, g0, g1, g2, g3, g4]) rfl ?_
  obtain ⟨hm1, hm2, hm3⟩ := names_lie HMO.out
  have hl := list_lies (k := 6) (by decide) hm1 hm2 HNS.out hm3 HROW.out
  have hB := HZZ.out
  exact value_end2 HA3.out HK3.out (Nat.le_refl _) HPL.out (AV.eqv_mk HYL.out HEQ.out) ((hl.later fun k hC hD => hk3.block k hD (by omega)).later fun k hC hD => hkf.block k (Nat.lt_of_lt_of_le hD hk3.size) (by omega)) (by omega) (Nat.le_trans hk3.size hkf.size) hkf rfl

theorem read_any : ∀ t : AV, (∃ W, t.In W) → RdAt t := by
  intro t
  induction t using AV.ind with
  | h k n s na nc ns xa xc xs ih =>
    intro ⟨W, hin⟩ w0 w p nb cb bs r lv hS hat hf hlv6
    have hp := AV.parts hf
    have hf0 := hf
    rw [AV.formedJ] at hf
    by_cases h0 : lv = 0
    · rw [if_pos h0] at hf; cases hf
    rw [if_neg h0] at hf
    have hlv : 0 < lv := by omega
    have ih' : Hid (∀ x ∈ xs, RdAt x) := Lib.hid fun x hx => ih x hx ⟨W, hin.each x hx⟩
    rw [AV.key, List.cons_append] at hat
    by_cases h012 : k = 0 ∨ k = 1 ∨ k = 2
    · rw [if_neg (by omega), if_neg (by omega), if_neg (by omega), List.nil_append] at hat
      rw [if_pos h012] at hf
      simp only [Bool.and_eq_true, decide_eq_true_eq] at hf
      obtain ⟨rfl, hs, rfl, rfl⟩ := hf
      obtain rfl := empty_of hs
      rcases h012 with rfl | rfl | rfl
      · exact readValue_word w0 w p nb cb bs r 0 1 na nc xa xc lv (.inl ⟨rfl, rfl⟩) hS hat hlv hlv6
      · exact readValue_word w0 w p nb cb bs r 1 2 na nc xa xc lv (.inr (.inl ⟨rfl, rfl⟩)) hS hat hlv hlv6
      · exact readValue_word w0 w p nb cb bs r 2 3 na nc xa xc lv (.inr (.inr ⟨rfl, rfl⟩)) hS hat hlv hlv6
    rw [if_neg h012] at hf
    by_cases h3 : k = 3
    · subst h3
      rw [if_pos rfl] at hat hf
      simp only [Bool.and_eq_true, decide_eq_true_eq] at hf
      obtain ⟨hs, rfl, rfl⟩ := hf
      obtain rfl := empty_of hs
      have hn := hin.num
      have hw : (Lit.int .i64 n).wf = true := by rw [AV.In] at hin; exact hin.2.1
      exact readValue_num w0 w p nb cb bs r n na nc xa xc lv hn.1 hn.2 hw hS hat hlv
    rw [if_neg h3] at hf hat
    by_cases h4 : k = 4
    · subst h4
      rw [if_pos rfl] at hat hf
      simp only [Bool.and_eq_true, decide_eq_true_eq] at hf
      obtain ⟨rfl, hs, rfl, rfl⟩ := hf
      have h60 : s.size ≤ 60 := by unfold textOk at hs; simp only [Bool.and_eq_true, decide_eq_true_eq] at hs; exact hs.1
      exact readValue_text w0 w p nb cb bs r s na nc xa xc lv h60 hS hat hlv
    rw [if_neg h4] at hf hat
    by_cases h5 : k = 5
    · subst h5
      rw [if_pos (.inl rfl), List.append_assoc] at hat
      rw [if_pos rfl] at hf
      simp only [Bool.and_eq_true, decide_eq_true_eq] at hf
      obtain ⟨rfl, hs, rfl, h24, ha⟩ := hf
      obtain rfl := empty_of hs
      exact readValue_arr w0 w p nb cb bs r na nc xa xc xs lv ha h24 hlv6 ih' hS hat hlv
    rw [if_neg h5] at hf
    by_cases h6 : k = 6
    · subst h6
      rw [if_pos (.inr rfl), List.append_assoc] at hat
      rw [if_pos rfl] at hf
      simp only [Bool.and_eq_true, decide_eq_true_eq] at hf
      obtain ⟨rfl, hs, hl, ⟨h24, ha⟩, hn⟩ := hf
      obtain rfl := empty_of hs
      exact readValue_obj w0 w p nb cb bs r na nc xa xc ns xs lv hl (names_short hn) ha h24 hlv6 ih' hS hat hlv
    · rw [if_neg h6] at hf
      cases hf
end Go.Proofs.YtcbfbmidekmboaaDoor
