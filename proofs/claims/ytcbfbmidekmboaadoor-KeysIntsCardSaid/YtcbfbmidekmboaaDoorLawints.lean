/- KeysInts: an integer's key has nine bytes, and two integers' keys are ordered as they are: the walk of the statement. -/
import Derived.Test.YtcbfbmidekmboaaDoorAwk
import Derived.Test.YtcbfbmidekmboaaDoorKeyc
import Derived.Test.YtcbfbmidekmboaaDoorBsame
import Derived.Test.YtcbfbmidekmboaaDoorFewl
namespace Go.Proofs.YtcbfbmidekmboaaDoor
open Go.ChangeShapes Go.WideShapes Go.Deep Go.RowKit Go.Lib

theorem int_formed (n : Int) : AV.formedJ (AV.num 3 n) 6 = true := by
  simp [AV.num, AV.formedJ]

theorem int_key (n : Int) : (AV.key (AV.num 3 n)).length = 9 := by
  rw [AV.num, AV.key, if_pos rfl, List.length_cons, bigL_length]

theorem int_ord (a b : Int) : AV.ord (AV.num 3 a) (AV.num 3 b) = compareInt a b := by
  rw [AV.num, AV.num, AV.ord, if_pos rfl]
  exact lexI_of (cmpI_self 3)

set_option maxHeartbeats 4000000 in
set_option maxRecDepth 100000 in
theorem lawints_any (a b : Int) (w : World) (ha : (Lit.int .i64 a).wf = true) (hb : (Lit.int .i64 b).wf = true) (hT : Tabs w) : Calls Tryd.prog 8 #[.int .i64 a, .int .i64 b] w fun e w' => e = .returned (.bool true) ∧ Below w.heap.size w w' := by
  have AWAKE := Lib.hid (awake_any w hT)
  have KA := Lib.hid (fun W (h : Below w.heap.size w W) => Key_any (AV.num 3 a) W (num_in W (by decide) ha) (hT.later h))
  have KB := Lib.hid (fun W (h : Below w.heap.size w W) => Key_any (AV.num 3 b) W (num_in W (by decide) hb) (hT.later h))
  have hL := key_less (w := w) (int_formed a) (int_formed b) (num_in w (by decide) ha) (num_in w (by decide) hb)
  have hS := key_same (w := w) (int_formed a) (int_formed b) (num_in w (by decide) ha) (num_in w (by decide) hb)
  have la := int_key a
  have lb := int_key b
  unfold KeyGave keyR keyE at KA KB
  simp only [int_formed, if_true] at KA KB
  obtain ⟨ka, hka⟩ : ∃ l, AV.key (AV.num 3 a) = l := ⟨_, rfl⟩
  obtain ⟨kb, hkb⟩ : ∃ l, AV.key (AV.num 3 b) = l := ⟨_, rfl⟩
  rw [hka] at KA hL hS la
  rw [hkb] at KB hL hS lb
  rw [int_ord] at hL hS
  simp only [la] at KA
  simp only [lb] at KB
  have LESS := Lib.hid (fun (na nb : Option Addr) (ca cb : Nat) (W : World) (h1 : BytesIn W na ka) (h2 : BytesIn W nb kb) => lessB_any na nb ca cb ka kb W h1 h2 (by omega) (by omega))
  have SAME := Lib.hid (fun (na nb : Option Addr) (ca cb : Nat) (W : World) (h1 : BytesIn W na ka) (h2 : BytesIn W nb kb) => sameB_any na nb ca cb ka kb W h1 h2 (by omega) (by omega))
  simp only [la, lb] at LESS SAME
  have e1 : decide (compareBytes ka kb < 0) = decide (a < b) := by
    rw [hL]
    refine decide_eq_decide.2 ?_
    unfold compareInt
    split
    · exact ⟨fun _ => by omega, fun _ => by omega⟩
    · split <;> exact ⟨fun _ => by omega, fun _ => by omega⟩
  have e2 : decide (ka = kb) = decide (a = b) := decide_eq_decide.2 (hS.trans cmpI_zero)
  simp only [e1] at LESS
  simp only [e2] at SAME
  clear hL hS la lb hka hkb e1 e2 hT ha hb
  simp only [AV.num, AV.val, AV.row] at KA KB
  go_enter Tryd.func8, Tryd.ntmps8
  go_wp2_with fail
  refine (AWAKE.out).mono ?_
  rintro e w1 ⟨rfl, hb1⟩
  go_wp2_with fail
  refine (KA.out _ hb1).mono ?_
  rintro e w2 ⟨na, ca, rfl, hin2, hq2⟩
  have hb2 := hb1.trans (hq2.mono hb1.size)
  go_wp2_with fail
  refine (KB.out _ hb2).mono ?_
  rintro e w3 ⟨nb, cb, rfl, hin3, hq3⟩
  have hb3 := hb2.trans (hq3.mono hb2.size)
  have HA := Lib.hid (hin2.below hq3)
  have HBB := Lib.hid hin3
  clear hin2 hin3 hq2 hq3
  go_wp2_with fail
  refine (LESS.out na nb ca cb w3 HA.out HBB.out).mono ?_
  rintro e w4 ⟨rfl, hq4⟩
  go_wp2_with fail
  refine (SAME.out na nb ca cb w4 (HA.out.below hq4) (HBB.out.below hq4)).mono ?_
  rintro e w5 ⟨rfl, hq5⟩
  have hb5 := hb3.trans ((hq4.trans (hq5.mono hq4.size)).mono hb3.size)
  go_wp2_with fail
  go_ret
  exact ⟨ret_bool (by simp; rfl), hb5⟩
end Go.Proofs.YtcbfbmidekmboaaDoor
