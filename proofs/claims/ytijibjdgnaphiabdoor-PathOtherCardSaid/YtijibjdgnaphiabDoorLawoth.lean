/- PathOther: at the first step of another path all stays as it was: the walk of the statement. -/
import Derived.Test.YtijibjdgnaphiabDoorPoth
import Derived.Test.YtijibjdgnaphiabDoorPputs
import Derived.Test.YtijibjdgnaphiabDoorLawsteps
import Derived.Test.YtijibjdgnaphiabDoorLawback
namespace Go.Proofs.YtijibjdgnaphiabDoor
open Go.ChangeShapes Go.WideShapes Go.Deep Go.RowKit Go.Lib

theorem oeqv_join {a b c : Option AV} (h : OEqv a c) (h' : OEqv b c) : OEqv a b := by
  cases a <;> cases b <;> cases c <;> first | trivial | (exact h.elim) | (exact h'.elim) | exact eqv_trans (show AV.eqv _ _ = true from h) (eqv_symm h')

/-- What two askings of another path tell. -/
theorem other_spec {t x Z a : AV} {l m : List UInt8} {p q : ByteArray} (h : putSpec t l x = .ok Z) (ha : AV.eqv a Z = true) (hm : stepErr m = 0) (hp : (stepNames l)[0]? = some p) (hq : (stepNames m)[0]? = some q) (hne : q ≠ p) : OEqv (getSpec t m) (getSpec a m) := by
  unfold putSpec at h
  split at h
  · rename_i hg
    obtain ⟨h0, h6, hf, hx⟩ := hg
    split at h
    · cases h
    · rename_i z hz
      split at h
      · rename_i hzf
        cases h
        have haf : AV.formedJ a 6 = true := by rw [formed_eqv a _ 6 ha]; exact hzf
        unfold getSpec
        rw [if_pos ⟨hm, hf⟩, if_pos ⟨hm, haf⟩]
        obtain ⟨r, hr⟩ : ∃ r, stepNames l = p :: r := by
          cases hs : stepNames l with
          | nil => rw [hs] at hp; cases hp
          | cons u r => rw [hs] at hp; cases hp; exact ⟨r, rfl⟩
        obtain ⟨r', hr'⟩ : ∃ r, stepNames m = q :: r := by
          cases hs : stepNames m with
          | nil => rw [hs] at hq; cases hq
          | cons u r => rw [hs] at hq; cases hq; exact ⟨r, rfl⟩
        rw [hr] at hz
        have h1 := put_other (r' := r') h6 hf hz hzf hne
        have h2 := at_eqv (stepNames m) ha
        rw [hr'] at h2 ⊢
        exact oeqv_join h1 h2
      · cases h
  · cases h

/-- .. and what is answered of both. -/
theorem answers_eqv {o o' : Option AV} {y y' : AV} (h : OEqv o o') (hy : Answers o y) (hy' : Answers o' y') : o.isSome = o'.isSome ∧ AV.eqv y y' = true := by
  cases o <;> cases o'
  · refine ⟨rfl, ?_⟩
    rw [show y = AV.zero from hy, show y' = AV.zero from hy']
    exact AV.eqv_refl _
  · exact h.elim
  · exact h.elim
  · exact ⟨rfl, eqv_trans (eqv_trans (show AV.eqv y _ = true from hy) h) (eqv_symm (show AV.eqv y' _ = true from hy'))⟩

theorem stepErr_cases (l : List UInt8) : stepErr l = 0 ∨ stepErr l = 2 := by
  unfold stepErr
  split
  · exact .inl rfl
  · exact .inr rfl

/-- The three boxes of the arguments. -/
structure Tri (w : World) (a b c : Array Value) (W : World) : Prop where
  h0 : W.heap[w.heap.size]? = some (.cells a 25 (0, 0))
  h1 : W.heap[w.heap.size + 1]? = some (.cells b 26 (0, 0))
  h2 : W.heap[w.heap.size + 1 + 1]? = some (.cells c 25 (0, 0))
  hb : Below w.heap.size w W

theorem Tri.later {w W W' : World} {a b c : Array Value} (h : Tri w a b c W) (hb : Below W.heap.size W W') : Tri w a b c W' :=
  ⟨(hb.block _ (block_lt h.h0)).trans h.h0, (hb.block _ (block_lt h.h1)).trans h.h1, (hb.block _ (block_lt h.h2)).trans h.h2, h.hb.trans (hb.mono h.hb.size)⟩

theorem tri_new (w : World) (a b c : Array Value) : Tri w a b c (((w.alloc (.cells a 25)).alloc (.cells b 26)).alloc (.cells c 25)) := by
  have e1 : (w.alloc (.cells a 25)).heap.size = w.heap.size + 1 := by simp
  have e2 : ((w.alloc (.cells a 25)).alloc (.cells b 26)).heap.size = w.heap.size + 1 + 1 := by simp
  refine ⟨?_, ?_, ?_, (((Below.refl _ _).alloc (Nat.le_refl _) _).alloc (by simp) _).alloc (by simp; omega) _⟩
  · rw [Lib.alloc_old _ _ _ (by simp; omega), Lib.alloc_old _ _ _ (by simp)]; exact heap_alloc_new w _
  · rw [Lib.alloc_old _ _ _ (by simp)]
    have := heap_alloc_new (w.alloc (.cells a 25)) (.cells b 26)
    rwa [e1] at this
  · have := heap_alloc_new ((w.alloc (.cells a 25)).alloc (.cells b 26)) (.cells c 25)
    rwa [e2] at this

theorem two_cells {w : World} {n : Nat} {a b : Value} (h : w.heap[n]? = some (.cells #[a, b] 26 (0, 0))) : w.cell? ⟨n, 0, none⟩ = some a ∧ w.cell? ⟨n, 1, none⟩ = some b := by
  refine ⟨?_, ?_⟩ <;> rw [Lib.cell_of_heap h] <;> rfl

set_option maxHeartbeats 3200000 in
set_option maxRecDepth 100000 in
theorem lawoth_any (t x : AV) (s s' : ByteArray) (w : World) (hin : t.In w) (hxin : x.In w) (hs : s.size ≤ maxLen) (hs' : s'.size ≤ maxLen) (hT : Tabs w) (hM : MaxL w) (hE : ErrV w) : Calls Tryd.prog 3 #[t.val, .agg #[.string s, .string s'], x.val] w fun e w' => e = .returned (.bool true) ∧ Below w.heap.size w w' := by
  unfold maxLen at hs hs'
  have AW := Lib.hid (fun W (h : Below w.heap.size w W) => awakep_any W (hT.later h) (hM.later h))
  have FEWT := Lib.hid (fun W (h : Below w.heap.size w W) => few_any t W (hin.below h (Nat.le_refl _)))
  have FEWX := Lib.hid (fun W (h : Below w.heap.size w W) => few_any x W (hxin.below h (Nat.le_refl _)))
  obtain ⟨F, hF⟩ : ∃ F, AV.few t = F := ⟨_, rfl⟩
  obtain ⟨G, hG⟩ : ∃ G, AV.few x = G := ⟨_, rfl⟩
  rw [hF] at FEWT
  rw [hG] at FEWX
  have HTRI := Lib.hid (tri_new w)
  by_cases hgo : (F = true ∧ G = true) ∧ s.size ≤ 2000 ∧ s'.size ≤ 2000
  · obtain ⟨⟨rfl, rfl⟩, hz1, hz2⟩ := hgo
    have ST0 := Lib.hid (fun W (h : Below w.heap.size w W) => (Steps_cap s W hz1 (hT.later h) (hM.later h)).mono fun _ _ h => StepsCap.told h)
    have ST1 := Lib.hid (fun W (h : Below w.heap.size w W) => (Steps_cap s' W hz2 (hT.later h) (hM.later h)).mono fun _ _ h => StepsCap.told h)
    have PUT := Lib.hid (fun W (h : Below w.heap.size w W) => Put_any t x s W (hin.below h (Nat.le_refl _)) (hxin.below h (Nat.le_refl _)) hz1 (hT.later h) (hM.later h) (hE.later h))
    have GETT := Lib.hid (fun W (h : Below w.heap.size w W) => Get_any t s' W (hin.below h (Nat.le_refl _)) hz2 (hT.later h) (hM.later h) (hE.later h))
    have GETP := Lib.hid (fun W (h : Below w.heap.size w W) (p : AV) (hp : p.In W) => Get_any p s' W hp hz2 (hT.later h) (hM.later h) (hE.later h))
    have SAME := Lib.hid (fun W (y z : AV) (hy : y.In W) (hz : z.In W) => rsame_any y z W hy hz)
    obtain ⟨S, hS⟩ : ∃ S, putSpec t s.data.toList x = S := ⟨_, rfl⟩
    rw [hS] at PUT
    obtain ⟨O, hO⟩ : ∃ O, getSpec t s'.data.toList = O := ⟨_, rfl⟩
    rw [hO] at GETT
    have he0 := stepErr_cases s.data.toList
    have he1 := stepErr_cases s'.data.toList
    have hn0 := stepNames_ne (l := s.data.toList)
    have hn1 := stepNames_ne (l := s'.data.toList)
    have SPEC : Hid (∀ Z a p q, S = .ok Z → AV.eqv a Z = true → stepErr s'.data.toList = 0 → (stepNames s.data.toList)[0]? = some p → (stepNames s'.data.toList)[0]? = some q → q ≠ p → OEqv O (getSpec a s'.data.toList)) :=
      Lib.hid (fun Z a p q hZ ha hm hp hq hne => hO ▸ other_spec (hS.trans hZ) ha hm hp hq hne)
    have SERR : Hid (∀ c, S = .error c → c = 2 ∨ c = 3 ∨ c = 4) := Lib.hid (fun c h => putSpec_err (hS.trans h))
    obtain ⟨E0, hE0⟩ : ∃ E, stepErr s.data.toList = E := ⟨_, rfl⟩
    obtain ⟨E1, hE1⟩ : ∃ E, stepErr s'.data.toList = E := ⟨_, rfl⟩
    obtain ⟨N0, hN0⟩ : ∃ E, stepNames s.data.toList = E := ⟨_, rfl⟩
    obtain ⟨N1, hN1⟩ : ∃ E, stepNames s'.data.toList = E := ⟨_, rfl⟩
    rw [hE0] at ST0 he0 hn0
    rw [hE1] at ST1 he1 hn1 SPEC
    rw [hN0] at ST0 hn0 SPEC
    rw [hN1] at ST1 hn1 SPEC
    have HE0 := Lib.hid he0
    have HE1 := Lib.hid he1
    have HN0 := Lib.hid hn0
    have HN1 := Lib.hid hn1
    have q1 : (s.size : Int) ≤ 2000 := by omega
    have q2 : (s'.size : Int) ≤ 2000 := by omega
    clear hF hG hin hxin hT hM hE hS hO he0 he1 hn0 hn1 hE0 hE1 hN0 hN1 hs hs' hz1 hz2
    obtain ⟨k, n, str, na, nc, ns, xa, xc, xs⟩ := t
    obtain ⟨k2, n2, s2, na2, nc2, ns2, xa2, xc2, xs2⟩ := x
    simp only [AV.val, AV.row] at FEWT FEWX PUT GETT ⊢
    have HB1 := Lib.hid (HTRI.out #[.int .i64 k, .int .i64 n, .string str, .slice na ns.length nc, .slice xa xs.length xc] #[.string s, .string s'] #[.int .i64 k2, .int .i64 n2, .string s2, .slice na2 ns2.length nc2, .slice xa2 xs2.length xc2])
    clear HTRI
    go_enter Tryd.func3, Tryd.ntmps3
    go_upto_region 1 with fail
    generalize (((w.alloc (.cells #[.int .i64 k, .int .i64 n, .string str, .slice na ns.length nc, .slice xa xs.length xc] 25)).alloc (.cells #[.string s, .string s'] 26)).alloc (.cells #[.int .i64 k2, .int .i64 n2, .string s2, .slice na2 ns2.length nc2, .slice xa2 xs2.length xc2] 25)) = W0 at *
    go_wp2_with fail
    refine (AW.out _ HB1.out.hb).mono ?_
    rintro e w1 ⟨rfl, hq⟩
    have HB2 := Lib.hid (HB1.out.later hq)
    clear hq HB1
    obtain ⟨a0, a1, a2, a3, a4⟩ := bx5 HB2.out.h0
    go_wp2_with fail
    refine (FEWT.out _ HB2.out.hb).mono ?_
    rintro e w2 ⟨rfl, hq⟩
    have HB3 := Lib.hid (HB2.out.later hq)
    clear hq HB2 a0 a1 a2 a3 a4
    obtain ⟨b0, b1, b2, b3, b4⟩ := bx5 HB3.out.h2
    go_wp2_with fail
    refine (FEWX.out _ HB3.out.hb).mono ?_
    rintro e w3 ⟨rfl, hq⟩
    have HB4 := Lib.hid (HB3.out.later hq)
    clear hq HB3 b0 b1 b2 b3 b4 FEWT FEWX AW
    obtain ⟨c0, c1⟩ := two_cells HB4.out.h1
    go_wp2_with fail
    refine (ST0.out _ HB4.out.hb).mono ?_
    rintro e w4 ⟨la, lc, rfl, hnin0, hq, hlc⟩
    have HB5 := Lib.hid (HB4.out.later hq)
    have HI0 := Lib.hid hnin0
    clear hq HB4 c0 c1 hnin0 ST0
    obtain ⟨c0, c1⟩ := two_cells HB5.out.h1
    go_wp2_with fail
    refine (ST1.out _ HB5.out.hb).mono ?_
    rintro e w5 ⟨ma, mc, rfl, hnin1, hq, hmc⟩
    have HB6 := Lib.hid (HB5.out.later hq)
    have HI1 := Lib.hid hnin1
    have HI2 := Lib.hid (HI0.out.below hq)
    clear hq HB5 c0 c1 hnin1 ST1 HI0
    obtain ⟨c0, c1⟩ := two_cells HB6.out.h1
    obtain ⟨a0, a1, a2, a3, a4⟩ := bx5 HB6.out.h0
    obtain ⟨b0, b1, b2, b3, b4⟩ := bx5 HB6.out.h2
    go_wp2_with fail
    refine (PUT.out _ HB6.out.hb).mono ?_
    rintro e w6 ⟨hq, hend⟩
    have HB7 := Lib.hid (HB6.out.later hq)
    have HJ1 := Lib.hid (HI1.out.below hq)
    have HJ0 := Lib.hid (HI2.out.below hq)
    clear hq HB6 HI1 HI2 a0 a1 a2 a3 a4 b0 b1 b2 b3 b4 c0 c1 PUT
    have he0 := HE0.out
    have he1 := HE1.out
    cases S with
    | error c =>
      have hc := SERR.out c rfl
      simp only [AV.zero, AV.val, AV.row, List.length_nil] at hend
      subst hend
      have HB8 := Lib.hid (HB7.out.later (one_more _ (.cells #[.int .i64 0, .int .i64 0, .string ⟨#[]⟩, .slice none 0 0, .slice none 0 0] 25)))
      clear HB7 SPEC SAME GETT GETP HJ0 HJ1 HN0 HN1
      have hcz : (c == 0) = false := by rcases hc with rfl | rfl | rfl <;> rfl
      have hcz2 : (c != 0) = true := by rcases hc with rfl | rfl | rfl <;> rfl
      clear hc SERR HE0 HE1
      rcases he0 with rfl | rfl
      all_goals
        rcases he1 with rfl | rfl
        all_goals
          go_upto_region 6 with fail
          generalize w6.alloc (.cells #[.int .i64 0, .int .i64 0, .string ⟨#[]⟩, .slice none 0 0, .slice none 0 0] 25) = w7 at *
          go_quiet (fail)
          go_wp2_with fail
          go_ret
          refine ⟨?_, HB8.out.hb.trans ⟨rfl, rfl, rfl, Nat.le_refl _, fun _ _ => rfl⟩⟩
          kernel_rfl
    | ok Z =>
      obtain ⟨p, rfl, hpin, hpe⟩ := hend
      have SP := Lib.hid (fun u v h1 h2 h3 h4 => SPEC.out Z p u v rfl hpe h1 h2 h3 h4)
      have GP := Lib.hid (fun W (h : Below w.heap.size w W) (hp : p.In W) => GETP.out W h p hp)
      have HPIN := Lib.hid hpin
      clear hpe hpin SPEC SERR GETP
      obtain ⟨R, hR⟩ : ∃ R, getSpec p s'.data.toList = R := ⟨_, rfl⟩
      rw [hR] at GP SP
      clear hR
      obtain ⟨k4, n4, s4, na4, nc4, ns4, xa4, xc4, xs4⟩ := p
      simp only [AV.val, AV.row] at GP ⊢
      have HB8 := Lib.hid (HB7.out.later (one_more _ (.cells #[.int .i64 k4, .int .i64 n4, .string s4, .slice na4 ns4.length nc4, .slice xa4 xs4.length xc4] 25)))
      have HX8 := Lib.hid (heap_alloc_new w6 (.cells #[.int .i64 k4, .int .i64 n4, .string s4, .slice na4 ns4.length nc4, .slice xa4 xs4.length xc4] 25))
      have HP8 := Lib.hid (HPIN.out.below (one_more _ (.cells #[.int .i64 k4, .int .i64 n4, .string s4, .slice na4 ns4.length nc4, .slice xa4 xs4.length xc4] 25)) (Nat.le_refl _))
      have HK0 := Lib.hid (HJ0.out.below (one_more _ (.cells #[.int .i64 k4, .int .i64 n4, .string s4, .slice na4 ns4.length nc4, .slice xa4 xs4.length xc4] 25)))
      have HK1 := Lib.hid (HJ1.out.below (one_more _ (.cells #[.int .i64 k4, .int .i64 n4, .string s4, .slice na4 ns4.length nc4, .slice xa4 xs4.length xc4] 25)))
      clear HB7 HPIN HJ0 HJ1 HE0 HE1
      have hpos : (E0 = 0 ∧ E1 = 0) ∨ ¬ (E0 = 0 ∧ E1 = 0) := Classical.em _
      rcases hpos with ⟨rfl, rfl⟩ | hbad
      rotate_left
      · rcases he0 with rfl | rfl
        all_goals
          rcases he1 with rfl | rfl
          all_goals
            first
              | (exact absurd ⟨rfl, rfl⟩ hbad)
              | (clear hbad
                 go_upto_region 6 with fail
                 generalize w6.alloc (.cells #[.int .i64 k4, .int .i64 n4, .string s4, .slice na4 ns4.length nc4, .slice xa4 xs4.length xc4] 25) = w7 at *
                 go_quiet (fail)
                 go_wp2_with fail
                 go_ret
                 refine ⟨?_, HB8.out.hb.trans ⟨rfl, rfl, rfl, Nat.le_refl _, fun _ _ => rfl⟩⟩
                 kernel_rfl)
      · clear he0 he1
        have hn0 := HN0.out rfl
        have hn1 := HN1.out rfl
        obtain ⟨g0, o0, rfl, hit0⟩ := HK0.out.resolve_left hn0
        obtain ⟨g1, o1, rfl, hit1⟩ := HK1.out.resolve_left hn1
        have l0 : 0 < N0.length := List.length_pos_iff.2 hn0
        have l1 : 0 < N1.length := List.length_pos_iff.2 hn1
        have f0 := hit0 0 l0
        have f1 := hit1 0 l1
        have SQ := Lib.hid (fun (h : N1[0]'l1 ≠ N0[0]'l0) => SP.out (N0[0]'l0) (N1[0]'l1) rfl (List.getElem?_eq_getElem l0) (List.getElem?_eq_getElem l1) h)
        generalize N0[0] = u0 at *
        generalize N1[0] = u1 at *
        clear hn0 hn1 hit0 hit1 SP HK0 HK1 HN0 HN1
        simp only [Nat.add_zero] at f0 f1
        go_upto_region 6 with fail
        obtain ⟨X, hX⟩ : ∃ X, w6.heap.size = X := ⟨_, rfl⟩
        rw [hX] at HX8
        simp only [hX]
        generalize w6.alloc (.cells #[.int .i64 k4, .int .i64 n4, .string s4, .slice na4 ns4.length nc4, .slice xa4 xs4.length xc4] 25) = w7 at *
        clear hX
        by_cases hne : u1 = u0
        · have e1 : (u0.toList == u1.toList) = true := by rw [hne]; simp
          clear SQ hne
          go_quiet (fail)
          go_wp2_with fail
          go_ret
          refine ⟨?_, HB8.out.hb.trans ⟨rfl, rfl, rfl, Nat.le_refl _, fun _ _ => rfl⟩⟩
          kernel_rfl
        · have hoe := SQ.out hne
          have e1 : (u0.toList == u1.toList) = false := str_eq_false (fun h => hne h.symm)
          have HOE := Lib.hid hoe
          clear SQ hne hoe
          go_quiet (fail)
          have hd : Below w7.heap.size w7 (w7.drewN nq) := ⟨rfl, rfl, rfl, Nat.le_refl _, fun _ _ => rfl⟩
          have HB9 := Lib.hid (HB8.out.later hd)
          have HX9 := Lib.hid (kept5 HX8.out hd)
          have HP9 := Lib.hid (HP8.out.below hd (Nat.le_refl _))
          clear HB8 HX8 HP8 hd f0 f1
          generalize w7.drewN nq = w8 at *
          go_upto_region 8 with fail
          obtain ⟨c0, c1⟩ := two_cells HB9.out.h1
          obtain ⟨a0, a1, a2, a3, a4⟩ := bx5 HB9.out.h0
          go_wp2_with fail
          refine (GETT.out _ HB9.out.hb).mono ?_
          rintro e w9 ⟨hq, y5, rfl, hyin, hya⟩
          have HB10 := Lib.hid (HB9.out.later hq)
          have HX10 := Lib.hid (kept5 HX9.out hq)
          have HP10 := Lib.hid (HP9.out.below hq (Nat.le_refl _))
          have HYA := Lib.hid hya
          clear hq HB9 HX9 HP9 c0 c1 a0 a1 a2 a3 a4 GETT hya
          obtain ⟨Y5, hY5⟩ : ∃ Y, Y = y5 := ⟨_, rfl⟩
          rw [← hY5] at HYA
          have HY5 := Lib.hid hY5
          clear hY5
          obtain ⟨k5, n5, s5, na5, nc5, ns5, xa5, xc5, xs5⟩ := y5
          simp only [AV.val, AV.row]
          have HB11 := Lib.hid (HB10.out.later (one_more _ (.cells #[.int .i64 k5, .int .i64 n5, .string s5, .slice na5 ns5.length nc5, .slice xa5 xs5.length xc5] 25)))
          have HX11 := Lib.hid (kept5 HX10.out (one_more _ (.cells #[.int .i64 k5, .int .i64 n5, .string s5, .slice na5 ns5.length nc5, .slice xa5 xs5.length xc5] 25)))
          have HP11 := Lib.hid (HP10.out.below (one_more _ (.cells #[.int .i64 k5, .int .i64 n5, .string s5, .slice na5 ns5.length nc5, .slice xa5 xs5.length xc5] 25)) (Nat.le_refl _))
          have HI11 := Lib.hid (hyin.below (one_more _ (.cells #[.int .i64 k5, .int .i64 n5, .string s5, .slice na5 ns5.length nc5, .slice xa5 xs5.length xc5] 25)) (Nat.le_refl _))
          have HM11 := Lib.hid (heap_alloc_new w9 (.cells #[.int .i64 k5, .int .i64 n5, .string s5, .slice na5 ns5.length nc5, .slice xa5 xs5.length xc5] 25))
          obtain ⟨U, hU⟩ : ∃ U, O.isSome = U := ⟨_, rfl⟩
          rw [hU]
          have HU := Lib.hid hU
          clear hU
          go_upto_region 9 with fail
          obtain ⟨M, hM⟩ : ∃ M, w9.heap.size = M := ⟨_, rfl⟩
          rw [hM] at HM11
          simp only [hM]
          generalize w9.alloc (.cells #[.int .i64 k5, .int .i64 n5, .string s5, .slice na5 ns5.length nc5, .slice xa5 xs5.length xc5] 25) = w10 at *
          clear hM HB10 HX10 HP10 hyin
          obtain ⟨c0, c1⟩ := two_cells HB11.out.h1
          obtain ⟨m0, m1, m2, m3, m4⟩ := bx5 HX11.out
          go_wp2_with fail
          refine (GP.out _ HB11.out.hb HP11.out).mono ?_
          rintro e w11 ⟨hq, y6, rfl, hzin, hza⟩
          have HB12 := Lib.hid (HB11.out.later hq)
          have HI12 := Lib.hid (HI11.out.below hq (Nat.le_refl _))
          have HM12 := Lib.hid (kept5 HM11.out hq)
          obtain ⟨hb1, hb2⟩ := answers_eqv HOE.out HYA.out hza
          rw [← hb1, HU.out]
          rw [HY5.out] at hb2
          have SAM := Lib.hid (fun (W : World) (h1 : (AV.mk k5 n5 s5 na5 nc5 ns5 xa5 xc5 xs5).In W) (h2 : y6.In W) => SAME.out W (AV.mk k5 n5 s5 na5 nc5 ns5 xa5 xc5 xs5) y6 h1 h2)
          rw [hb2] at SAM
          clear hq HB11 HX11 HP11 HI11 HM11 c0 c1 m0 m1 m2 m3 m4 GP hza hb1 hb2 SAME HOE HYA HY5 HU
          obtain ⟨k6, n6, s6, na6, nc6, ns6, xa6, xc6, xs6⟩ := y6
          simp only [AV.val, AV.row] at SAM ⊢
          have HB13 := Lib.hid (HB12.out.later (one_more _ (.cells #[.int .i64 k6, .int .i64 n6, .string s6, .slice na6 ns6.length nc6, .slice xa6 xs6.length xc6] 25)))
          have HI13 := Lib.hid (HI12.out.below (one_more _ (.cells #[.int .i64 k6, .int .i64 n6, .string s6, .slice na6 ns6.length nc6, .slice xa6 xs6.length xc6] 25)) (Nat.le_refl _))
          have HZ13 := Lib.hid (hzin.below (one_more _ (.cells #[.int .i64 k6, .int .i64 n6, .string s6, .slice na6 ns6.length nc6, .slice xa6 xs6.length xc6] 25)) (Nat.le_refl _))
          have HM13 := Lib.hid (kept5 HM12.out (one_more _ (.cells #[.int .i64 k6, .int .i64 n6, .string s6, .slice na6 ns6.length nc6, .slice xa6 xs6.length xc6] 25)))
          have HN13 := Lib.hid (heap_alloc_new w11 (.cells #[.int .i64 k6, .int .i64 n6, .string s6, .slice na6 ns6.length nc6, .slice xa6 xs6.length xc6] 25))
          go_upto_region 10 with fail
          obtain ⟨M2, hM2⟩ : ∃ M, w11.heap.size = M := ⟨_, rfl⟩
          rw [hM2] at HN13
          simp only [hM2]
          generalize w11.alloc (.cells #[.int .i64 k6, .int .i64 n6, .string s6, .slice na6 ns6.length nc6, .slice xa6 xs6.length xc6] 25) = w12 at *
          clear hM2 HB12 HI12 HM12 hzin
          obtain ⟨a0, a1, a2, a3, a4⟩ := bx5 HM13.out
          obtain ⟨m0, m1, m2, m3, m4⟩ := bx5 HN13.out
          have hUU : (U == U) = true := by cases U <;> rfl
          go_wp2_with fail
          refine (SAM.out _ HI13.out HZ13.out).mono ?_
          rintro e w13 ⟨rfl, hq⟩
          have HB14 := Lib.hid (HB13.out.later hq)
          go_wp2_with fail
          go_ret
          refine ⟨?_, HB14.out.hb⟩
          kernel_rfl
  · have hends : F = false ∨ (F = true ∧ G = false) ∨ ((F = true ∧ G = true) ∧ ¬ (s.size : Int) ≤ 2000) ∨ ((F = true ∧ G = true) ∧ (s.size : Int) ≤ 2000 ∧ ¬ (s'.size : Int) ≤ 2000) := by
      cases F
      · exact .inl rfl
      · cases G
        · exact .inr (.inl ⟨rfl, rfl⟩)
        · by_cases h1 : (s.size : Int) ≤ 2000
          · exact .inr (.inr (.inr ⟨⟨rfl, rfl⟩, h1, fun h => hgo ⟨⟨rfl, rfl⟩, by omega, by omega⟩⟩))
          · exact .inr (.inr (.inl ⟨⟨rfl, rfl⟩, h1⟩))
    clear hF hG hin hxin hT hM hE hgo
    obtain ⟨k, n, str, na, nc, ns, xa, xc, xs⟩ := t
    obtain ⟨k2, n2, s2, na2, nc2, ns2, xa2, xc2, xs2⟩ := x
    simp only [AV.val, AV.row] at FEWT FEWX ⊢
    have HB1 := Lib.hid (HTRI.out #[.int .i64 k, .int .i64 n, .string str, .slice na ns.length nc, .slice xa xs.length xc] #[.string s, .string s'] #[.int .i64 k2, .int .i64 n2, .string s2, .slice na2 ns2.length nc2, .slice xa2 xs2.length xc2])
    clear HTRI
    go_enter Tryd.func3, Tryd.ntmps3
    go_upto_region 1 with fail
    generalize (((w.alloc (.cells #[.int .i64 k, .int .i64 n, .string str, .slice na ns.length nc, .slice xa xs.length xc] 25)).alloc (.cells #[.string s, .string s'] 26)).alloc (.cells #[.int .i64 k2, .int .i64 n2, .string s2, .slice na2 ns2.length nc2, .slice xa2 xs2.length xc2] 25)) = W0 at *
    go_wp2_with fail
    refine (AW.out _ HB1.out.hb).mono ?_
    rintro e w1 ⟨rfl, hq⟩
    have HB2 := Lib.hid (HB1.out.later hq)
    clear hq HB1
    obtain ⟨a0, a1, a2, a3, a4⟩ := bx5 HB2.out.h0
    go_wp2_with fail
    refine (FEWT.out _ HB2.out.hb).mono ?_
    rintro e w2 ⟨rfl, hq⟩
    have HB3 := Lib.hid (HB2.out.later hq)
    clear hq HB2 a0 a1 a2 a3 a4
    rcases hends with rfl | ⟨rfl, rfl⟩ | ⟨⟨rfl, rfl⟩, h2⟩ | ⟨⟨rfl, rfl⟩, h2, h3⟩
    · go_wp2_with fail
      refine (AW.out _ HB3.out.hb).mono ?_
      rintro e w3 ⟨rfl, hq⟩
      have HB4 := Lib.hid (HB3.out.later hq)
      go_wp2_with fail
      go_ret
      exact ⟨rfl, HB4.out.hb⟩
    all_goals
      obtain ⟨b0, b1, b2, b3, b4⟩ := bx5 HB3.out.h2
      go_wp2_with fail
      refine (FEWX.out _ HB3.out.hb).mono ?_
      rintro e w3 ⟨rfl, hq⟩
      have HB4 := Lib.hid (HB3.out.later hq)
      clear hq HB3 b0 b1 b2 b3 b4
      obtain ⟨c0, c1⟩ := two_cells HB4.out.h1
      go_wp2_with fail
      refine (AW.out _ HB4.out.hb).mono ?_
      rintro e w4 ⟨rfl, hq⟩
      have HB5 := Lib.hid (HB4.out.later hq)
      go_wp2_with fail
      go_ret
      exact ⟨rfl, HB5.out.hb⟩
end Go.Proofs.YtijibjdgnaphiabDoor
