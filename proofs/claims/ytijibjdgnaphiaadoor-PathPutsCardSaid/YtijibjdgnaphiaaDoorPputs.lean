/- path.Put: the program's answers. -/
import Derived.Test.YtijibjdgnaphiaaDoorPput
import Derived.Test.YtijibjdgnaphiaaDoorPback
import Derived.Test.YtijibjdgnaphiaaDoorPstepsc
namespace Go.Proofs.YtijibjdgnaphiaaDoor
open Go.ChangeShapes Go.WideShapes Go.Deep Go.RowKit Go.Lib

set_option maxHeartbeats 3200000 in
set_option maxRecDepth 100000 in
theorem Put_any (t x : AV) (s : ByteArray) (w : World) (hin : t.In w) (hxin : x.In w) (hs : s.size ≤ 2000) (hT : Tabs w) (hM : MaxL w) (hE : ErrV w) : Calls Tryd.prog 30 #[t.val, .string s, x.val] w (PutsEnd (putSpec t s.data.toList x) w) := by
  have ST := Lib.hid (fun W (h : Below w.heap.size w W) => (Steps_cap s W hs (hT.later h) (hM.later h)).mono fun _ _ h => StepsCap.told h)
  have FO := Lib.hid (fun W (h : Below w.heap.size w W) => Formed_any t W (hin.below h (Nat.le_refl _)) (hT.later h))
  have FX := Lib.hid (fun W (h : Below w.heap.size w W) => Formed_any x W (hxin.below h (Nat.le_refl _)) (hT.later h))
  have FZ := Lib.hid (fun W (h : Below w.heap.size w W) (z : AV) (hz : z.In W) => Formed_any z W hz (hT.later h))
  have SZ : Hid (∀ p ∈ stepNames s.data.toList, 0 < p.size ∧ p.size ≤ 60) := Lib.hid fun p hp => step_sizes hp
  obtain ⟨ns, hns⟩ : ∃ ns, stepNames s.data.toList = ns := ⟨_, rfl⟩
  obtain ⟨er, her⟩ : ∃ er, stepErr s.data.toList = er := ⟨_, rfl⟩
  obtain ⟨F, hF⟩ : ∃ F, AV.formedJ t 6 = F := ⟨_, rfl⟩
  obtain ⟨G, hG⟩ : ∃ G, AV.formedJ x 6 = G := ⟨_, rfl⟩
  have her2 : er = 0 ∨ er = 2 := by
    rw [← her]; unfold stepErr; split <;> simp
  obtain ⟨S, hS⟩ : ∃ S, putSpec t s.data.toList x = S := ⟨_, rfl⟩
  have hspec := hS
  unfold putSpec at hspec
  rw [hS]
  rw [her, hns, hF, hG] at hspec
  rw [her, hns] at ST
  rw [hns] at SZ
  rw [hF] at FO
  rw [hG] at FX
  have PU := Lib.hid (fun W (h : Below w.heap.size w W) sa c (hn : AV.NamesIn W sa ns) (hc : ns.length ≤ c) (hf : F = true) => put_any ns t x sa c w W 6 hin hxin h (by rw [hF]; exact hf) hn SZ.out hc (hE.later h))
  clear hS hns her hT hM hE hF hG hin hxin SZ hs
  obtain ⟨R, hR⟩ : ∃ R, AV.putAt ns t x = R := ⟨_, rfl⟩
  rw [hR] at PU hspec
  clear hR
  obtain ⟨k, n, str, na, nc, nms, xa, xc, xs⟩ := t
  obtain ⟨k2, n2, s2, na2, nc2, ns2, xa2, xc2, xs2⟩ := x
  simp only [AV.knd] at hspec
  simp only [AV.val, AV.row] at FO FX PU ⊢
  have HB3 : Hid (Below w.heap.size w (((w.alloc (.cells #[.int .i64 k, .int .i64 n, .string str, .slice na nms.length nc, .slice xa xs.length xc] 25)).alloc (.cells #[.int .i64 k2, .int .i64 n2, .string s2, .slice na2 ns2.length nc2, .slice xa2 xs2.length xc2] 25)).alloc (.cells #[.int .i64 0, .int .i64 0, .string ⟨#[]⟩, .slice none 0 0, .slice none 0 0] 25))) :=
    Lib.hid ((((Below.refl _ _).alloc (Nat.le_refl _) _).alloc (by simp) _).alloc (by simp; omega) _)
  have HT := Lib.hid (three_new w #[.int .i64 k, .int .i64 n, .string str, .slice na nms.length nc, .slice xa xs.length xc] #[.int .i64 k2, .int .i64 n2, .string s2, .slice na2 ns2.length nc2, .slice xa2 xs2.length xc2] #[.int .i64 0, .int .i64 0, .string ⟨#[]⟩, .slice none 0 0, .slice none 0 0])
  have HSPEC := Lib.hid hspec
  clear hspec
  go_enter Tryd.func30, Tryd.ntmps30
  go_upto_region 1 with fail
  generalize (((w.alloc (.cells #[.int .i64 k, .int .i64 n, .string str, .slice na nms.length nc, .slice xa xs.length xc] 25)).alloc (.cells #[.int .i64 k2, .int .i64 n2, .string s2, .slice na2 ns2.length nc2, .slice xa2 xs2.length xc2] 25)).alloc (.cells #[.int .i64 0, .int .i64 0, .string ⟨#[]⟩, .slice none 0 0, .slice none 0 0] 25)) = W3 at *
  have h3 : w.heap.size + 3 ≤ W3.heap.size := by have := block_lt HT.out.h2; omega
  go_wp2_with fail
  refine (ST.out _ HB3.out).mono ?_
  rintro e w1 ⟨sa, sc, rfl, hsn, hb1, hcap⟩
  obtain ⟨HT1, HB1⟩ : Hid (Three w.heap.size #[.int .i64 k, .int .i64 n, .string str, .slice na nms.length nc, .slice xa xs.length xc] #[.int .i64 k2, .int .i64 n2, .string s2, .slice na2 ns2.length nc2, .slice xa2 xs2.length xc2] #[.int .i64 0, .int .i64 0, .string ⟨#[]⟩, .slice none 0 0, .slice none 0 0] w1) ∧ Hid (Below w.heap.size w w1) := by
    obtain ⟨p1, p2⟩ := three_past HT.out HB3.out hb1
    exact ⟨Lib.hid p1, Lib.hid p2⟩
  have HSN := Lib.hid hsn
  have HCAP := Lib.hid hcap
  clear hb1 hsn hcap HT HB3 h3
  obtain ⟨a0, a1, a2, a3, a4⟩ := bx5 HT1.out.h0
  have bad : ∀ W : World, Three w.heap.size #[.int .i64 k, .int .i64 n, .string str, .slice na nms.length nc, .slice xa xs.length xc] #[.int .i64 k2, .int .i64 n2, .string s2, .slice na2 ns2.length nc2, .slice xa2 xs2.length xc2] #[.int .i64 0, .int .i64 0, .string ⟨#[]⟩, .slice none 0 0, .slice none 0 0] W → True := fun _ _ => trivial
  rcases her2 with rfl | rfl
  · by_cases h6 : k = 6
    · subst h6
      go_wp2_with fail
      refine (FO.out _ HB1.out).mono ?_
      rintro e w2 ⟨rfl, hb2⟩
      obtain ⟨HT2, HB2⟩ : Hid (Three w.heap.size _ _ _ w2) ∧ Hid (Below w.heap.size w w2) := by
        obtain ⟨p1, p2⟩ := three_past HT1.out HB1.out hb2
        exact ⟨Lib.hid p1, Lib.hid p2⟩
      have HSN2 := Lib.hid (NamesIn.later HSN.out hb2)
      clear hb2 HT1 HB1 HSN a0 a1 a2 a3 a4 bad
      obtain ⟨b0, b1, b2, b3, b4⟩ := bx5 HT2.out.h1
      cases F with
      | false =>
        obtain ⟨c0, c1, c2, c3, c4⟩ := bx5 HT2.out.h2
        obtain ⟨f0, f1, f2, f3, f4⟩ := fz5 HT2.out.h2
        have hS2 : S = .error 2 := by rw [← HSPEC.out]; simp
        subst hS2
        go_wp2_with fail
        have hfin := below_five HB2.out (b := w.heap.size + 1 + 1) (by omega) (.int .i64 0) (.int .i64 0) (.string ⟨#[]⟩) (.slice none 0 0) (.slice none 0 0)
        exact bodyPost_ret (v := .tuple #[.agg #[.int .i64 0, .int .i64 0, .string ⟨#[]⟩, .slice none 0 0, .slice none 0 0], .int .i64 2]) (by simp [results, Tryd.results30, go_sem, c0, c1, c2, c3, c4]) rfl ⟨hfin, rfl⟩
      | true =>
        go_wp2_with fail
        refine (FX.out _ HB2.out).mono ?_
        rintro e w3 ⟨rfl, hb3⟩
        obtain ⟨HT3, HB3⟩ : Hid (Three w.heap.size _ _ _ w3) ∧ Hid (Below w.heap.size w w3) := by
          obtain ⟨p1, p2⟩ := three_past HT2.out HB2.out hb3
          exact ⟨Lib.hid p1, Lib.hid p2⟩
        have HSN3 := Lib.hid (NamesIn.later HSN2.out hb3)
        clear hb3 HT2 HB2 HSN2 b0 b1 b2 b3 b4
        obtain ⟨c0, c1, c2, c3, c4⟩ := bx5 HT3.out.h2
        obtain ⟨f0, f1, f2, f3, f4⟩ := fz5 HT3.out.h2
        cases G with
        | false =>
          have hS2 : S = .error 2 := by rw [← HSPEC.out]; simp
          subst hS2
          go_wp2_with fail
          have hfin := below_five HB3.out (b := w.heap.size + 1 + 1) (by omega) (.int .i64 0) (.int .i64 0) (.string ⟨#[]⟩) (.slice none 0 0) (.slice none 0 0)
          exact bodyPost_ret (v := .tuple #[.agg #[.int .i64 0, .int .i64 0, .string ⟨#[]⟩, .slice none 0 0, .slice none 0 0], .int .i64 2]) (by simp [results, Tryd.results30, go_sem, c0, c1, c2, c3, c4]) rfl ⟨hfin, rfl⟩
        | true =>
          obtain ⟨a0, a1, a2, a3, a4⟩ := bx5 HT3.out.h0
          obtain ⟨b0, b1, b2, b3, b4⟩ := bx5 HT3.out.h1
          clear c0 c1 c2 c3 c4 f0 f1 f2 f3 f4
          go_wp2_with fail
          refine (PU.out _ HB3.out _ _ HSN3.out HCAP.out trivial).mono ?_
          rintro e w4 ⟨hb4, hend⟩
          obtain ⟨HT4, HB4⟩ : Hid (Three w.heap.size _ _ _ w4) ∧ Hid (Below w.heap.size w w4) := by
            obtain ⟨p1, p2⟩ := three_past HT3.out HB3.out hb4
            exact ⟨Lib.hid p1, Lib.hid p2⟩
          clear hb4 HT3 HB3 HSN3 a0 a1 a2 a3 a4 b0 b1 b2 b3 b4
          cases R with
          | none =>
            simp only [AV.zero, AV.val, AV.row, List.length_nil] at hend
            subst hend
            have hS2 : S = .error 4 := by rw [← HSPEC.out]; simp
            subst hS2
            obtain ⟨c0, c1, c2, c3, c4⟩ := bx5 (HT4.out.later (B := w4.heap.size) ((Below.refl _ _).alloc (Nat.le_refl _) (.cells #[.int .i64 0, .int .i64 0, .string ⟨#[]⟩, .slice none 0 0, .slice none 0 0] 25)) (by have := block_lt HT4.out.h2; omega)).h2
            obtain ⟨f0, f1, f2, f3, f4⟩ := fz5 (HT4.out.later (B := w4.heap.size) ((Below.refl _ _).alloc (Nat.le_refl _) (.cells #[.int .i64 0, .int .i64 0, .string ⟨#[]⟩, .slice none 0 0, .slice none 0 0] 25)) (by have := block_lt HT4.out.h2; omega)).h2
            have HB5 := Lib.hid (HB4.out.alloc HB4.out.size (.cells #[.int .i64 0, .int .i64 0, .string ⟨#[]⟩, .slice none 0 0, .slice none 0 0] 25))
            go_wp2_with fail
            have hfin := below_five HB5.out (b := w.heap.size + 1 + 1) (by omega) (.int .i64 0) (.int .i64 0) (.string ⟨#[]⟩) (.slice none 0 0) (.slice none 0 0)
            exact bodyPost_ret (v := .tuple #[.agg #[.int .i64 0, .int .i64 0, .string ⟨#[]⟩, .slice none 0 0, .slice none 0 0], .int .i64 4]) (by simp [results, Tryd.results30, go_sem, c0, c1, c2, c3, c4]) rfl ⟨hfin, rfl⟩
          | some Z =>
            obtain ⟨z, rfl, hza, hze⟩ := hend
            have hzf : AV.formedJ z 6 = AV.formedJ Z 6 := formed_eqv z Z 6 hze
            obtain ⟨H, hH⟩ : ∃ H, AV.formedJ Z 6 = H := ⟨_, rfl⟩
            have HS3 : Hid ((if H = true then Except.ok Z else .error 3) = S) := Lib.hid (by rw [← HSPEC.out, ← hH]; simp)
            rw [hH] at hzf
            have HZF := Lib.hid hzf
            have HZIN := Lib.hid hza.inn
            have HZE := Lib.hid hze
            clear hzf hza hze hH HSPEC
            have FOZ := Lib.hid (fun W (hz : z.In W) (h : Below w.heap.size w W) => FZ.out W h z hz)
            rw [HZF.out] at FOZ
            obtain ⟨Q, hQ⟩ : ∃ Q, Q = z := ⟨_, rfl⟩
            have HQ := Lib.hid hQ
            have CLZ := Lib.hid (fun W (hz : z.In W) (hf : H = true) => clone_any z W 6 hz (by rw [HZF.out]; exact hf))
            obtain ⟨k4, n4, s4, na4, nc4, ns4, xa4, xc4, xs4⟩ := z
            simp only [AV.val, AV.row] at FOZ CLZ ⊢
            clear hQ
            have HT5 := Lib.hid (HT4.out.later (B := w4.heap.size) ((Below.refl _ _).alloc (Nat.le_refl _) (.cells #[.int .i64 k4, .int .i64 n4, .string s4, .slice na4 ns4.length nc4, .slice xa4 xs4.length xc4] 25)) (by have := block_lt HT4.out.h2; omega))
            have HB5 := Lib.hid (HB4.out.alloc HB4.out.size (.cells #[.int .i64 k4, .int .i64 n4, .string s4, .slice na4 ns4.length nc4, .slice xa4 xs4.length xc4] 25))
            have HN5 := Lib.hid (heap_alloc_new w4 (.cells #[.int .i64 k4, .int .i64 n4, .string s4, .slice na4 ns4.length nc4, .slice xa4 xs4.length xc4] 25))
            have HZ5 := Lib.hid (HZIN.out.below ((Below.refl _ _).alloc (Nat.le_refl _) (.cells #[.int .i64 k4, .int .i64 n4, .string s4, .slice na4 ns4.length nc4, .slice xa4 xs4.length xc4] 25)) (Nat.le_refl _))
            have HL4 : Hid (w.heap.size + 3 ≤ w4.heap.size) := Lib.hid (by have := block_lt HT4.out.h2; omega)
            go_upto_region 5 with fail
            generalize w4.alloc (.cells #[.int .i64 k4, .int .i64 n4, .string s4, .slice na4 ns4.length nc4, .slice xa4 xs4.length xc4] 25) = w5 at *
            obtain ⟨a0, a1, a2, a3, a4⟩ := bx5 HN5.out
            go_wp2_with fail
            refine (FOZ.out _ HZ5.out HB5.out).mono ?_
            rintro e w6 ⟨rfl, hb6⟩
            obtain ⟨HT6, HB6⟩ : Hid (Three w.heap.size _ _ _ w6) ∧ Hid (Below w.heap.size w w6) := by
              obtain ⟨p1, p2⟩ := three_past HT5.out HB5.out hb6
              exact ⟨Lib.hid p1, Lib.hid p2⟩
            have HN6 := Lib.hid (box_past HN5.out hb6)
            have HZ6 := Lib.hid (HZ5.out.below hb6 (Nat.le_refl _))
            clear a0 a1 a2 a3 a4 hb6 HN5 HZ5 HT5 HB5
            obtain ⟨a0, a1, a2, a3, a4⟩ := bx5 HN6.out
            cases H with
            | false =>
              obtain ⟨c0, c1, c2, c3, c4⟩ := bx5 HT6.out.h2
              obtain ⟨f0, f1, f2, f3, f4⟩ := fz5 HT6.out.h2
              have hS2 : S = .error 3 := by rw [← HS3.out]; simp
              subst hS2
              go_wp2_with fail
              have hfin := below_five HB6.out (b := w.heap.size + 1 + 1) (by omega) (.int .i64 0) (.int .i64 0) (.string ⟨#[]⟩) (.slice none 0 0) (.slice none 0 0)
              exact bodyPost_ret (v := .tuple #[.agg #[.int .i64 0, .int .i64 0, .string ⟨#[]⟩, .slice none 0 0, .slice none 0 0], .int .i64 3]) (by simp [results, Tryd.results30, go_sem, c0, c1, c2, c3, c4]) rfl ⟨hfin, rfl⟩
            | true =>
              have hS2 : S = .ok Z := by rw [← HS3.out]; simp
              subst hS2
              go_wp2_with fail
              refine (CLZ.out _ HZ6.out trivial).mono ?_
              rintro e w7 ⟨y, rfl, hye, hyn, hb7⟩
              obtain ⟨HT7, HB7⟩ : Hid (Three w.heap.size _ _ _ w7) ∧ Hid (Below w.heap.size w w7) := by
                obtain ⟨p1, p2⟩ := three_past HT6.out HB6.out hb7
                exact ⟨Lib.hid p1, Lib.hid p2⟩
              have HYE := Lib.hid (eqv_trans hye HZE.out)
              have HYN := Lib.hid hyn
              have HL6 := Lib.hid (block_lt HT6.out.h2)
              clear a0 a1 a2 a3 a4 hb7 hye hyn
              obtain ⟨k5, n5, s5, na5, nc5, ns5, xa5, xc5, xs5⟩ := y
              simp only [AV.val, AV.row]
              obtain ⟨c0, c1, c2, c3, c4⟩ := bx5 HT7.out.h2
              obtain ⟨f0, f1, f2, f3, f4⟩ := fz5 HT7.out.h2
              go_wp2_with fail
              have hfin := below_five HB7.out (b := w.heap.size + 1 + 1) (by omega) (.int .i64 k5) (.int .i64 n5) (.string s5) (.slice na5 ns5.length nc5) (.slice xa5 xs5.length xc5)
              refine bodyPost_ret (v := .tuple #[.agg #[.int .i64 k5, .int .i64 n5, .string s5, .slice na5 ns5.length nc5, .slice xa5 xs5.length xc5], .int .i64 0]) (by simp [results, Tryd.results30, go_sem, c0, c1, c2, c3, c4]) rfl ⟨hfin, _, rfl, HYN.out _ fun a h1 h2 => ?_, HYE.out⟩
              have h3 := HL6.out
              rw [World.cell?_setCell_far _ _ _ _ (by simp; omega), World.cell?_setCell_far _ _ _ _ (by simp; omega), World.cell?_setCell_far _ _ _ _ (by simp; omega), World.cell?_setCell_far _ _ _ _ (by simp; omega), World.cell?_setCell_far _ _ _ _ (by simp; omega)]
    · have hk : (k != 6) = true := by simpa using h6
      obtain ⟨c0, c1, c2, c3, c4⟩ := bx5 HT1.out.h2
      obtain ⟨f0, f1, f2, f3, f4⟩ := fz5 HT1.out.h2
      have hS2 : S = .error 2 := by rw [← HSPEC.out]; simp [h6]
      subst hS2
      clear bad
      go_wp2_with fail
      have hfin := below_five HB1.out (b := w.heap.size + 1 + 1) (by omega) (.int .i64 0) (.int .i64 0) (.string ⟨#[]⟩) (.slice none 0 0) (.slice none 0 0)
      exact bodyPost_ret (v := .tuple #[.agg #[.int .i64 0, .int .i64 0, .string ⟨#[]⟩, .slice none 0 0, .slice none 0 0], .int .i64 2]) (by simp [results, Tryd.results30, go_sem, c0, c1, c2, c3, c4]) rfl ⟨hfin, rfl⟩
  · obtain ⟨c0, c1, c2, c3, c4⟩ := bx5 HT1.out.h2
    obtain ⟨f0, f1, f2, f3, f4⟩ := fz5 HT1.out.h2
    have hS2 : S = .error 2 := by rw [← HSPEC.out]; simp
    subst hS2
    clear bad
    go_wp2_with fail
    have hfin := below_five HB1.out (b := w.heap.size + 1 + 1) (by omega) (.int .i64 0) (.int .i64 0) (.string ⟨#[]⟩) (.slice none 0 0) (.slice none 0 0)
    exact bodyPost_ret (v := .tuple #[.agg #[.int .i64 0, .int .i64 0, .string ⟨#[]⟩, .slice none 0 0, .slice none 0 0], .int .i64 2]) (by simp [results, Tryd.results30, go_sem, c0, c1, c2, c3, c4]) rfl ⟨hfin, rfl⟩
end Go.Proofs.YtijibjdgnaphiaaDoor
