/- Put by the document, where its put does as putAt says (RPut: to be shown). -/
import Derived.Test.YtijibjdgnaphiaaDoorPputa
import Derived.Test.YtijibjdgnaphiaaDoorPputb
import Derived.Test.YtijibjdgnaphiaaDoorRstepsc
import Derived.Test.YtijibjdgnaphiaaDoorFormed
import Derived.Test.YtijibjdgnaphiaaDoorLawback
import Derived.Test.YtijibjdgnaphiaaDoorPback
import Derived.Test.YtijibjdgnaphiaaDoorPstepsc
namespace Go.Proofs.YtijibjdgnaphiaaDoor
open Go.ChangeShapes Go.WideShapes Go.Deep Go.RowKit Go.Lib

/-- What is asked of the document's put. -/
def RPut : Prop := ∀ (p : ByteArray) (r : List ByteArray) (t x : AV) (sa : Option Addr) (sc : Nat) (w0 w : World) (lv : Nat), t.In w0 → x.In w0 → Below w0.heap.size w0 w → AV.formedJ t lv = true → AV.NamesIn w sa (p :: r) → (∀ q ∈ p :: r, 0 < q.size ∧ q.size ≤ 60) → (p :: r).length ≤ sc →
  Calls Tryd.prog 49 #[t.val, .slice sa (p :: r).length sc, x.val] w (PutEnd (t.putAt (p :: r) x) w0.heap.size w)

theorem rput_of (RP : RPut) {ns : List ByteArray} (hne : ns ≠ []) (t x : AV) (sa : Option Addr) (sc : Nat) (w0 w : World) (lv : Nat) (h1 : t.In w0) (h2 : x.In w0) (h3 : Below w0.heap.size w0 w) (h4 : AV.formedJ t lv = true) (h5 : AV.NamesIn w sa ns) (h6 : ∀ q ∈ ns, 0 < q.size ∧ q.size ≤ 60) (h7 : ns.length ≤ sc) :
    Calls Tryd.prog 49 #[t.val, .slice sa ns.length sc, x.val] w (PutEnd (t.putAt ns x) w0.heap.size w) := by
  cases ns with
  | nil => exact absurd rfl hne
  | cons p r => exact RP p r t x sa sc w0 w lv h1 h2 h3 h4 h5 h6 h7

set_option maxHeartbeats 3200000 in
set_option maxRecDepth 100000 in
theorem rPut_any (RP : RPut) (t x : AV) (s : ByteArray) (w : World) (hin : t.In w) (hxin : x.In w) (hs : s.size ≤ 2000) : Calls Tryd.prog 31 #[t.val, .string s, x.val] w (PutsEnd (putSpec t s.data.toList x) w) := by
  have ST := Lib.hid (fun W => (rSteps_cap s W hs).mono fun _ _ h => StepsCap.told h)
  have FO := Lib.hid (fun W (h : Below w.heap.size w W) => rFormed_any t W (hin.below h (Nat.le_refl _)))
  have FX := Lib.hid (fun W (h : Below w.heap.size w W) => rFormed_any x W (hxin.below h (Nat.le_refl _)))
  have FZ := Lib.hid (fun W (h : Below w.heap.size w W) (z : AV) (hz : z.In W) => rFormed_any z W hz)
  have SZ : Hid (∀ p ∈ stepNames s.data.toList, 0 < p.size ∧ p.size ≤ 60) := Lib.hid fun p hp => step_sizes hp
  obtain ⟨ns, hns⟩ : ∃ ns, stepNames s.data.toList = ns := ⟨_, rfl⟩
  obtain ⟨er, her⟩ : ∃ er, stepErr s.data.toList = er := ⟨_, rfl⟩
  obtain ⟨F, hF⟩ : ∃ F, AV.formedJ t 6 = F := ⟨_, rfl⟩
  obtain ⟨G, hG⟩ : ∃ G, AV.formedJ x 6 = G := ⟨_, rfl⟩
  have her2 : er = 0 ∨ er = 2 := by
    rw [← her]; unfold stepErr; split <;> simp
  obtain ⟨S, hS⟩ : ∃ S, putSpec t s.data.toList x = S := ⟨_, rfl⟩
  have hspec := hS
  unfold putSpec at hspec
  rw [hS]
  rw [her, hns, hF, hG] at hspec
  rw [her, hns] at ST
  rw [hns] at SZ
  rw [hF] at FO
  rw [hG] at FX
  have PU := Lib.hid (fun W (h : Below w.heap.size w W) sa c (hn : AV.NamesIn W sa ns) (hc : ns.length ≤ c) (hf : F = true) (hne : ns ≠ []) => rput_of RP hne t x sa c w W 6 hin hxin h (by rw [hF]; exact hf) hn SZ.out hc)
  have HNE : Hid (er = 0 → ns ≠ []) := Lib.hid (fun h => by rw [← hns]; exact stepNames_ne (her.trans h))
  clear hS hns her hF hG hin hxin SZ hs
  obtain ⟨R, hR⟩ : ∃ R, AV.putAt ns t x = R := ⟨_, rfl⟩
  rw [hR] at PU hspec
  clear hR
  obtain ⟨k, n, str, na, nc, nms, xa, xc, xs⟩ := t
  obtain ⟨k2, n2, s2, na2, nc2, ns2, xa2, xc2, xs2⟩ := x
  simp only [AV.knd] at hspec
  simp only [AV.val, AV.row] at FO FX PU ⊢
  have HB3 : Hid (Below w.heap.size w (((w.alloc (.cells #[.int .i64 k, .int .i64 n, .string str, .slice na nms.length nc, .slice xa xs.length xc] 25)).alloc (.cells #[.int .i64 k2, .int .i64 n2, .string s2, .slice na2 ns2.length nc2, .slice xa2 xs2.length xc2] 25)).alloc (.cells #[.int .i64 0, .int .i64 0, .string ⟨#[]⟩, .slice none 0 0, .slice none 0 0] 25))) :=
    Lib.hid ((((Below.refl _ _).alloc (Nat.le_refl _) _).alloc (by simp) _).alloc (by simp; omega) _)
  have HT := Lib.hid (three_new w #[.int .i64 k, .int .i64 n, .string str, .slice na nms.length nc, .slice xa xs.length xc] #[.int .i64 k2, .int .i64 n2, .string s2, .slice na2 ns2.length nc2, .slice xa2 xs2.length xc2] #[.int .i64 0, .int .i64 0, .string ⟨#[]⟩, .slice none 0 0, .slice none 0 0])
  have HSPEC := Lib.hid hspec
  clear hspec
  go_enter Tryd.func31, Tryd.ntmps31
  go_upto_region 1 with fail
  generalize (((w.alloc (.cells #[.int .i64 k, .int .i64 n, .string str, .slice na nms.length nc, .slice xa xs.length xc] 25)).alloc (.cells #[.int .i64 k2, .int .i64 n2, .string s2, .slice na2 ns2.length nc2, .slice xa2 xs2.length xc2] 25)).alloc (.cells #[.int .i64 0, .int .i64 0, .string ⟨#[]⟩, .slice none 0 0, .slice none 0 0] 25)) = W3 at *
  have h3 : w.heap.size + 3 ≤ W3.heap.size := by have := block_lt HT.out.h2; omega
  go_wp2_with fail
  refine (ST.out _).mono ?_
  rintro e w1 ⟨sa, sc, rfl, hsn, hb1, hcap⟩
  obtain ⟨HT1, HB1⟩ : Hid (Three w.heap.size #[.int .i64 k, .int .i64 n, .string str, .slice na nms.length nc, .slice xa xs.length xc] #[.int .i64 k2, .int .i64 n2, .string s2, .slice na2 ns2.length nc2, .slice xa2 xs2.length xc2] #[.int .i64 0, .int .i64 0, .string ⟨#[]⟩, .slice none 0 0, .slice none 0 0] w1) ∧ Hid (Below w.heap.size w w1) := by
    obtain ⟨p1, p2⟩ := three_past HT.out HB3.out hb1
    exact ⟨Lib.hid p1, Lib.hid p2⟩
  have HSN := Lib.hid hsn
  have HCAP := Lib.hid hcap
  clear hb1 hsn hcap HT HB3 h3
  obtain ⟨a0, a1, a2, a3, a4⟩ := bx5 HT1.out.h0
  have bad : ∀ W : World, Three w.heap.size #[.int .i64 k, .int .i64 n, .string str, .slice na nms.length nc, .slice xa xs.length xc] #[.int .i64 k2, .int .i64 n2, .string s2, .slice na2 ns2.length nc2, .slice xa2 xs2.length xc2] #[.int .i64 0, .int .i64 0, .string ⟨#[]⟩, .slice none 0 0, .slice none 0 0] W → True := fun _ _ => trivial
  rcases her2 with rfl | rfl
  · skip
    · skip
      go_wp2_with fail
      refine (FO.out _ HB1.out).mono ?_
      rintro e w2 ⟨rfl, hb2⟩
      obtain ⟨HT2, HB2⟩ : Hid (Three w.heap.size _ _ _ w2) ∧ Hid (Below w.heap.size w w2) := by
        obtain ⟨p1, p2⟩ := three_past HT1.out HB1.out hb2
        exact ⟨Lib.hid p1, Lib.hid p2⟩
      have HSN2 := Lib.hid (NamesIn.later HSN.out hb2)
      clear hb2 HT1 HB1 HSN a0 a1 a2 a3 a4 bad
      obtain ⟨b0, b1, b2, b3, b4⟩ := bx5 HT2.out.h1
      cases F with
      | false =>
        obtain ⟨c0, c1, c2, c3, c4⟩ := bx5 HT2.out.h2
        obtain ⟨f0, f1, f2, f3, f4⟩ := fz5 HT2.out.h2
        have hS2 : S = .error 2 := by rw [← HSPEC.out]; simp
        subst hS2
        go_wp2_with fail
        have hfin := below_five HB2.out (b := w.heap.size + 1 + 1) (by omega) (.int .i64 0) (.int .i64 0) (.string ⟨#[]⟩) (.slice none 0 0) (.slice none 0 0)
        exact bodyPost_ret (v := .tuple #[.agg #[.int .i64 0, .int .i64 0, .string ⟨#[]⟩, .slice none 0 0, .slice none 0 0], .int .i64 2]) (by simp [results, Tryd.results31, go_sem, c0, c1, c2, c3, c4]) rfl ⟨hfin, rfl⟩
      | true =>
        go_wp2_with fail
        refine (FX.out _ HB2.out).mono ?_
        rintro e w3 ⟨rfl, hb3⟩
        obtain ⟨HT3, HB3⟩ : Hid (Three w.heap.size _ _ _ w3) ∧ Hid (Below w.heap.size w w3) := by
          obtain ⟨p1, p2⟩ := three_past HT2.out HB2.out hb3
          exact ⟨Lib.hid p1, Lib.hid p2⟩
        have HSN3 := Lib.hid (NamesIn.later HSN2.out hb3)
        clear hb3 HT2 HB2 HSN2 b0 b1 b2 b3 b4
        obtain ⟨c0, c1, c2, c3, c4⟩ := bx5 HT3.out.h2
        obtain ⟨f0, f1, f2, f3, f4⟩ := fz5 HT3.out.h2
        cases G with
        | false =>
          have hS2 : S = .error 2 := by rw [← HSPEC.out]; simp
          subst hS2
          go_wp2_with fail
          have hfin := below_five HB3.out (b := w.heap.size + 1 + 1) (by omega) (.int .i64 0) (.int .i64 0) (.string ⟨#[]⟩) (.slice none 0 0) (.slice none 0 0)
          exact bodyPost_ret (v := .tuple #[.agg #[.int .i64 0, .int .i64 0, .string ⟨#[]⟩, .slice none 0 0, .slice none 0 0], .int .i64 2]) (by simp [results, Tryd.results31, go_sem, c0, c1, c2, c3, c4]) rfl ⟨hfin, rfl⟩
        | true =>
          obtain ⟨a0, a1, a2, a3, a4⟩ := bx5 HT3.out.h0
          by_cases h6 : k ≠ 6
          · have hk : (k != 6) = true := by simpa using h6
            have hS2 : S = .error 2 := by rw [← HSPEC.out]; simp [h6]
            subst hS2
            go_wp2_with fail
            have hfin := below_five HB3.out (b := w.heap.size + 1 + 1) (by omega) (.int .i64 0) (.int .i64 0) (.string ⟨#[]⟩) (.slice none 0 0) (.slice none 0 0)
            exact bodyPost_ret (v := .tuple #[.agg #[.int .i64 0, .int .i64 0, .string ⟨#[]⟩, .slice none 0 0, .slice none 0 0], .int .i64 2]) (by simp [results, Tryd.results31, go_sem, c0, c1, c2, c3, c4]) rfl ⟨hfin, rfl⟩
          obtain rfl : k = 6 := Decidable.not_not.1 h6
          clear h6
          obtain ⟨b0, b1, b2, b3, b4⟩ := bx5 HT3.out.h1
          clear c0 c1 c2 c3 c4 f0 f1 f2 f3 f4
          go_wp2_with fail
          refine (PU.out _ HB3.out _ _ HSN3.out HCAP.out trivial (HNE.out trivial)).mono ?_
          rintro e w4 ⟨hb4, hend⟩
          obtain ⟨HT4, HB4⟩ : Hid (Three w.heap.size _ _ _ w4) ∧ Hid (Below w.heap.size w w4) := by
            obtain ⟨p1, p2⟩ := three_past HT3.out HB3.out hb4
            exact ⟨Lib.hid p1, Lib.hid p2⟩
          have HTK := HT3
          clear hb4 HT3 HB3 HSN3 a0 a1 a2 a3 a4 b0 b1 b2 b3 b4
          cases R with
          | none =>
            simp only [AV.zero, AV.val, AV.row, List.length_nil] at hend
            subst hend
            have hS2 : S = .error 4 := by rw [← HSPEC.out]; simp
            subst hS2
            obtain ⟨c0, c1, c2, c3, c4⟩ := bx5 (HT4.out.later (B := w4.heap.size) ((Below.refl _ _).alloc (Nat.le_refl _) (.cells #[.int .i64 0, .int .i64 0, .string ⟨#[]⟩, .slice none 0 0, .slice none 0 0] 25)) (by have := block_lt HT4.out.h2; omega)).h2
            obtain ⟨f0, f1, f2, f3, f4⟩ := fz5 (HT4.out.later (B := w4.heap.size) ((Below.refl _ _).alloc (Nat.le_refl _) (.cells #[.int .i64 0, .int .i64 0, .string ⟨#[]⟩, .slice none 0 0, .slice none 0 0] 25)) (by have := block_lt HT4.out.h2; omega)).h2
            have HB5 := Lib.hid (HB4.out.alloc HB4.out.size (.cells #[.int .i64 0, .int .i64 0, .string ⟨#[]⟩, .slice none 0 0, .slice none 0 0] 25))
            go_wp2_with fail
            have hfin := below_five HB5.out (b := w.heap.size + 1 + 1) (by omega) (.int .i64 0) (.int .i64 0) (.string ⟨#[]⟩) (.slice none 0 0) (.slice none 0 0)
            exact bodyPost_ret (v := .tuple #[.agg #[.int .i64 0, .int .i64 0, .string ⟨#[]⟩, .slice none 0 0, .slice none 0 0], .int .i64 4]) (by simp [results, Tryd.results31, go_sem, c0, c1, c2, c3, c4]) rfl ⟨hfin, rfl⟩
          | some Z =>
            obtain ⟨z, rfl, hza, hze⟩ := hend
            have hzf : AV.formedJ z 6 = AV.formedJ Z 6 := formed_eqv z Z 6 hze
            obtain ⟨H, hH⟩ : ∃ H, AV.formedJ Z 6 = H := ⟨_, rfl⟩
            have HS3 : Hid ((if H = true then Except.ok Z else .error 3) = S) := Lib.hid (by rw [← HSPEC.out, ← hH]; simp)
            rw [hH] at hzf
            have HZF := Lib.hid hzf
            have HZIN := Lib.hid hza.inn
            have HZA := Lib.hid hza
            have HL3 := Lib.hid (block_lt HTK.out.h2)
            have HZE := Lib.hid hze
            clear hzf hza hze hH HSPEC
            have FOZ := Lib.hid (fun W (hz : z.In W) (h : Below w.heap.size w W) => FZ.out W h z hz)
            rw [HZF.out] at FOZ
            obtain ⟨Q, hQ⟩ : ∃ Q, Q = z := ⟨_, rfl⟩
            have HQ := Lib.hid hQ
            obtain ⟨k4, n4, s4, na4, nc4, ns4, xa4, xc4, xs4⟩ := z
            simp only [AV.val, AV.row] at FOZ ⊢
            clear hQ
            have HT5 := Lib.hid (HT4.out.later (B := w4.heap.size) ((Below.refl _ _).alloc (Nat.le_refl _) (.cells #[.int .i64 k4, .int .i64 n4, .string s4, .slice na4 ns4.length nc4, .slice xa4 xs4.length xc4] 25)) (by have := block_lt HT4.out.h2; omega))
            have HB5 := Lib.hid (HB4.out.alloc HB4.out.size (.cells #[.int .i64 k4, .int .i64 n4, .string s4, .slice na4 ns4.length nc4, .slice xa4 xs4.length xc4] 25))
            have HN5 := Lib.hid (heap_alloc_new w4 (.cells #[.int .i64 k4, .int .i64 n4, .string s4, .slice na4 ns4.length nc4, .slice xa4 xs4.length xc4] 25))
            have HZ5 := Lib.hid (HZIN.out.below ((Below.refl _ _).alloc (Nat.le_refl _) (.cells #[.int .i64 k4, .int .i64 n4, .string s4, .slice na4 ns4.length nc4, .slice xa4 xs4.length xc4] 25)) (Nat.le_refl _))
            have HZA5 := Lib.hid (HZA.out.below (one_more _ (.cells #[.int .i64 k4, .int .i64 n4, .string s4, .slice na4 ns4.length nc4, .slice xa4 xs4.length xc4] 25)))
            have HL4 : Hid (w.heap.size + 3 ≤ w4.heap.size) := Lib.hid (by have := block_lt HT4.out.h2; omega)
            go_upto_region 5 with fail
            generalize w4.alloc (.cells #[.int .i64 k4, .int .i64 n4, .string s4, .slice na4 ns4.length nc4, .slice xa4 xs4.length xc4] 25) = w5 at *
            obtain ⟨a0, a1, a2, a3, a4⟩ := bx5 HN5.out
            go_wp2_with fail
            refine (FOZ.out _ HZ5.out HB5.out).mono ?_
            rintro e w6 ⟨rfl, hb6⟩
            obtain ⟨HT6, HB6⟩ : Hid (Three w.heap.size _ _ _ w6) ∧ Hid (Below w.heap.size w w6) := by
              obtain ⟨p1, p2⟩ := three_past HT5.out HB5.out hb6
              exact ⟨Lib.hid p1, Lib.hid p2⟩
            have HN6 := Lib.hid (box_past HN5.out hb6)
            have HZ6 := Lib.hid (HZ5.out.below hb6 (Nat.le_refl _))
            have HZA6 := Lib.hid (HZA5.out.below hb6)
            clear a0 a1 a2 a3 a4 hb6 HN5 HZ5 HT5 HB5
            obtain ⟨a0, a1, a2, a3, a4⟩ := bx5 HN6.out
            cases H with
            | false =>
              obtain ⟨c0, c1, c2, c3, c4⟩ := bx5 HT6.out.h2
              obtain ⟨f0, f1, f2, f3, f4⟩ := fz5 HT6.out.h2
              have hS2 : S = .error 3 := by rw [← HS3.out]; simp
              subst hS2
              go_wp2_with fail
              have hfin := below_five HB6.out (b := w.heap.size + 1 + 1) (by omega) (.int .i64 0) (.int .i64 0) (.string ⟨#[]⟩) (.slice none 0 0) (.slice none 0 0)
              exact bodyPost_ret (v := .tuple #[.agg #[.int .i64 0, .int .i64 0, .string ⟨#[]⟩, .slice none 0 0, .slice none 0 0], .int .i64 3]) (by simp [results, Tryd.results31, go_sem, c0, c1, c2, c3, c4]) rfl ⟨hfin, rfl⟩
            | true =>
              have hS2 : S = .ok Z := by rw [← HS3.out]; simp
              subst hS2
              obtain ⟨c0, c1, c2, c3, c4⟩ := bx5 HT6.out.h2
              obtain ⟨f0, f1, f2, f3, f4⟩ := fz5 HT6.out.h2
              go_wp2_with fail
              have hfin := below_five HB6.out (b := w.heap.size + 1 + 1) (by omega) (.int .i64 k4) (.int .i64 n4) (.string s4) (.slice na4 ns4.length nc4) (.slice xa4 xs4.length xc4)
              refine bodyPost_ret (v := .tuple #[.agg #[.int .i64 k4, .int .i64 n4, .string s4, .slice na4 ns4.length nc4, .slice xa4 xs4.length xc4], .int .i64 0]) (by simp [results, Tryd.results31, go_sem, c0, c1, c2, c3, c4]) rfl ⟨hfin, _, rfl, HZA6.out _ fun a h1 h2 => ?_, HZE.out⟩
              have h3 := HL3.out
              rw [World.cell?_setCell_far _ _ _ _ (by simp; omega), World.cell?_setCell_far _ _ _ _ (by simp; omega), World.cell?_setCell_far _ _ _ _ (by simp; omega), World.cell?_setCell_far _ _ _ _ (by simp; omega), World.cell?_setCell_far _ _ _ _ (by simp; omega)]
  · obtain ⟨c0, c1, c2, c3, c4⟩ := bx5 HT1.out.h2
    obtain ⟨f0, f1, f2, f3, f4⟩ := fz5 HT1.out.h2
    have hS2 : S = .error 2 := by rw [← HSPEC.out]; simp
    subst hS2
    clear bad
    go_wp2_with fail
    have hfin := below_five HB1.out (b := w.heap.size + 1 + 1) (by omega) (.int .i64 0) (.int .i64 0) (.string ⟨#[]⟩) (.slice none 0 0) (.slice none 0 0)
    exact bodyPost_ret (v := .tuple #[.agg #[.int .i64 0, .int .i64 0, .string ⟨#[]⟩, .slice none 0 0, .slice none 0 0], .int .i64 2]) (by simp [results, Tryd.results31, go_sem, c0, c1, c2, c3, c4]) rfl ⟨hfin, rfl⟩
end Go.Proofs.YtijibjdgnaphiaaDoor
