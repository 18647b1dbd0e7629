/- PathPuts: the program and the document put alike: the walk of the statement, where the document's put does as putAt says (RPut: to be shown). -/
import Derived.Test.YtijibjdgnaphiaaDoorLawback
import Derived.Test.YtijibjdgnaphiaaDoorRputs
namespace Go.Proofs.YtijibjdgnaphiaaDoor
open Go.ChangeShapes Go.WideShapes Go.Deep Go.RowKit Go.Lib

set_option maxHeartbeats 3200000 in
set_option maxRecDepth 100000 in
theorem lawputs_any (RP : RPut) (t x : AV) (s : ByteArray) (w : World) (hin : t.In w) (hxin : x.In w) (hs : s.size ≤ maxLen) (hT : Tabs w) (hM : MaxL w) (hE : ErrV w) : Calls Tryd.prog 11 #[t.val, .string s, x.val] w fun e w' => e = .returned (.bool true) ∧ Below w.heap.size w w' := by
  unfold maxLen at hs
  have AW := Lib.hid (fun W (h : Below w.heap.size w W) => awakep_any W (hT.later h) (hM.later h))
  have FEWT := Lib.hid (fun W (h : Below w.heap.size w W) => few_any t W (hin.below h (Nat.le_refl _)))
  have FEWX := Lib.hid (fun W (h : Below w.heap.size w W) => few_any x W (hxin.below h (Nat.le_refl _)))
  obtain ⟨F, hF⟩ : ∃ F, AV.few t = F := ⟨_, rfl⟩
  obtain ⟨G, hG⟩ : ∃ G, AV.few x = G := ⟨_, rfl⟩
  rw [hF] at FEWT
  rw [hG] at FEWX
  have HTWO := Lib.hid (fun (a b : Array Value) => (show Two w a b ((w.alloc (.cells a 25)).alloc (.cells b 25)) from ⟨(two_box w a b).1, (two_box w a b).2, ((Below.refl _ _).alloc (Nat.le_refl _) _).alloc (by simp) _⟩))
  by_cases hgo : (F = true ∧ G = true) ∧ s.size ≤ 2000
  · obtain ⟨⟨rfl, rfl⟩, h2⟩ := hgo
    have PUT := Lib.hid (fun W (h : Below w.heap.size w W) => Put_any t x s W (hin.below h (Nat.le_refl _)) (hxin.below h (Nat.le_refl _)) h2 (hT.later h) (hM.later h) (hE.later h))
    have RPT := Lib.hid (fun W (h : Below w.heap.size w W) => rPut_any RP t x s W (hin.below h (Nat.le_refl _)) (hxin.below h (Nat.le_refl _)) h2)
    obtain ⟨S, hS⟩ : ∃ S, putSpec t s.data.toList x = S := ⟨_, rfl⟩
    rw [hS] at PUT RPT
    have SERR : Hid (∀ c, S = .error c → c = 2 ∨ c = 3 ∨ c = 4) := Lib.hid (fun c h => putSpec_err (hS.trans h))
    clear hF hG hin hxin hT hM hE hS hs
    obtain ⟨k, n, str, na, nc, ns, xa, xc, xs⟩ := t
    obtain ⟨k2, n2, s2, na2, nc2, ns2, xa2, xc2, xs2⟩ := x
    simp only [AV.val, AV.row] at FEWT FEWX PUT RPT ⊢
    have HB1 := Lib.hid (HTWO.out #[.int .i64 k, .int .i64 n, .string str, .slice na ns.length nc, .slice xa xs.length xc] #[.int .i64 k2, .int .i64 n2, .string s2, .slice na2 ns2.length nc2, .slice xa2 xs2.length xc2])
    clear HTWO
    go_enter Tryd.func11, Tryd.ntmps11
    go_upto_region 1 with fail
    generalize ((w.alloc (.cells #[.int .i64 k, .int .i64 n, .string str, .slice na ns.length nc, .slice xa xs.length xc] 25)).alloc (.cells #[.int .i64 k2, .int .i64 n2, .string s2, .slice na2 ns2.length nc2, .slice xa2 xs2.length xc2] 25)) = W0 at *
    go_wp2_with fail
    refine (AW.out _ HB1.out.hb).mono ?_
    rintro e w1 ⟨rfl, hq⟩
    have HB2 := Lib.hid (HB1.out.later hq)
    clear hq HB1
    obtain ⟨a0, a1, a2, a3, a4⟩ := bx5 HB2.out.h0
    go_wp2_with fail
    refine (FEWT.out _ HB2.out.hb).mono ?_
    rintro e w2 ⟨rfl, hq⟩
    have HB3 := Lib.hid (HB2.out.later hq)
    clear hq HB2 a0 a1 a2 a3 a4
    obtain ⟨b0, b1, b2, b3, b4⟩ := bx5 HB3.out.h1
    go_wp2_with fail
    refine (FEWX.out _ HB3.out.hb).mono ?_
    rintro e w3 ⟨rfl, hq⟩
    have HB4 := Lib.hid (HB3.out.later hq)
    clear hq HB3 b0 b1 b2 b3 b4
    obtain ⟨a0, a1, a2, a3, a4⟩ := bx5 HB4.out.h0
    obtain ⟨b0, b1, b2, b3, b4⟩ := bx5 HB4.out.h1
    go_wp2_with fail
    refine (PUT.out _ HB4.out.hb).mono ?_
    rintro e w4 ⟨hq, hend⟩
    have HB5 := Lib.hid (HB4.out.later hq)
    clear hq HB4 a0 a1 a2 a3 a4 b0 b1 b2 b3 b4
    cases S with
    | error c =>
      have hc := SERR.out c rfl
      simp only [AV.zero, AV.val, AV.row, List.length_nil] at hend
      subst hend
      have SZ := Lib.hid (fun W => rsame_any AV.zero AV.zero W (zero_in W) (zero_in W))
      rw [AV.eqv_refl] at SZ
      simp only [AV.zero, AV.val, AV.row, List.length_nil] at SZ
      have HB6 := Lib.hid (HB5.out.later (one_more _ (.cells #[.int .i64 0, .int .i64 0, .string ⟨#[]⟩, .slice none 0 0, .slice none 0 0] 25)))
      have HN6 := Lib.hid (heap_alloc_new w4 (.cells #[.int .i64 0, .int .i64 0, .string ⟨#[]⟩, .slice none 0 0, .slice none 0 0] 25))
      go_upto_region 4 with fail
      obtain ⟨N, hN⟩ : ∃ N, w4.heap.size = N := ⟨_, rfl⟩
      rw [hN] at HN6
      simp only [hN]
      generalize w4.alloc (.cells #[.int .i64 0, .int .i64 0, .string ⟨#[]⟩, .slice none 0 0, .slice none 0 0] 25) = w5 at *
      clear hN HB5
      obtain ⟨a0, a1, a2, a3, a4⟩ := bx5 HB6.out.h0
      obtain ⟨b0, b1, b2, b3, b4⟩ := bx5 HB6.out.h1
      go_wp2_with fail
      refine (RPT.out _ HB6.out.hb).mono ?_
      rintro e w6 ⟨hq, hend⟩
      simp only [AV.zero, AV.val, AV.row, List.length_nil] at hend
      subst hend
      have HB7 := Lib.hid (HB6.out.later hq)
      have HN7 := Lib.hid (kept5 HN6.out hq)
      have HB8 := Lib.hid (HB7.out.later (one_more _ (.cells #[.int .i64 0, .int .i64 0, .string ⟨#[]⟩, .slice none 0 0, .slice none 0 0] 25)))
      have HN8 := Lib.hid (kept5 HN7.out (one_more _ (.cells #[.int .i64 0, .int .i64 0, .string ⟨#[]⟩, .slice none 0 0, .slice none 0 0] 25)))
      have HM8 := Lib.hid (heap_alloc_new w6 (.cells #[.int .i64 0, .int .i64 0, .string ⟨#[]⟩, .slice none 0 0, .slice none 0 0] 25))
      clear hq HB6 HN6 a0 a1 a2 a3 a4 b0 b1 b2 b3 b4
      go_upto_region 5 with fail
      obtain ⟨M, hM⟩ : ∃ M, w6.heap.size = M := ⟨_, rfl⟩
      rw [hM] at HM8
      simp only [hM]
      generalize w6.alloc (.cells #[.int .i64 0, .int .i64 0, .string ⟨#[]⟩, .slice none 0 0, .slice none 0 0] 25) = w7 at *
      clear hM HB7 HN7
      obtain ⟨a0, a1, a2, a3, a4⟩ := bx5 HN8.out
      obtain ⟨m0, m1, m2, m3, m4⟩ := bx5 HM8.out
      rcases hc with rfl | rfl | rfl
      all_goals
        go_wp2_with fail
        refine (SZ.out _).mono ?_
        rintro e w8 ⟨rfl, hq⟩
        have HB9 := Lib.hid (HB8.out.later hq)
        go_wp2_with fail
        go_ret
        exact ⟨rfl, HB9.out.hb⟩
    | ok Z =>
      obtain ⟨p, rfl, hpin, hpe⟩ := hend
      have HPIN := Lib.hid hpin
      have HPE := Lib.hid hpe
      clear hpin hpe
      have SP := Lib.hid (fun (q : AV) (hq : AV.eqv q Z = true) W (hp : p.In W) (hqi : q.In W) => by
        have h := rsame_any p q W hp hqi
        rw [eqv_join p q Z HPE.out hq] at h
        exact h)
      obtain ⟨k4, n4, s4, na4, nc4, ns4, xa4, xc4, xs4⟩ := p
      simp only [AV.val, AV.row] at SP ⊢
      have HB6 := Lib.hid (HB5.out.later (one_more _ (.cells #[.int .i64 k4, .int .i64 n4, .string s4, .slice na4 ns4.length nc4, .slice xa4 xs4.length xc4] 25)))
      have HN6 := Lib.hid (heap_alloc_new w4 (.cells #[.int .i64 k4, .int .i64 n4, .string s4, .slice na4 ns4.length nc4, .slice xa4 xs4.length xc4] 25))
      have HP6 := Lib.hid (HPIN.out.below (one_more _ (.cells #[.int .i64 k4, .int .i64 n4, .string s4, .slice na4 ns4.length nc4, .slice xa4 xs4.length xc4] 25)) (Nat.le_refl _))
      go_upto_region 4 with fail
      obtain ⟨N, hN⟩ : ∃ N, w4.heap.size = N := ⟨_, rfl⟩
      rw [hN] at HN6
      simp only [hN]
      generalize w4.alloc (.cells #[.int .i64 k4, .int .i64 n4, .string s4, .slice na4 ns4.length nc4, .slice xa4 xs4.length xc4] 25) = w5 at *
      clear hN HB5 HPIN
      obtain ⟨a0, a1, a2, a3, a4⟩ := bx5 HB6.out.h0
      obtain ⟨b0, b1, b2, b3, b4⟩ := bx5 HB6.out.h1
      go_wp2_with fail
      refine (RPT.out _ HB6.out.hb).mono ?_
      rintro e w6 ⟨hq, q, rfl, hqin, hqe⟩
      have HB7 := Lib.hid (HB6.out.later hq)
      have HN7 := Lib.hid (kept5 HN6.out hq)
      have HP7 := Lib.hid (HP6.out.below hq (Nat.le_refl _))
      have SQ := Lib.hid (fun W hp (hqi : q.In W) => SP.out q hqe W hp hqi)
      clear hq HB6 HN6 HP6 a0 a1 a2 a3 a4 b0 b1 b2 b3 b4 hqe SP
      obtain ⟨k6, n6, s6, na6, nc6, ns6, xa6, xc6, xs6⟩ := q
      simp only [AV.val, AV.row] at SQ ⊢
      have HB8 := Lib.hid (HB7.out.later (one_more _ (.cells #[.int .i64 k6, .int .i64 n6, .string s6, .slice na6 ns6.length nc6, .slice xa6 xs6.length xc6] 25)))
      have HN8 := Lib.hid (kept5 HN7.out (one_more _ (.cells #[.int .i64 k6, .int .i64 n6, .string s6, .slice na6 ns6.length nc6, .slice xa6 xs6.length xc6] 25)))
      have HP8 := Lib.hid (HP7.out.below (one_more _ (.cells #[.int .i64 k6, .int .i64 n6, .string s6, .slice na6 ns6.length nc6, .slice xa6 xs6.length xc6] 25)) (Nat.le_refl _))
      have HQ8 := Lib.hid (hqin.below (one_more _ (.cells #[.int .i64 k6, .int .i64 n6, .string s6, .slice na6 ns6.length nc6, .slice xa6 xs6.length xc6] 25)) (Nat.le_refl _))
      have HM8 := Lib.hid (heap_alloc_new w6 (.cells #[.int .i64 k6, .int .i64 n6, .string s6, .slice na6 ns6.length nc6, .slice xa6 xs6.length xc6] 25))
      go_upto_region 5 with fail
      obtain ⟨M, hM⟩ : ∃ M, w6.heap.size = M := ⟨_, rfl⟩
      rw [hM] at HM8
      simp only [hM]
      generalize w6.alloc (.cells #[.int .i64 k6, .int .i64 n6, .string s6, .slice na6 ns6.length nc6, .slice xa6 xs6.length xc6] 25) = w7 at *
      clear hM HB7 HN7 HP7 hqin
      obtain ⟨a0, a1, a2, a3, a4⟩ := bx5 HN8.out
      obtain ⟨m0, m1, m2, m3, m4⟩ := bx5 HM8.out
      go_wp2_with fail
      refine (SQ.out _ HP8.out HQ8.out).mono ?_
      rintro e w8 ⟨rfl, hq⟩
      have HB9 := Lib.hid (HB8.out.later hq)
      go_wp2_with fail
      go_ret
      exact ⟨rfl, HB9.out.hb⟩
  · have hends : F = false ∨ (F = true ∧ G = false) ∨ ((F = true ∧ G = true) ∧ ¬ (s.size : Int) ≤ 2000) := by
      cases F
      · exact .inl rfl
      · cases G
        · exact .inr (.inl ⟨rfl, rfl⟩)
        · exact .inr (.inr ⟨⟨rfl, rfl⟩, fun h => hgo ⟨⟨rfl, rfl⟩, by omega⟩⟩)
    clear hF hG hin hxin hT hM hE hgo
    obtain ⟨k, n, str, na, nc, ns, xa, xc, xs⟩ := t
    obtain ⟨k2, n2, s2, na2, nc2, ns2, xa2, xc2, xs2⟩ := x
    simp only [AV.val, AV.row] at FEWT FEWX ⊢
    have HB1 := Lib.hid (HTWO.out #[.int .i64 k, .int .i64 n, .string str, .slice na ns.length nc, .slice xa xs.length xc] #[.int .i64 k2, .int .i64 n2, .string s2, .slice na2 ns2.length nc2, .slice xa2 xs2.length xc2])
    clear HTWO
    go_enter Tryd.func11, Tryd.ntmps11
    go_upto_region 1 with fail
    generalize ((w.alloc (.cells #[.int .i64 k, .int .i64 n, .string str, .slice na ns.length nc, .slice xa xs.length xc] 25)).alloc (.cells #[.int .i64 k2, .int .i64 n2, .string s2, .slice na2 ns2.length nc2, .slice xa2 xs2.length xc2] 25)) = W0 at *
    go_wp2_with fail
    refine (AW.out _ HB1.out.hb).mono ?_
    rintro e w1 ⟨rfl, hq⟩
    have HB2 := Lib.hid (HB1.out.later hq)
    clear hq HB1
    obtain ⟨a0, a1, a2, a3, a4⟩ := bx5 HB2.out.h0
    go_wp2_with fail
    refine (FEWT.out _ HB2.out.hb).mono ?_
    rintro e w2 ⟨rfl, hq⟩
    have HB3 := Lib.hid (HB2.out.later hq)
    clear hq HB2 a0 a1 a2 a3 a4
    rcases hends with rfl | ⟨rfl, rfl⟩ | ⟨⟨rfl, rfl⟩, h2⟩
    · go_wp2_with fail
      refine (AW.out _ HB3.out.hb).mono ?_
      rintro e w3 ⟨rfl, hq⟩
      have HB4 := Lib.hid (HB3.out.later hq)
      go_wp2_with fail
      go_ret
      exact ⟨rfl, HB4.out.hb⟩
    · obtain ⟨b0, b1, b2, b3, b4⟩ := bx5 HB3.out.h1
      go_wp2_with fail
      refine (FEWX.out _ HB3.out.hb).mono ?_
      rintro e w3 ⟨rfl, hq⟩
      have HB4 := Lib.hid (HB3.out.later hq)
      clear hq HB3 b0 b1 b2 b3 b4
      go_wp2_with fail
      refine (AW.out _ HB4.out.hb).mono ?_
      rintro e w4 ⟨rfl, hq⟩
      have HB5 := Lib.hid (HB4.out.later hq)
      go_wp2_with fail
      go_ret
      exact ⟨rfl, HB5.out.hb⟩
    · obtain ⟨b0, b1, b2, b3, b4⟩ := bx5 HB3.out.h1
      go_wp2_with fail
      refine (FEWX.out _ HB3.out.hb).mono ?_
      rintro e w3 ⟨rfl, hq⟩
      have HB4 := Lib.hid (HB3.out.later hq)
      clear hq HB3 b0 b1 b2 b3 b4
      go_wp2_with fail
      refine (AW.out _ HB4.out.hb).mono ?_
      rintro e w4 ⟨rfl, hq⟩
      have HB5 := Lib.hid (HB4.out.later hq)
      go_wp2_with fail
      go_ret
      exact ⟨rfl, HB5.out.hb⟩
end Go.Proofs.YtijibjdgnaphiaaDoor
