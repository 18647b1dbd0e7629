/- PathBack: what is put is got, and what was there, put back, gives the value again: the walk of the statement. -/
import Derived.Test.YtijibjdgnaphiaaDoorPback
import Derived.Test.YtijibjdgnaphiaaDoorPputs
namespace Go.Proofs.YtijibjdgnaphiaaDoor
open Go.ChangeShapes Go.WideShapes Go.Deep Go.RowKit Go.Lib

theorem putSpec_err {t x : AV} {l : List UInt8} {c : Int} (h : putSpec t l x = .error c) : c = 2 ∨ c = 3 ∨ c = 4 := by
  unfold putSpec at h
  split at h
  · split at h
    · cases h; exact .inr (.inr rfl)
    · split at h
      · cases h
      · cases h; exact .inr (.inl rfl)
  · cases h; exact .inl rfl

theorem stepNames_ne {l : List UInt8} (h : stepErr l = 0) : stepNames l ≠ [] := by
  unfold stepErr at h
  unfold stepNames
  split at h
  · rename_i ps hp
    unfold stepsOf at hp
    split at hp
    · cases hp
      simpa using dots_ne l
    · cases hp
  · cases h

theorem putAt_knd : ∀ {ns : List ByteArray} {t x Z : AV}, ns ≠ [] → AV.putAt ns t x = some Z → Z.knd = t.knd
  | [], _, _, _, h, _ => absurd rfl h
  | p :: r, t, x, Z, _, h => by
    obtain ⟨k, n, s, na, nc, ns, xa, xc, xs⟩ := t
    rw [AV.putAt] at h
    split at h
    · split at h
      · split at h
        · cases h; rfl
        · cases h
      · cases h
    · split at h
      · rename_i h6
        cases h; rw [h6.1]; rfl
      · cases h

theorem knd_eqv {a b : AV} (h : AV.eqv a b = true) : a.knd = b.knd := by
  obtain ⟨k, n, s, na, nc, ns, xa, xc, xs⟩ := a
  obtain ⟨k1, n1, s1, na1, nc1, ns1, xa1, xc1, ys⟩ := b
  rw [eqv_iff] at h
  exact h.1.1

/-- What follows where something was put. -/
theorem back_spec {t x Z p : AV} {l : List UInt8} (h : putSpec t l x = .ok Z) (hp : AV.eqv p Z = true) :
    AV.formedJ p 6 = true ∧ (∃ y, getSpec p l = some y ∧ AV.eqv y x = true) ∧ ∀ O o, getSpec t l = some O → AV.eqv o O = true → ∃ T, putSpec p l o = .ok T ∧ AV.eqv T t = true := by
  unfold putSpec at h
  split at h
  · rename_i hg
    obtain ⟨h0, h6, hf, hx⟩ := hg
    split at h
    · cases h
    · rename_i z hz
      split at h
      · rename_i hzf
        cases h
        have hpf : AV.formedJ p 6 = true := by rw [formed_eqv p Z 6 hp]; exact hzf
        have hne := stepNames_ne h0
        refine ⟨hpf, ?_, fun O o hO ho => ?_⟩
        · have h1 := put_got (stepNames l) hf hz
          have h2 := at_eqv (stepNames l) hp
          rw [h1] at h2
          unfold getSpec
          rw [if_pos ⟨h0, hpf⟩]
          cases hy : p.at (stepNames l) with
          | none => rw [hy] at h2; exact h2.elim
          | some y => rw [hy] at h2; exact ⟨y, rfl, h2⟩
        · unfold getSpec at hO
          rw [if_pos ⟨h0, hf⟩] at hO
          obtain ⟨T, hT, hTe⟩ := put_back (stepNames l) hz hO
          have h2 := put_eqv (stepNames l) hp ho
          rw [hT] at h2
          have hof : AV.formedJ o 6 = true := by rw [formed_eqv o O 6 ho]; exact at_formed _ hf hO
          cases hy : AV.putAt (stepNames l) p o with
          | none => rw [hy] at h2; exact h2.elim
          | some y =>
            rw [hy] at h2
            have hye : AV.eqv y t = true := eqv_trans h2 hTe
            refine ⟨y, ?_, hye⟩
            unfold putSpec
            rw [if_pos ⟨h0, by rw [knd_eqv hp, putAt_knd hne hz]; exact h6, hpf, hof⟩, hy]
            dsimp only
            rw [if_pos (by rw [formed_eqv y t 6 hye]; exact hf)]
      · cases h
  · cases h

/-- The two boxes of the arguments. -/
structure Two (w : World) (a b : Array Value) (W : World) : Prop where
  h0 : W.heap[w.heap.size]? = some (.cells a 25 (0, 0))
  h1 : W.heap[w.heap.size + 1]? = some (.cells b 25 (0, 0))
  hb : Below w.heap.size w W

theorem Two.later {w W W' : World} {a b : Array Value} (h : Two w a b W) (hb : Below W.heap.size W W') : Two w a b W' :=
  ⟨(hb.block _ (block_lt h.h0)).trans h.h0, (hb.block _ (block_lt h.h1)).trans h.h1, h.hb.trans (hb.mono h.hb.size)⟩

theorem kept5 {W W' : World} {b : Nat} {a : Array Value} (h : W.heap[b]? = some (.cells a 25 (0, 0))) (hb : Below W.heap.size W W') : W'.heap[b]? = some (.cells a 25 (0, 0)) := (hb.block _ (block_lt h)).trans h

theorem one_more (W : World) (o : Obj) : Below W.heap.size W (W.alloc o) := (Below.refl _ _).alloc (Nat.le_refl _) o

set_option maxHeartbeats 3200000 in
set_option maxRecDepth 100000 in
theorem lawback_any (t x : AV) (s : ByteArray) (w : World) (hin : t.In w) (hxin : x.In w) (hs : s.size ≤ maxLen) (hT : Tabs w) (hM : MaxL w) (hE : ErrV w) : Calls Tryd.prog 12 #[t.val, .string s, x.val] w fun e w' => e = .returned (.bool true) ∧ Below w.heap.size w w' := by
  unfold maxLen at hs
  have AW := Lib.hid (fun W (h : Below w.heap.size w W) => awakep_any W (hT.later h) (hM.later h))
  have FEWT := Lib.hid (fun W (h : Below w.heap.size w W) => few_any t W (hin.below h (Nat.le_refl _)))
  have FEWX := Lib.hid (fun W (h : Below w.heap.size w W) => few_any x W (hxin.below h (Nat.le_refl _)))
  obtain ⟨F, hF⟩ : ∃ F, AV.few t = F := ⟨_, rfl⟩
  obtain ⟨G, hG⟩ : ∃ G, AV.few x = G := ⟨_, rfl⟩
  rw [hF] at FEWT
  rw [hG] at FEWX
  have HTWO := Lib.hid (fun (a b : Array Value) => (show Two w a b ((w.alloc (.cells a 25)).alloc (.cells b 25)) from ⟨(two_box w a b).1, (two_box w a b).2, ((Below.refl _ _).alloc (Nat.le_refl _) _).alloc (by simp) _⟩))
  by_cases hgo : (F = true ∧ G = true) ∧ s.size ≤ 2000
  · obtain ⟨⟨rfl, rfl⟩, h2⟩ := hgo
    have PUT := Lib.hid (fun W (h : Below w.heap.size w W) => Put_any t x s W (hin.below h (Nat.le_refl _)) (hxin.below h (Nat.le_refl _)) h2 (hT.later h) (hM.later h) (hE.later h))
    have GETT := Lib.hid (fun W (h : Below w.heap.size w W) => Get_any t s W (hin.below h (Nat.le_refl _)) h2 (hT.later h) (hM.later h) (hE.later h))
    have GETP := Lib.hid (fun W (h : Below w.heap.size w W) (p : AV) (hp : p.In W) => Get_any p s W hp h2 (hT.later h) (hM.later h) (hE.later h))
    have PUTP := Lib.hid (fun W (h : Below w.heap.size w W) (p o : AV) (hp : p.In W) (ho : o.In W) => Put_any p o s W hp ho h2 (hT.later h) (hM.later h) (hE.later h))
    have FZ := Lib.hid (fun W (h : Below w.heap.size w W) (z : AV) (hz : z.In W) => Formed_any z W hz (hT.later h))
    have SX := Lib.hid (fun W (h : Below w.heap.size w W) (z : AV) (hz : z.In W) => rsame_any x z W (hxin.below h (Nat.le_refl _)) hz)
    have ST := Lib.hid (fun W (h : Below w.heap.size w W) (z : AV) (hz : z.In W) => rsame_any z t W hz (hin.below h (Nat.le_refl _)))
    obtain ⟨S, hS⟩ : ∃ S, putSpec t s.data.toList x = S := ⟨_, rfl⟩
    rw [hS] at PUT
    obtain ⟨O, hO⟩ : ∃ O, getSpec t s.data.toList = O := ⟨_, rfl⟩
    rw [hO] at GETT
    have SPEC : Hid (∀ Z p, S = .ok Z → AV.eqv p Z = true → AV.formedJ p 6 = true ∧ (∃ y, getSpec p s.data.toList = some y ∧ AV.eqv y x = true) ∧ ∀ O' o, O = some O' → AV.eqv o O' = true → ∃ T, putSpec p s.data.toList o = .ok T ∧ AV.eqv T t = true) :=
      Lib.hid (fun Z p hZ hp => by
        obtain ⟨q1, q2, q3⟩ := back_spec (hS.trans hZ) hp
        exact ⟨q1, q2, fun O' o h1 h2 => q3 O' o (hO.trans h1) h2⟩)
    have SERR : Hid (∀ c, S = .error c → c = 2 ∨ c = 3 ∨ c = 4) := Lib.hid (fun c h => putSpec_err (hS.trans h))
    clear hF hG hin hxin hT hM hE hS hO hs
    obtain ⟨TT, hTT⟩ : ∃ TT, TT = t := ⟨_, rfl⟩
    obtain ⟨XX, hXX⟩ : ∃ XX, XX = x := ⟨_, rfl⟩
    rw [← hTT] at SPEC
    rw [← hXX] at SPEC
    have HTT := Lib.hid hTT
    have HXX := Lib.hid hXX
    clear hTT hXX
    obtain ⟨k, n, str, na, nc, ns, xa, xc, xs⟩ := t
    obtain ⟨k2, n2, s2, na2, nc2, ns2, xa2, xc2, xs2⟩ := x
    simp only [AV.val, AV.row] at FEWT FEWX PUT GETT ⊢
    have HB1 := Lib.hid (HTWO.out #[.int .i64 k, .int .i64 n, .string str, .slice na ns.length nc, .slice xa xs.length xc] #[.int .i64 k2, .int .i64 n2, .string s2, .slice na2 ns2.length nc2, .slice xa2 xs2.length xc2])
    clear HTWO
    go_enter Tryd.func12, Tryd.ntmps12
    go_upto_region 1 with fail
    generalize ((w.alloc (.cells #[.int .i64 k, .int .i64 n, .string str, .slice na ns.length nc, .slice xa xs.length xc] 25)).alloc (.cells #[.int .i64 k2, .int .i64 n2, .string s2, .slice na2 ns2.length nc2, .slice xa2 xs2.length xc2] 25)) = W0 at *
    go_wp2_with fail
    refine (AW.out _ HB1.out.hb).mono ?_
    rintro e w1 ⟨rfl, hq⟩
    have HB2 := Lib.hid (HB1.out.later hq)
    clear hq HB1
    obtain ⟨a0, a1, a2, a3, a4⟩ := bx5 HB2.out.h0
    go_wp2_with fail
    refine (FEWT.out _ HB2.out.hb).mono ?_
    rintro e w2 ⟨rfl, hq⟩
    have HB3 := Lib.hid (HB2.out.later hq)
    clear hq HB2 a0 a1 a2 a3 a4
    obtain ⟨b0, b1, b2, b3, b4⟩ := bx5 HB3.out.h1
    go_wp2_with fail
    refine (FEWX.out _ HB3.out.hb).mono ?_
    rintro e w3 ⟨rfl, hq⟩
    have HB4 := Lib.hid (HB3.out.later hq)
    clear hq HB3 b0 b1 b2 b3 b4
    obtain ⟨a0, a1, a2, a3, a4⟩ := bx5 HB4.out.h0
    obtain ⟨b0, b1, b2, b3, b4⟩ := bx5 HB4.out.h1
    go_wp2_with fail
    refine (PUT.out _ HB4.out.hb).mono ?_
    rintro e w4 ⟨hq, hend⟩
    have HB5 := Lib.hid (HB4.out.later hq)
    clear hq HB4 a0 a1 a2 a3 a4 b0 b1 b2 b3 b4
    cases S with
    | error c =>
      have hc := SERR.out c rfl
      simp only [AV.zero, AV.val, AV.row, List.length_nil] at hend
      subst hend
      have SZ := Lib.hid (fun W => rsame_any AV.zero AV.zero W (zero_in W) (zero_in W))
      rw [AV.eqv_refl] at SZ
      simp only [AV.zero, AV.val, AV.row, List.length_nil] at SZ
      rcases hc with rfl | rfl | rfl
      all_goals
        go_wp2_with fail
        refine (SZ.out _).mono ?_
        rintro e w5 ⟨rfl, hq⟩
        have HB6 := Lib.hid ((HB5.out.later (one_more _ (.cells #[.int .i64 0, .int .i64 0, .string ⟨#[]⟩, .slice none 0 0, .slice none 0 0] 25))).later hq)
        go_wp2_with fail
        go_ret
        exact ⟨rfl, HB6.out.hb⟩
    | ok Z =>
      obtain ⟨p, rfl, hpin, hpe⟩ := hend
      obtain ⟨q1, ⟨y, q2, q2e⟩, q3⟩ := SPEC.out Z p rfl hpe
      have GP := Lib.hid (fun W (h : Below w.heap.size w W) (hp : p.In W) => GETP.out W h p hp)
      rw [q2] at GP
      have FP := Lib.hid (fun W (h : Below w.heap.size w W) (hp : p.In W) => FZ.out W h p hp)
      rw [q1] at FP
      have PP := Lib.hid (fun W (h : Below w.heap.size w W) (o : AV) (hp : p.In W) (ho : o.In W) => PUTP.out W h p o hp ho)
      have Q3 := Lib.hid q3
      have Q2E := Lib.hid q2e
      have HPIN := Lib.hid hpin
      clear q1 q2 q3 q2e hpe hpin SPEC SERR FZ GETP PUTP
      obtain ⟨PV, hPV⟩ : ∃ PV, PV = p := ⟨_, rfl⟩
      have HPV := Lib.hid hPV
      clear hPV
      obtain ⟨k4, n4, s4, na4, nc4, ns4, xa4, xc4, xs4⟩ := p
      simp only [AV.val, AV.row] at GP FP PP ⊢
      have HB6 := Lib.hid (HB5.out.later (one_more _ (.cells #[.int .i64 k4, .int .i64 n4, .string s4, .slice na4 ns4.length nc4, .slice xa4 xs4.length xc4] 25)))
      have HN6 := Lib.hid (heap_alloc_new w4 (.cells #[.int .i64 k4, .int .i64 n4, .string s4, .slice na4 ns4.length nc4, .slice xa4 xs4.length xc4] 25))
      have HP6 := Lib.hid (HPIN.out.below (one_more _ (.cells #[.int .i64 k4, .int .i64 n4, .string s4, .slice na4 ns4.length nc4, .slice xa4 xs4.length xc4] 25)) (Nat.le_refl _))
      go_upto_region 4 with fail
      obtain ⟨N, hN⟩ : ∃ N, w4.heap.size = N := ⟨_, rfl⟩
      rw [hN] at HN6
      simp only [hN]
      generalize w4.alloc (.cells #[.int .i64 k4, .int .i64 n4, .string s4, .slice na4 ns4.length nc4, .slice xa4 xs4.length xc4] 25) = w5 at *
      clear hN HB5 HPIN
      obtain ⟨a0, a1, a2, a3, a4⟩ := bx5 HN6.out
      go_wp2_with fail
      refine (GP.out _ HB6.out.hb HP6.out).mono ?_
      rintro e w6 ⟨hq, g, rfl, hgin, hga⟩
      have HB7 := Lib.hid (HB6.out.later hq)
      have HN7 := Lib.hid (kept5 HN6.out hq)
      have HP7 := Lib.hid (HP6.out.below hq (Nat.le_refl _))
      have HGE := Lib.hid (eqv_symm (eqv_trans (show AV.eqv g y = true from hga) Q2E.out))
      clear hq HB6 HN6 HP6 a0 a1 a2 a3 a4 hga
      have SG := Lib.hid (fun W (h : Below w.heap.size w W) (hz : g.In W) => SX.out W h g hz)
      rw [HXX.out] at HGE
      rw [HGE.out] at SG
      clear SX HGE
      obtain ⟨k6, n6, s6, na6, nc6, ns6, xa6, xc6, xs6⟩ := g
      simp only [AV.val, AV.row, Option.isSome_some] at SG ⊢
      have HB8 := Lib.hid (HB7.out.later (one_more _ (.cells #[.int .i64 k6, .int .i64 n6, .string s6, .slice na6 ns6.length nc6, .slice xa6 xs6.length xc6] 25)))
      have HN8 := Lib.hid (kept5 HN7.out (one_more _ (.cells #[.int .i64 k6, .int .i64 n6, .string s6, .slice na6 ns6.length nc6, .slice xa6 xs6.length xc6] 25)))
      have HP8 := Lib.hid (HP7.out.below (one_more _ (.cells #[.int .i64 k6, .int .i64 n6, .string s6, .slice na6 ns6.length nc6, .slice xa6 xs6.length xc6] 25)) (Nat.le_refl _))
      have HG8 := Lib.hid (hgin.below (one_more _ (.cells #[.int .i64 k6, .int .i64 n6, .string s6, .slice na6 ns6.length nc6, .slice xa6 xs6.length xc6] 25)) (Nat.le_refl _))
      have HM8 := Lib.hid (heap_alloc_new w6 (.cells #[.int .i64 k6, .int .i64 n6, .string s6, .slice na6 ns6.length nc6, .slice xa6 xs6.length xc6] 25))
      go_upto_region 7 with fail
      obtain ⟨M, hM⟩ : ∃ M, w6.heap.size = M := ⟨_, rfl⟩
      rw [hM] at HM8
      simp only [hM]
      generalize w6.alloc (.cells #[.int .i64 k6, .int .i64 n6, .string s6, .slice na6 ns6.length nc6, .slice xa6 xs6.length xc6] 25) = w7 at *
      clear hM HB7 HN7 HP7 hgin
      obtain ⟨b0, b1, b2, b3, b4⟩ := bx5 HB8.out.h1
      obtain ⟨m0, m1, m2, m3, m4⟩ := bx5 HM8.out
      go_wp2_with fail
      refine (SG.out _ HB8.out.hb HG8.out).mono ?_
      rintro e w8 ⟨rfl, hq⟩
      have HB9 := Lib.hid (HB8.out.later hq)
      have HN9 := Lib.hid (kept5 HN8.out hq)
      have HP9 := Lib.hid (HP8.out.below hq (Nat.le_refl _))
      clear hq HB8 HN8 HP8 HG8 HM8 b0 b1 b2 b3 b4 m0 m1 m2 m3 m4
      obtain ⟨a0, a1, a2, a3, a4⟩ := bx5 HN9.out
      go_wp2_with fail
      refine (FP.out _ HB9.out.hb HP9.out).mono ?_
      rintro e w9 ⟨rfl, hq⟩
      have HB10 := Lib.hid (HB9.out.later hq)
      have HN10 := Lib.hid (kept5 HN9.out hq)
      have HP10 := Lib.hid (HP9.out.below hq (Nat.le_refl _))
      clear hq HB9 HN9 HP9 a0 a1 a2 a3 a4
      obtain ⟨c0, c1, c2, c3, c4⟩ := bx5 HB10.out.h0
      go_wp2_with fail
      refine (GETT.out _ HB10.out.hb).mono ?_
      rintro e w10 ⟨hq, o, rfl, hoin, hoa⟩
      have HB11 := Lib.hid (HB10.out.later hq)
      have HN11 := Lib.hid (kept5 HN10.out hq)
      have HP11 := Lib.hid (HP10.out.below hq (Nat.le_refl _))
      clear hq HB10 HN10 HP10 c0 c1 c2 c3 c4
      cases O with
      | none =>
        obtain ⟨k7, n7, s7, na7, nc7, ns7, xa7, xc7, xs7⟩ := o
        simp only [AV.val, AV.row, Option.isSome_none]
        have HB12 := Lib.hid (HB11.out.later (one_more _ (.cells #[.int .i64 k7, .int .i64 n7, .string s7, .slice na7 ns7.length nc7, .slice xa7 xs7.length xc7] 25)))
        go_wp2_with fail
        go_ret
        exact ⟨rfl, HB12.out.hb⟩
      | some O' =>
        obtain ⟨T, hT1, hT2⟩ := Q3.out O' o rfl hoa
        have PO := Lib.hid (fun W (h : Below w.heap.size w W) hp (ho : o.In W) => PP.out W h o hp ho)
        rw [hT1] at PO
        have HTE := Lib.hid hT2
        clear PP Q3 hT1 hT2 hoa
        obtain ⟨k7, n7, s7, na7, nc7, ns7, xa7, xc7, xs7⟩ := o
        simp only [AV.val, AV.row, Option.isSome_some] at PO ⊢
        have HB12 := Lib.hid (HB11.out.later (one_more _ (.cells #[.int .i64 k7, .int .i64 n7, .string s7, .slice na7 ns7.length nc7, .slice xa7 xs7.length xc7] 25)))
        have HN12 := Lib.hid (kept5 HN11.out (one_more _ (.cells #[.int .i64 k7, .int .i64 n7, .string s7, .slice na7 ns7.length nc7, .slice xa7 xs7.length xc7] 25)))
        have HP12 := Lib.hid (HP11.out.below (one_more _ (.cells #[.int .i64 k7, .int .i64 n7, .string s7, .slice na7 ns7.length nc7, .slice xa7 xs7.length xc7] 25)) (Nat.le_refl _))
        have HO12 := Lib.hid (hoin.below (one_more _ (.cells #[.int .i64 k7, .int .i64 n7, .string s7, .slice na7 ns7.length nc7, .slice xa7 xs7.length xc7] 25)) (Nat.le_refl _))
        have HM12 := Lib.hid (heap_alloc_new w10 (.cells #[.int .i64 k7, .int .i64 n7, .string s7, .slice na7 ns7.length nc7, .slice xa7 xs7.length xc7] 25))
        go_upto_region 10 with fail
        obtain ⟨M2, hM2⟩ : ∃ M, w10.heap.size = M := ⟨_, rfl⟩
        rw [hM2] at HM12
        simp only [hM2]
        generalize w10.alloc (.cells #[.int .i64 k7, .int .i64 n7, .string s7, .slice na7 ns7.length nc7, .slice xa7 xs7.length xc7] 25) = w11 at *
        clear hM2 HB11 HN11 HP11 hoin
        obtain ⟨a0, a1, a2, a3, a4⟩ := bx5 HN12.out
        obtain ⟨m0, m1, m2, m3, m4⟩ := bx5 HM12.out
        go_wp2_with fail
        refine (PO.out _ HB12.out.hb HP12.out HO12.out).mono ?_
        rintro e w12 ⟨hq, b, rfl, hbin, hbe⟩
        have HB13 := Lib.hid (HB12.out.later hq)
        have HBE := Lib.hid (eqv_trans hbe HTE.out)
        rw [HTT.out] at HBE
        clear hq HB12 HN12 HP12 HO12 HM12 a0 a1 a2 a3 a4 m0 m1 m2 m3 m4 hbe
        have SB := Lib.hid (fun W (h : Below w.heap.size w W) (hz : b.In W) => ST.out W h b hz)
        rw [HBE.out] at SB
        obtain ⟨k8, n8, s8, na8, nc8, ns8, xa8, xc8, xs8⟩ := b
        simp only [AV.val, AV.row] at SB ⊢
        have HB14 := Lib.hid (HB13.out.later (one_more _ (.cells #[.int .i64 k8, .int .i64 n8, .string s8, .slice na8 ns8.length nc8, .slice xa8 xs8.length xc8] 25)))
        have HZ14 := Lib.hid (hbin.below (one_more _ (.cells #[.int .i64 k8, .int .i64 n8, .string s8, .slice na8 ns8.length nc8, .slice xa8 xs8.length xc8] 25)) (Nat.le_refl _))
        have HM14 := Lib.hid (heap_alloc_new w12 (.cells #[.int .i64 k8, .int .i64 n8, .string s8, .slice na8 ns8.length nc8, .slice xa8 xs8.length xc8] 25))
        go_upto_region 13 with fail
        obtain ⟨M3, hM3⟩ : ∃ M, w12.heap.size = M := ⟨_, rfl⟩
        rw [hM3] at HM14
        simp only [hM3]
        generalize w12.alloc (.cells #[.int .i64 k8, .int .i64 n8, .string s8, .slice na8 ns8.length nc8, .slice xa8 xs8.length xc8] 25) = w13 at *
        clear hM3 HB13 hbin
        obtain ⟨c0, c1, c2, c3, c4⟩ := bx5 HB14.out.h0
        obtain ⟨m0, m1, m2, m3, m4⟩ := bx5 HM14.out
        go_wp2_with fail
        refine (SB.out _ HB14.out.hb HZ14.out).mono ?_
        rintro e w14 ⟨rfl, hq⟩
        have HB15 := Lib.hid (HB14.out.later hq)
        go_wp2_with fail
        go_ret
        exact ⟨rfl, HB15.out.hb⟩
  · have hends : F = false ∨ (F = true ∧ G = false) ∨ ((F = true ∧ G = true) ∧ ¬ (s.size : Int) ≤ 2000) := by
      cases F
      · exact .inl rfl
      · cases G
        · exact .inr (.inl ⟨rfl, rfl⟩)
        · exact .inr (.inr ⟨⟨rfl, rfl⟩, fun h => hgo ⟨⟨rfl, rfl⟩, by omega⟩⟩)
    clear hF hG hin hxin hT hM hE hgo
    obtain ⟨k, n, str, na, nc, ns, xa, xc, xs⟩ := t
    obtain ⟨k2, n2, s2, na2, nc2, ns2, xa2, xc2, xs2⟩ := x
    simp only [AV.val, AV.row] at FEWT FEWX ⊢
    have HB1 := Lib.hid (HTWO.out #[.int .i64 k, .int .i64 n, .string str, .slice na ns.length nc, .slice xa xs.length xc] #[.int .i64 k2, .int .i64 n2, .string s2, .slice na2 ns2.length nc2, .slice xa2 xs2.length xc2])
    clear HTWO
    go_enter Tryd.func12, Tryd.ntmps12
    go_upto_region 1 with fail
    generalize ((w.alloc (.cells #[.int .i64 k, .int .i64 n, .string str, .slice na ns.length nc, .slice xa xs.length xc] 25)).alloc (.cells #[.int .i64 k2, .int .i64 n2, .string s2, .slice na2 ns2.length nc2, .slice xa2 xs2.length xc2] 25)) = W0 at *
    go_wp2_with fail
    refine (AW.out _ HB1.out.hb).mono ?_
    rintro e w1 ⟨rfl, hq⟩
    have HB2 := Lib.hid (HB1.out.later hq)
    clear hq HB1
    obtain ⟨a0, a1, a2, a3, a4⟩ := bx5 HB2.out.h0
    go_wp2_with fail
    refine (FEWT.out _ HB2.out.hb).mono ?_
    rintro e w2 ⟨rfl, hq⟩
    have HB3 := Lib.hid (HB2.out.later hq)
    clear hq HB2 a0 a1 a2 a3 a4
    rcases hends with rfl | ⟨rfl, rfl⟩ | ⟨⟨rfl, rfl⟩, h2⟩
    · go_wp2_with fail
      refine (AW.out _ HB3.out.hb).mono ?_
      rintro e w3 ⟨rfl, hq⟩
      have HB4 := Lib.hid (HB3.out.later hq)
      go_wp2_with fail
      go_ret
      exact ⟨rfl, HB4.out.hb⟩
    · obtain ⟨b0, b1, b2, b3, b4⟩ := bx5 HB3.out.h1
      go_wp2_with fail
      refine (FEWX.out _ HB3.out.hb).mono ?_
      rintro e w3 ⟨rfl, hq⟩
      have HB4 := Lib.hid (HB3.out.later hq)
      clear hq HB3 b0 b1 b2 b3 b4
      go_wp2_with fail
      refine (AW.out _ HB4.out.hb).mono ?_
      rintro e w4 ⟨rfl, hq⟩
      have HB5 := Lib.hid (HB4.out.later hq)
      go_wp2_with fail
      go_ret
      exact ⟨rfl, HB5.out.hb⟩
    · obtain ⟨b0, b1, b2, b3, b4⟩ := bx5 HB3.out.h1
      go_wp2_with fail
      refine (FEWX.out _ HB3.out.hb).mono ?_
      rintro e w3 ⟨rfl, hq⟩
      have HB4 := Lib.hid (HB3.out.later hq)
      clear hq HB3 b0 b1 b2 b3 b4
      go_wp2_with fail
      refine (AW.out _ HB4.out.hb).mono ?_
      rintro e w4 ⟨rfl, hq⟩
      have HB5 := Lib.hid (HB4.out.later hq)
      go_wp2_with fail
      go_ret
      exact ⟨rfl, HB5.out.hb⟩
end Go.Proofs.YtijibjdgnaphiaaDoor
