/- DiskKeeps: a cut that keeps all is the disk as it was written, one that keeps nothing as it was synced; this disk stays as it is: the walk of the statement. -/
import Derived.Test.YtaaceaojgbicaaaKeepb
namespace Go.Proofs.Ytaaceaojgbicaaa
open Go.ChangeShapes Go.WideShapes Go.Deep Go.RowKit Go.Lib Go.Maps

set_option maxHeartbeats 4000000 in
set_option maxRecDepth 100000 in
theorem lawkeeps_some (na : Option Addr) (ca : Nat) (sc : List OpV) (w : World) (hs : ScriptIn w na sc) (h1 : fewB sc = true) :
    Calls Try.prog 5 #[.slice na sc.length ca] w fun e w' => e = .returned (.bool true) ∧ Below w.heap.size w w' := by
  have AWAKE := Lib.hid (fun W => awake_any W)
  have NEW := Lib.hid (fun W => new_any 6 W)
  have FEW1 := Lib.hid (fun W (h : Below w.heap.size w W) => few_any na ca sc W (hs.below h))
  rw [h1] at FEW1
  have SECT : Hid (∀ m W, Calls Try.prog 19 #[.int .i64 m] W fun e w' => ∃ g, e = .returned (.slice (some ⟨g, 0, none⟩) 256 256) ∧ W.heap.size ≤ g ∧ BytesIn w' (some ⟨g, 0, none⟩) (alike m) ∧ Below W.heap.size W w') := Lib.hid (fun m W => (sector_any m W).mono fun e w' h => by
    have := h.bytes
    rwa [alike_length] at this)
  have HS := Lib.hid hs
  have hsl : sc.length ≤ 60 := (of_decide_eq_true h1).1
  have h6 : clampN 6 = 6 := by decide
  rw [h6] at NEW
  clear hs h1 h6
  go_enter Try.func5, Try.ntmps5
  go_wp2_with fail
  refine (AWAKE.out _).mono ?_
  rintro e w1 ⟨rfl, hb1⟩
  have HB1 := Lib.hid hb1
  clear hb1
  go_wp2_with fail
  refine (FEW1.out _ HB1.out).mono ?_
  rintro e w2 ⟨rfl, rfl⟩
  go_wp2_with fail
  refine (NEW.out _).mono ?_
  rintro e w2 ⟨a, rfl, hd, hb2, hf⟩
  have HA2 : Hid (OwnAt w w2 a.db (freshD 6) a) := Lib.hid ⟨hd, rfl, HB1.out.trans (hb2.mono HB1.out.size), fun k hk => Nat.le_trans HB1.out.size (hf k hk)⟩
  clear hd hb2 hf
  have CUT := Lib.hid (cut_any HA2.out.at_ (by decide) none 0 [] (.inl rfl) (by simp))
  unfold ptr at CUT ⊢
  go_wp2_with fail
  refine (CUT.out).mono ?_
  rintro e w3 ⟨y, rfl, hdy, hby, hfy⟩
  have HA3 := Lib.hid (HA2.out.later hby)
  have HY3 : Hid (Rd w3 y (freshD 6).last 6) := Lib.hid (cut_rd ⟨rfl, rfl, rfl⟩ hdy)
  have HYF : Hid ((∀ k, y.foot k → ¬ a.foot k) ∧ ∀ k, y.foot k → w.heap.size ≤ k) := Lib.hid ⟨fun k hk e => by
    have h1 := hfy k hk
    have h2 := HA2.out.at_.lt k e
    omega, fun k hk => Nat.le_trans HA2.out.below.size (hfy k hk)⟩
  clear hdy hby hfy CUT HA2
  generalize a.db = db at *
  unfold ptr
  go_wp2_with fail
  go_loopw [4, 5] (fun v i wr => ∃ k : Nat, k ≤ sc.length ∧ i = .int .i64 k ∧ ∃ s a' y, v = .pointer (some ⟨y.db, 0, none⟩) ∧ OwnAt w wr db s a' ∧ Open 6 s ∧ s.k = k ∧ Rd wr y s.last 6 ∧ (∀ j, y.foot j → ¬ a'.foot j) ∧ (∀ j, y.foot j → w.heap.size ≤ j)) (fun _ i _ => sc.length - (intOf i).toNat)
  case atStart => exact ⟨0, Nat.zero_le _, rfl, _, _, y, rfl, HA3.out, ⟨rfl, rfl, rfl⟩, rfl, HY3.out, HYF.out.1, HYF.out.2⟩
  case round =>
    clear HY3 HYF HA3

    obtain ⟨k, hk, rfl, s, a', y, rfl, hA, hF, hkk, hY, hya, hyw⟩ := hrel
    have HA := Lib.hid hA
    have HF := Lib.hid hF
    have HKK := Lib.hid hkk
    have HY := Lib.hid hY
    have HYA := Lib.hid hya
    have HYW := Lib.hid hyw
    clear hA hF hkk hY hya hyw
    by_cases hlt : k < sc.length
    · have hlt' : (k : Int) < (sc.length : Int) := by omega
      obtain ⟨p, hp⟩ : ∃ p, sc[k]? = some p := ⟨_, List.getElem?_eq_getElem hlt⟩
      obtain ⟨sb, so, rfl, hsb, c0, c1, c2, -⟩ := HS.out.cells hp
      have CELL : Hid (∀ W, Below w.heap.size w W → W.cell? ⟨sb, so + k * 4 + 1, none⟩ = some (.int .i64 p.n) ∧ W.cell? ⟨sb, so + k * 4 + 2, none⟩ = some (.int .i64 p.m)) := Lib.hid (fun W hb => ⟨cell_kept2 hb c1, cell_kept2 hb c2⟩)
      have KIND : Hid (∀ W, Below w.heap.size w W → W.cell? ⟨sb, so + k * 4, none⟩ = some (.int .i64 p.k)) := Lib.hid (fun W hb => cell_kept2 hb c0)
      have SLOT := Lib.hid (slotOf_lt 6 p.n (.inl rfl))
      clear c0 c1 c2 hp hsb
      obtain ⟨c1, c2⟩ := CELL.out wr HA.out.below
      go_wp2_with fail
      go_region_held_law (fun w' => w'.cell? ⟨sb, so + k * 4 + 1, none⟩ = some (.int .i64 p.n) ∧ w'.cell? ⟨sb, so + k * 4 + 2, none⟩ = some (.int .i64 p.m)) (first | exact ⟨c1, c2⟩ | exact ⟨c5, c6⟩ | exact ⟨c3, c4⟩)
        (first
          | (go_at_call 19; refine (SECT.out p.m wr.drew).mono ?_; rintro e w4 ⟨g, rfl, hg, hin, hb4⟩; obtain ⟨c3, c4⟩ := CELL.out w4 (HA.out.below.trans (((Below.refl _ _).drew.trans hb4).mono HA.out.below.size)); have WR := Lib.hid (write_open2 HA.out HF.out ((Below.refl _ _).drew.trans hb4) hg (by rw [HKK.out]; omega) SLOT.out.1 SLOT.out.2 (by decide) (alike_length p.m) hin); clear hg hin hb4)
          | (go_at_call 18; refine (WR.out).mono ?_; rintro e w5 ⟨rfl, a5, hA5, hO5⟩; obtain ⟨c5, c6⟩ := CELL.out w5 hA5.below; have HA5 := Lib.hid hA5; have HO5 := Lib.hid hO5; clear hA5 hO5))
      all_goals
        obtain ⟨t5, hy1, hy2, hy3⟩ := HY.out
        obtain ⟨hy4, hy5⟩ := HO5.out _ _ hy1 HYA.out
        have HY5 : Hid (Rd w5 y s.last 6) := Lib.hid ⟨t5, hy4, hy2, hy3⟩
        have HYA5 := Lib.hid hy5
        have HF5 := Lib.hid (HF.out.push (slotOf 6 p.n) (alike p.m))
        have HK5 : Hid (s.k + 1 = k + 1) := Lib.hid (by rw [HKK.out])
        clear hy1 hy2 hy3 hy4 hy5
        have ck := KIND.out w5 HA5.out.below
        by_cases hk3 : p.k = 3
        · rw [hk3] at ck
          have SY := sync_any HA5.out.at_ (by show s.k + 1 < 1073741824; rw [HKK.out]; omega)
          rw [show ptr a5 = .pointer (some ⟨db, 0, none⟩) by unfold ptr; rw [HA5.out.db], show DS.synced _ = _ from HF5.out.synced] at SY
          have SYN := Lib.hid SY
          clear SY hk3
          go_wp2_with fail
          refine (SYN.out).mono ?_
          rintro e w6 ⟨rfl, hB6⟩
          obtain ⟨a6, hA6⟩ := HA5.out.became hB6
          have HA6 := Lib.hid hA6
          have HF6 := Lib.hid HF5.out.sync
          clear hB6 hA6 SYN ck
          have CUT := cut_any HA6.out.at_ (by show s.k + 1 < 1073741824; rw [HKK.out]; omega) none 0 [] (.inl rfl) (by simp)
          rw [show ptr a6 = .pointer (some ⟨db, 0, none⟩) by unfold ptr; rw [HA6.out.db]] at CUT
          have CUTX := Lib.hid CUT
          clear CUT
          go_wp2_with fail
          refine (CUTX.out).mono ?_
          rintro e w7 ⟨z, rfl, hdz, hbz, hfz⟩
          have HA7 := Lib.hid (HA6.out.later hbz)
          have HZ7 := Lib.hid (cut_rd HF6.out hdz)
          have HZA : Hid ((∀ k, z.foot k → ¬ a6.foot k) ∧ ∀ k, z.foot k → w.heap.size ≤ k) := Lib.hid ⟨fun k hk e => by
            have h1 := hfz k hk
            have h2 := HA6.out.at_.lt k e
            omega, fun k hk => Nat.le_trans HA6.out.below.size (hfz k hk)⟩
          clear hdz hbz hfz
          unfold ptr
          go_wp2_with fail
          go_roundw
          case rel => exact ⟨k + 1, by omega, by go_num, _, a6, z, rfl, HA7.out, HF6.out, HK5.out, HZ7.out, HZA.out.1, HZA.out.2⟩
          case measure => simp [intOf]; omega
        · have hk3' : (p.k == 3) = false := beq_eq_false_iff_ne.2 hk3
          clear hk3
          go_wp2_with fail
          go_roundw
          case rel => exact ⟨k + 1, by omega, by go_num, _, a5, y, rfl, HA5.out, HF5.out, HK5.out, HY5.out, HYA5.out, HYW.out⟩
          case measure => simp [intOf]; omega
    · obtain rfl : k = sc.length := by omega
      have HAD : Hid (a'.db = db) := Lib.hid HA.out.db
      have had := HAD.out
      subst had
      clear HAD
      have HKB : Hid (s.k < 1073741824) := Lib.hid (by rw [HKK.out]; omega)
      have HL0 : Hid (AllRd wr [(y, s.last), (a', s.now)] 6) := Lib.hid (AllRd.two HY.out ⟨s, HA.out.at_, HF.out, rfl⟩ HYA.out)
      have HBY : Hid (w.heap.size ≤ y.db) := Lib.hid (HYW.out _ (.inl rfl))
      have HBA : Hid (w.heap.size ≤ a'.db) := Lib.hid (HA.out.foot _ (.inl rfl))
      have hnow1 : over s.last (kept [] 0 s.pend) = s.now := by rw [kept_all keep_nil]; rfl
      have hnow2 : over s.last (kept [false] 0 s.pend) = s.last := by rw [kept_none keep_false]; rfl
      have hnow3 : over s.last (kept [true, true] 0 s.pend) = s.now := by rw [kept_all keep_true2]; rfl
      have HN1 := Lib.hid hnow1
      have HN2 := Lib.hid hnow2
      have HN3 := Lib.hid hnow3
      clear hnow1 hnow2 hnow3 HY HYA HYW HKK
      have CUT1 := Lib.hid (cut_any HA.out.at_ HKB.out none 0 [] (.inl rfl) (by simp))
      unfold ptr at CUT1
      go_wp2_with fail
      refine (CUT1.out).mono ?_
      rintro e w4 ⟨x1, rfl, hd1, hb1, hf1⟩
      have HA4 := Lib.hid (HA.out.later hb1)
      have HL1 : Hid (AllRd w4 ((x1, s.now) :: [(y, s.last), (a', s.now)]) 6) := Lib.hid (HL0.out.add hb1 (HN1.out ▸ cut_rd HF.out hd1) hf1)
      have HX1 : Hid (w.heap.size ≤ x1.db) := Lib.hid (Nat.le_trans HA.out.below.size (hf1 _ (.inl rfl)))
      clear hd1 hb1 hf1 CUT1 HA HL0
      have hal4 : Below w4.heap.size w4 (w4.alloc (.cells #[.bool false] 4)) := (Below.refl _ _).alloc (Nat.le_refl _) _
      have HA5 := Lib.hid (HA4.out.later hal4)
      have HL5 := Lib.hid (HL1.out.below hal4)
      have HKS5 : Hid (BoolsIn (w4.alloc (.cells #[.bool false] 4)) (some ⟨w4.heap.size, 0, none⟩) [false]) := Lib.hid (.inr ⟨w4.heap.size, 0, rfl, fun j hj => by
        obtain rfl : j = 0 := by simp at hj; omega
        rw [Lib.cell_of_heap (heap_alloc_last _ _)]; rfl⟩)
      have CUT2 := Lib.hid (cut_any HA5.out.at_ HKB.out (some ⟨w4.heap.size, 0, none⟩) 1 [false] HKS5.out (by simp))
      unfold ptr at CUT2 ⊢
      clear hal4 HA4 HL1
      go_wp2_with fail
      refine (show Calls Try.prog 22 #[.pointer (some ⟨a'.db, 0, none⟩), .slice (some ⟨w4.heap.size, 0, none⟩) 1 1] _ _ from CUT2.out).mono ?_
      generalize w4.alloc (.cells #[.bool false] 4) = w5 at *
      rintro e w6 ⟨x2, rfl, hd2, hb2, hf2⟩
      have HA6 := Lib.hid (HA5.out.later hb2)
      have HL6 : Hid (AllRd w6 ((x2, s.last) :: (x1, s.now) :: [(y, s.last), (a', s.now)]) 6) := Lib.hid (HL5.out.add hb2 (HN2.out ▸ cut_rd HF.out hd2) hf2)
      have HX2 : Hid (w.heap.size ≤ x2.db) := Lib.hid (Nat.le_trans HA5.out.below.size (hf2 _ (.inl rfl)))
      clear hd2 hb2 hf2 CUT2 HA5 HL5 HKS5
      have hal6 : Below w6.heap.size w6 (w6.alloc (.cells #[.bool true, .bool true] 4)) := (Below.refl _ _).alloc (Nat.le_refl _) _
      have HA7 := Lib.hid (HA6.out.later hal6)
      have HL7 := Lib.hid (HL6.out.below hal6)
      have HKS7 : Hid (BoolsIn (w6.alloc (.cells #[.bool true, .bool true] 4)) (some ⟨w6.heap.size, 0, none⟩) [true, true]) := Lib.hid (.inr ⟨w6.heap.size, 0, rfl, fun j hj => by
        have hj2 : j = 0 ∨ j = 1 := by simp at hj; omega
        rw [Lib.cell_of_heap (heap_alloc_last _ _)]
        rcases hj2 with rfl | rfl <;> rfl⟩)
      have CUT3 := Lib.hid (cut_any HA7.out.at_ HKB.out (some ⟨w6.heap.size, 0, none⟩) 2 [true, true] HKS7.out (by simp))
      unfold ptr at CUT3 ⊢
      clear hal6 HA6 HL6
      go_wp2_with fail
      refine (show Calls Try.prog 22 #[.pointer (some ⟨a'.db, 0, none⟩), .slice (some ⟨w6.heap.size, 0, none⟩) 2 2] _ _ from CUT3.out).mono ?_
      generalize w6.alloc (.cells #[.bool true, .bool true] 4) = w7 at *
      rintro e w8 ⟨x3, rfl, hd3, hb3, hf3⟩
      have HL8 : Hid (AllRd w8 ((x3, s.now) :: (x2, s.last) :: (x1, s.now) :: [(y, s.last), (a', s.now)]) 6) := Lib.hid (HL7.out.add hb3 (HN3.out ▸ cut_rd HF.out hd3) hf3)
      have HX3 : Hid (w.heap.size ≤ x3.db) := Lib.hid (Nat.le_trans HA7.out.below.size (hf3 _ (.inl rfl)))
      have HB8 := Lib.hid (HA7.out.below.trans (hb3.mono HA7.out.below.size))
      clear hd3 hb3 hf3 CUT3 HA7 HL7 HKS7 HN1 HN2 HN3 HKB HF
      generalize s.now = N at *
      generalize s.last = l at *
      clear s
      unfold ptr
      go_wp2_with fail
      go_loopw [9] (fun i wr => ∃ k : Nat, k ≤ 6 ∧ i = .int .i64 k ∧ AllRd wr ((x3, N) :: (x2, l) :: (x1, N) :: [(y, l), (a', N)]) 6 ∧ Below w.heap.size w wr) (fun i _ => 6 - (intOf i).toNat)
      case atStart => exact ⟨0, by omega, rfl, HL8.out, HB8.out⟩
      case round =>
        clear HL8 HB8
        obtain ⟨k, hk, rfl, hL, hB⟩ := hrel
        have HL := Lib.hid hL
        have HB := Lib.hid hB
        clear hL hB
        by_cases hlt : k < 6
        · have hlt' : (k : Int) < 6 := by omega
          obtain ⟨hl1, rd1⟩ := read_open (HL.out.rd (a', N) (by simp)) (i := k) (by omega) hlt' (by decide)
          have HLN1 := Lib.hid hl1
          have RD1 := Lib.hid rd1
          clear hl1 rd1
          go_wp2_with fail
          refine (RD1.out).mono ?_
          rintro e v1 ⟨g1, rfl, hg1, hr1, hO1, hS1⟩
          have HL1' := Lib.hid (HL.out.read (by simp) hr1 hO1)
          have HB1' := Lib.hid (HB.out.trans (hO1.below HB.out.size (fun j e => e ▸ HBA.out)))
          have HG1 := Lib.hid hg1
          clear hg1 hr1 hO1 hS1 HL HB RD1
          obtain ⟨hl2, rd2⟩ := read_open (HL1'.out.rd (x1, N) (by simp)) (i := k) (by omega) hlt' (by decide)
          have HLN2 := Lib.hid hl2
          have RD2 := Lib.hid rd2
          clear hl2 rd2
          go_wp2_with fail
          refine (RD2.out).mono ?_
          rintro e v2 ⟨g2, rfl, hg2, hr2, hO2, hS2⟩
          have HL2' := Lib.hid (HL1'.out.read (by simp) hr2 hO2)
          have HB2' := Lib.hid (HB1'.out.trans (hO2.below HB1'.out.size (fun j e => e ▸ HX1.out)))
          have HG2 := Lib.hid hg2
          have HG1_2 := Lib.hid (hS2 _ _ _ _ HG1.out (by decide) (by decide))
          clear hg2 hr2 hO2 hS2 HL1' HB1' RD2
          obtain ⟨hl3, rd3⟩ := read_open (HL2'.out.rd (x3, N) (by simp)) (i := k) (by omega) hlt' (by decide)
          have HLN3 := Lib.hid hl3
          have RD3 := Lib.hid rd3
          clear hl3 rd3
          go_wp2_with fail
          refine (RD3.out).mono ?_
          rintro e v3 ⟨g3, rfl, hg3, hr3, hO3, hS3⟩
          have HL3' := Lib.hid (HL2'.out.read (by simp) hr3 hO3)
          have HB3' := Lib.hid (HB2'.out.trans (hO3.below HB2'.out.size (fun j e => e ▸ HX3.out)))
          have HG3 := Lib.hid hg3
          have HG1_3 := Lib.hid (hS3 _ _ _ _ HG1_2.out (by decide) (by decide))
          have HG2_3 := Lib.hid (hS3 _ _ _ _ HG2.out (by decide) (by decide))
          clear hg3 hr3 hO3 hS3 HL2' HB2' RD3
          obtain ⟨hl4, rd4⟩ := read_open (HL3'.out.rd (x2, l) (by simp)) (i := k) (by omega) hlt' (by decide)
          have HLN4 := Lib.hid hl4
          have RD4 := Lib.hid rd4
          clear hl4 rd4
          go_wp2_with fail
          refine (RD4.out).mono ?_
          rintro e v4 ⟨g4, rfl, hg4, hr4, hO4, hS4⟩
          have HL4' := Lib.hid (HL3'.out.read (by simp) hr4 hO4)
          have HB4' := Lib.hid (HB3'.out.trans (hO4.below HB3'.out.size (fun j e => e ▸ HX2.out)))
          have HG4 := Lib.hid hg4
          have HG1_4 := Lib.hid (hS4 _ _ _ _ HG1_3.out (by decide) (by decide))
          have HG2_4 := Lib.hid (hS4 _ _ _ _ HG2_3.out (by decide) (by decide))
          have HG3_4 := Lib.hid (hS4 _ _ _ _ HG3.out (by decide) (by decide))
          clear hg4 hr4 hO4 hS4 HL3' HB3' RD4
          obtain ⟨hl5, rd5⟩ := read_open (HL4'.out.rd (y, l) (by simp)) (i := k) (by omega) hlt' (by decide)
          have HLN5 := Lib.hid hl5
          have RD5 := Lib.hid rd5
          clear hl5 rd5
          go_wp2_with fail
          refine (RD5.out).mono ?_
          rintro e v5 ⟨g5, rfl, hg5, hr5, hO5, hS5⟩
          have HL5' := Lib.hid (HL4'.out.read (by simp) hr5 hO5)
          have HB5' := Lib.hid (HB4'.out.trans (hO5.below HB4'.out.size (fun j e => e ▸ HBY.out)))
          have HG5 := Lib.hid hg5
          have HG1_5 := Lib.hid (hS5 _ _ _ _ HG1_4.out (by decide) (by decide))
          have HG2_5 := Lib.hid (hS5 _ _ _ _ HG2_4.out (by decide) (by decide))
          have HG3_5 := Lib.hid (hS5 _ _ _ _ HG3_4.out (by decide) (by decide))
          have HG4_5 := Lib.hid (hS5 _ _ _ _ HG4.out (by decide) (by decide))
          clear hg5 hr5 hO5 hS5 HL4' HB4' RD5
          have SAME1 := sameB_any (some ⟨g1, 0, none⟩) (some ⟨g2, 0, none⟩) 256 256 (N k) (N k) v5 (bytesIn_heap HG1_5.out) (bytesIn_heap HG2_5.out) (by rw [HLN1.out]; decide) (by rw [HLN1.out]; decide)
          rw [HLN1.out, decide_eq_true rfl] at SAME1
          have SM1 := Lib.hid SAME1
          clear SAME1
          go_wp2_with fail
          refine (SM1.out).mono ?_
          rintro e u1 ⟨rfl, hb1⟩
          have HL6 := Lib.hid (HL5'.out.below hb1)
          have HB6 := Lib.hid (HB5'.out.trans (hb1.mono HB5'.out.size))
          have hst1 := Stays.of_below hb1
          have K1 := Lib.hid (hst1 _ _ _ _ HG1_5.out (by decide) (by decide))
          have K3 := Lib.hid (hst1 _ _ _ _ HG3_5.out (by decide) (by decide))
          have K4 := Lib.hid (hst1 _ _ _ _ HG4_5.out (by decide) (by decide))
          have K5 := Lib.hid (hst1 _ _ _ _ HG5.out (by decide) (by decide))
          clear hb1 hst1
          have SAME2 := sameB_any (some ⟨g1, 0, none⟩) (some ⟨g3, 0, none⟩) 256 256 (N k) (N k) u1 (bytesIn_heap K1.out) (bytesIn_heap K3.out) (by rw [HLN1.out]; decide) (by rw [HLN1.out]; decide)
          rw [HLN1.out, decide_eq_true rfl] at SAME2
          have SM2 := Lib.hid SAME2
          clear SAME2
          go_wp2_with fail
          refine (SM2.out).mono ?_
          rintro e u2 ⟨rfl, hb2⟩
          have HL7 := Lib.hid (HL6.out.below hb2)
          have HB7 := Lib.hid (HB6.out.trans (hb2.mono HB6.out.size))
          have hst2 := Stays.of_below hb2
          have M4 := Lib.hid (hst2 _ _ _ _ K4.out (by decide) (by decide))
          have M5 := Lib.hid (hst2 _ _ _ _ K5.out (by decide) (by decide))
          clear hb2 hst2
          have SAME3 := sameB_any (some ⟨g4, 0, none⟩) (some ⟨g5, 0, none⟩) 256 256 (l k) (l k) u2 (bytesIn_heap M4.out) (bytesIn_heap M5.out) (by rw [HLN5.out]; decide) (by rw [HLN5.out]; decide)
          rw [HLN5.out, decide_eq_true rfl] at SAME3
          have SM3 := Lib.hid SAME3
          clear SAME3
          go_wp2_with fail
          refine (SM3.out).mono ?_
          rintro e u3 ⟨rfl, hb3⟩
          have HL8 := Lib.hid (HL7.out.below hb3)
          have HB8 := Lib.hid (HB7.out.trans (hb3.mono HB7.out.size))
          clear hb3
          go_wp2_with fail
          go_roundw
          case rel => exact ⟨k + 1, by omega, by go_num, HL8.out, HB8.out⟩
          case measure => simp [intOf]; omega
        · obtain rfl : k = 6 := by omega
          rw [show ((6 : Nat) : Int) = 6 from rfl]
          go_wp2_with fail
          go_ret
          exact ⟨rfl, HB.out⟩
end Go.Proofs.Ytaaceaojgbicaaa
