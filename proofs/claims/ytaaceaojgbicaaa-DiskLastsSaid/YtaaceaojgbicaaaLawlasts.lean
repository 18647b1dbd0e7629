/- DiskLasts: what was synced is there behind every cut; a sector that wasn't written since is as it was: the walk of the statement. -/
import Derived.Test.YtaaceaojgbicaaaLastb
namespace Go.Proofs.Ytaaceaojgbicaaa
open Go.ChangeShapes Go.WideShapes Go.Deep Go.RowKit Go.Lib Go.Maps

set_option maxHeartbeats 4000000 in
set_option maxRecDepth 100000 in
theorem lawlasts_some (na : Option Addr) (ca : Nat) (sc : List OpV) (nb : Option Addr) (cb : Nat) (mo : List OpV) (ka : Option Addr) (kc : Nat) (ks : List Bool) (w : World) (hs : ScriptIn w na sc) (hm : ScriptIn w nb mo) (hk : BoolsIn w ka ks) (h1 : fewB sc = true) (h2 : fewB mo = true) (h3 : ks.length ≤ 1000) :
    Calls Try.prog 4 #[.slice na sc.length ca, .slice nb mo.length cb, .slice ka ks.length kc] w fun e w' => e = .returned (.bool true) ∧ Below w.heap.size w w' := by
  have AWAKE := Lib.hid (fun W => awake_any W)
  have NEW := Lib.hid (fun W => new_any 8 W)
  have FEW1 := Lib.hid (fun W (h : Below w.heap.size w W) => few_any na ca sc W (hs.below h))
  have FEW2 := Lib.hid (fun W (h : Below w.heap.size w W) => few_any nb cb mo W (hm.below h))
  rw [h1] at FEW1
  rw [h2] at FEW2
  have SECT : Hid (∀ m W, Calls Try.prog 19 #[.int .i64 m] W fun e w' => ∃ g, e = .returned (.slice (some ⟨g, 0, none⟩) 256 256) ∧ W.heap.size ≤ g ∧ BytesIn w' (some ⟨g, 0, none⟩) (alike m) ∧ Below W.heap.size W w') := Lib.hid (fun m W => (sector_any m W).mono fun e w' h => by
    have := h.bytes
    rwa [alike_length] at this)
  have HS := Lib.hid hs
  have HM := Lib.hid hm
  have HKS := Lib.hid hk
  have hsl : sc.length ≤ 60 := (of_decide_eq_true h1).1
  have hml : mo.length ≤ 60 := (of_decide_eq_true h2).1
  have h3' : (ks.length : Int) ≤ 1000 := by omega
  have h8 : clampN 8 = 8 := by decide
  rw [h8] at NEW
  clear hs hm hk h1 h2 h8
  go_enter Try.func4, Try.ntmps4
  go_wp2_with fail
  refine (AWAKE.out _).mono ?_
  rintro e w1 ⟨rfl, hb1⟩
  have HB1 := Lib.hid hb1
  clear hb1
  go_wp2_with fail
  refine (FEW1.out _ HB1.out).mono ?_
  rintro e w2 ⟨rfl, rfl⟩
  go_wp2_with fail
  refine (FEW2.out _ HB1.out).mono ?_
  rintro e w2 ⟨rfl, rfl⟩
  go_wp2_with fail
  refine (NEW.out _).mono ?_
  rintro e w2 ⟨a, rfl, hd, hb2, hf⟩
  have HA2 : Hid (OwnAt w w2 a.db (freshD 8) a) := Lib.hid ⟨hd, rfl, HB1.out.trans (hb2.mono HB1.out.size), fun k hk => Nat.le_trans HB1.out.size (hf k hk)⟩
  clear hd hb2 hf
  unfold ptr
  generalize a.db = db at *
  go_wp2_with fail
  go_loopw [8] (fun i wr => ∃ k : Nat, k ≤ sc.length ∧ i = .int .i64 k ∧ ∃ s a', OwnAt w wr db s a' ∧ Open 8 s ∧ s.k = k) (fun i _ => sc.length - (intOf i).toNat)
  case atStart => exact ⟨0, Nat.zero_le _, rfl, _, _, HA2.out, ⟨rfl, rfl, rfl⟩, rfl⟩
  case round =>
    obtain ⟨k, hk, rfl, s, a', hA, hF, hkk⟩ := hrel
    have HA := Lib.hid hA
    have HF := Lib.hid hF
    have HKK := Lib.hid hkk
    clear hA hF hkk HA2
    by_cases hlt : k < sc.length
    · have hlt' : (k : Int) < (sc.length : Int) := by omega
      obtain ⟨p, hp⟩ : ∃ p, sc[k]? = some p := ⟨_, List.getElem?_eq_getElem hlt⟩
      obtain ⟨sb, so, rfl, hsb, -, c1, c2, -⟩ := HS.out.cells hp
      have CELL : Hid (∀ W, Below w.heap.size w W → W.cell? ⟨sb, so + k * 4 + 1, none⟩ = some (.int .i64 p.n) ∧ W.cell? ⟨sb, so + k * 4 + 2, none⟩ = some (.int .i64 p.m)) := Lib.hid (fun W hb => ⟨cell_kept2 hb c1, cell_kept2 hb c2⟩)
      have SLOT := Lib.hid (slotOf_lt 8 p.n (.inr rfl))
      clear c1 c2 hp hsb
      obtain ⟨c1, c2⟩ := CELL.out wr HA.out.below
      go_wp2_with fail
      go_region_held_law (fun w' => w'.cell? ⟨sb, so + k * 4 + 1, none⟩ = some (.int .i64 p.n) ∧ w'.cell? ⟨sb, so + k * 4 + 2, none⟩ = some (.int .i64 p.m)) (first | exact ⟨c1, c2⟩ | exact ⟨c5, c6⟩ | exact ⟨c3, c4⟩)
        (first
          | (go_at_call 19; refine (SECT.out p.m wr.drew).mono ?_; rintro e w4 ⟨g, rfl, hg, hin, hb4⟩; obtain ⟨c3, c4⟩ := CELL.out w4 (HA.out.below.trans (((Below.refl _ _).drew.trans hb4).mono HA.out.below.size)); have WR := Lib.hid (write_open HA.out HF.out ((Below.refl _ _).drew.trans hb4) hg (by rw [HKK.out]; omega) SLOT.out.1 SLOT.out.2 (by decide) (alike_length p.m) hin); clear hg hin hb4)
          | (go_at_call 18; refine (WR.out).mono ?_; rintro e w5 ⟨rfl, -, a5, hA5⟩; obtain ⟨c5, c6⟩ := CELL.out w5 hA5.below; have HA5 := Lib.hid hA5; clear hA5))
      all_goals
        go_wp2_with fail
        go_roundw
        case rel => exact ⟨k + 1, by omega, by go_num, _, a5, HA5.out, HF.out.push _ _, by show s.k + 1 = k + 1; rw [HKK.out]⟩
        case measure => simp [intOf]; omega
    · obtain rfl : k = sc.length := by omega
      have SY := sync_any HA.out.at_ (by rw [HKK.out]; omega)
      rw [show ptr a' = .pointer (some ⟨db, 0, none⟩) by unfold ptr; rw [HA.out.db], HF.out.synced] at SY
      have SYN := Lib.hid SY
      clear SY
      go_wp2_with fail
      refine (SYN.out).mono ?_
      rintro e w4 ⟨rfl, hB4⟩
      obtain ⟨a4, hA4⟩ := HA.out.became hB4
      have HA4 := Lib.hid hA4
      have HF4 := Lib.hid HF.out.sync
      have HK4 : Hid (s.didSync.k = sc.length ∧ s.didSync.pend = []) := Lib.hid ⟨HKK.out, rfl⟩
      clear hB4 hA4 HA HF HKK SYN
      generalize s.didSync = s1 at *
      go_wp2_with fail
      have HW4 : Hid (WasAt (w4.alloc (.cells #[.slice none 0 0, .slice none 0 0, .slice none 0 0, .slice none 0 0, .slice none 0 0, .slice none 0 0, .slice none 0 0, .slice none 0 0] 47)) w4.heap.size s1.last 0 [.slice none 0 0, .slice none 0 0, .slice none 0 0, .slice none 0 0, .slice none 0 0, .slice none 0 0, .slice none 0 0, .slice none 0 0]) := Lib.hid ⟨heap_alloc_last _ _, rfl, fun j v _ h => by omega⟩
      have HA5 := Lib.hid (HA4.out.later ((Below.refl _ _).alloc (Nat.le_refl _) (.cells #[.slice none 0 0, .slice none 0 0, .slice none 0 0, .slice none 0 0, .slice none 0 0, .slice none 0 0, .slice none 0 0, .slice none 0 0] 47)))
      have HWB := Lib.hid HA4.out.below.size
      clear HA4
      generalize (w4.alloc (.cells #[.slice none 0 0, .slice none 0 0, .slice none 0 0, .slice none 0 0, .slice none 0 0, .slice none 0 0, .slice none 0 0, .slice none 0 0] 47)) = w5 at *
      generalize w4.heap.size = wb at *
      obtain ⟨F, hF⟩ : ∃ F, s1.last = F := ⟨_, rfl⟩
      have HSF := Lib.hid hF
      rw [hF] at HW4
      clear hF
      go_loopw [10] (fun i wr => ∃ k : Nat, k ≤ 8 ∧ i = .int .i64 k ∧ ∃ s a', OwnAt w wr db s a' ∧ Open 8 s ∧ s.last = F ∧ s.pend = [] ∧ s.k = sc.length ∧ ∃ vs, WasAt wr wb F k vs) (fun i _ => 8 - (intOf i).toNat)
      case atStart => exact ⟨0, by omega, rfl, s1, a4, HA5.out, HF4.out, HSF.out, HK4.out.2, HK4.out.1, _, HW4.out⟩
      case round =>
        clear HA5 HF4 HSF HK4 HW4
        clear s1 a4
        obtain ⟨k, hk, rfl, s, a', hA, hF, hsf, hpe, hkk, vs, hV⟩ := hrel
        have HA := Lib.hid hA
        have HF := Lib.hid hF
        have HSF := Lib.hid hsf
        have HPE := Lib.hid hpe
        have HKK := Lib.hid hkk
        have HV := Lib.hid hV
        clear hA hF hsf hpe hkk hV
        by_cases hlt : k < 8
        · have hlt' : (k : Int) < 8 := by omega
          have RD := read_some HA.out.at_ k (wfI_small (by omega) (by omega)) HF.out.down (HF.out.hasB (by omega) (by omega))
          rw [show s.now k = F k by unfold DS.now; rw [HPE.out, over_nil, HSF.out], show ptr a' = .pointer (some ⟨db, 0, none⟩) by unfold ptr; rw [HA.out.db]] at RD
          have hFl : (F k).length = 256 := by rw [← HSF.out]; exact HA.out.at_.lastlen k
          have HFL := Lib.hid hFl
          have RDX := Lib.hid RD
          clear RD hFl
          go_wp2_with fail
          refine (RDX.out).mono ?_
          rintro e w6 ⟨hans, hd6, hO6⟩
          rcases hans with ⟨h0, -⟩ | ⟨g, hg, rfl, hgh⟩
          · exact absurd (congrArg List.length h0) (by rw [HFL.out]; decide)
          rw [HFL.out]
          have HA6 := Lib.hid (HA.out.same hd6 hO6)
          have HV6 := Lib.hid (HV.out.stays (Stays.of_only HA.out.at_ hO6))
          have HGH := Lib.hid hgh
          clear hd6 hO6 hgh hg RDX
          obtain ⟨⟨v0, -, x1⟩, x2⟩ := HV6.out.cell hlt
          go_wp2_with fail
          go_roundw
          case rel => exact ⟨k + 1, by omega, by go_num, _, a', HA6.out.poke HV6.out.row (by decide) (by decide) HWB.out k _, ⟨HF.out.size, HF.out.fused, HF.out.down⟩, HSF.out, HPE.out, HKK.out, _, HV6.out.put HGH.out hlt⟩
          case measure => simp [intOf]; omega
        · obtain rfl : k = 8 := by omega
          rw [show ((8 : Nat) : Int) = 8 from rfl]
          go_wp2_with fail
          have HA6 := Lib.hid (HA.out.later ((Below.refl _ _).alloc (Nat.le_refl _) (.cells #[.bool false, .bool false, .bool false, .bool false, .bool false, .bool false, .bool false, .bool false] 50)))
          have HV6 := Lib.hid (HV.out.stays (Stays.of_below ((Below.refl _ _).alloc (Nat.le_refl _) (.cells #[.bool false, .bool false, .bool false, .bool false, .bool false, .bool false, .bool false, .bool false] 50))))
          have HG6 : Hid (AgainAt (wr.alloc (.cells #[.bool false, .bool false, .bool false, .bool false, .bool false, .bool false, .bool false, .bool false] 50)) wr.heap.size [false, false, false, false, false, false, false, false]) := Lib.hid ⟨heap_alloc_last _ _, rfl⟩
          have HAB := Lib.hid HA.out.below.size
          clear HA HV
          generalize (wr.alloc (.cells #[.bool false, .bool false, .bool false, .bool false, .bool false, .bool false, .bool false, .bool false] 50)) = w6 at *
          generalize wr.heap.size = ab at *
          go_loopw [14] (fun i wr => ∃ j : Nat, j ≤ mo.length ∧ i = .int .i64 j ∧ ∃ s a' ag, OwnAt w wr db s a' ∧ Open 8 s ∧ s.last = F ∧ s.pend.length = j ∧ s.k = sc.length + j ∧ AgainAt wr ab ag ∧ (∀ p ∈ s.pend, ∃ q : Nat, p.1 = q ∧ q < 8 ∧ ag.getD q false = true) ∧ WasAt wr wb F 8 vs) (fun i _ => mo.length - (intOf i).toNat)
          case atStart => exact ⟨0, by omega, rfl, s, a', _, HA6.out, HF.out, HSF.out, by rw [HPE.out]; rfl, HKK.out, HG6.out, by rw [HPE.out]; simp, HV6.out⟩
          case round =>
            clear HA6 HF HSF HPE HKK HG6 HV6
            clear s a'
            obtain ⟨j, hj, rfl, s, a', ag, hA, hF, hsf, hpl, hkk, hG, hpa, hV⟩ := hrel
            have HA := Lib.hid hA
            have HF := Lib.hid hF
            have HSF := Lib.hid hsf
            have HPL := Lib.hid hpl
            have HKK := Lib.hid hkk
            have HG := Lib.hid hG
            have HPA := Lib.hid hpa
            have HV := Lib.hid hV
            clear hA hF hsf hpl hkk hG hpa hV
            by_cases hlt : j < mo.length
            · have hlt' : (j : Int) < (mo.length : Int) := by omega
              obtain ⟨p, hp⟩ : ∃ p, mo[j]? = some p := ⟨_, List.getElem?_eq_getElem hlt⟩
              obtain ⟨sb, so, rfl, hsb, -, c1, c2, -⟩ := HM.out.cells hp
              have CELL : Hid (∀ W, Below w.heap.size w W → W.cell? ⟨sb, so + j * 4 + 1, none⟩ = some (.int .i64 p.n) ∧ W.cell? ⟨sb, so + j * 4 + 2, none⟩ = some (.int .i64 p.m)) := Lib.hid (fun W hb => ⟨cell_kept2 hb c1, cell_kept2 hb c2⟩)
              clear c1 c2 hp hsb
              obtain ⟨c1, c2⟩ := CELL.out wr HA.out.below
              obtain ⟨q, hq, hq8⟩ := slot_nat 8 p.n (.inr rfl)
              have hq8' : (q : Int) < 8 := hq8
              have hqn : q < 8 := by omega
              obtain ⟨y1, y2⟩ := HG.out.cell hqn
              go_upto_region 22 with fail
              have HA7 := Lib.hid (HA.out.poke HG.out.row (by decide) (by decide) HAB.out q (.bool true))
              have HV7 : Hid (WasAt (wr.setCell ⟨ab, q, none⟩ (.bool true)) wb F 8 vs) := Lib.hid (HV.out.poke HG.out.row (by decide) (by decide) q (.bool true))
              have HG7 := Lib.hid (HG.out.put (i := q))
              have HGL := Lib.hid HG.out.len
              clear HA HV HG c1 c2 y1 y2
              generalize wr.setCell ⟨ab, q, none⟩ (.bool true) = w7 at *
              obtain ⟨c1, c2⟩ := CELL.out w7 HA7.out.below
              go_wp2_with fail
              refine (SECT.out p.m w7).mono ?_
              rintro e w8 ⟨g, rfl, hg, hin, hb8⟩
              have WR := Lib.hid (write_open HA7.out HF.out hb8 hg (by rw [HKK.out]; omega) (i := q) (by omega) hq8' (by decide) (alike_length p.m) hin)
              clear hg hin hb8 c1 c2
              go_wp2_with fail
              refine (WR.out).mono ?_
              rintro e w9 ⟨rfl, hst, a9, hA9⟩
              have HA9 := Lib.hid hA9
              have HV9 := Lib.hid (HV7.out.stays hst)
              have HG9 := Lib.hid (HG7.out.stays hst)
              clear hA9 hst
              go_wp2_with fail
              go_roundw
              case rel => exact ⟨j + 1, by omega, by go_num, _, a9, _, HA9.out, HF.out.push _ _, HSF.out, by show (s.pend ++ [_]).length = j + 1; rw [List.length_append, HPL.out]; rfl, by show s.k + 1 = sc.length + (j + 1); rw [HKK.out]; omega, HG9.out, again_push HPA.out HGL.out hqn, HV9.out⟩
              case measure => simp [intOf]; omega
            · obtain rfl : j = mo.length := by omega
              have CUT := cut_any HA.out.at_ (by rw [HKK.out]; omega) ka kc ks (HKS.out.below HA.out.below) (by omega)
              rw [show ptr a' = .pointer (some ⟨db, 0, none⟩) by unfold ptr; rw [HA.out.db]] at CUT
              have CUTX := Lib.hid CUT
              clear CUT
              go_wp2_with fail
              refine (CUTX.out).mono ?_
              rintro e w7 ⟨x, rfl, hdx, hbx, hfx⟩
              have HX7 := Lib.hid hdx
              have HD7 := Lib.hid (HA.out.at_.below hbx)
              have HB7 := Lib.hid (HA.out.below.trans (hbx.mono HA.out.below.size))
              have HV7 := Lib.hid (HV.out.stays (Stays.of_below hbx))
              have HG7 := Lib.hid (HG.out.stays (Stays.of_below hbx))
              have HDIS : Hid (¬ a'.foot x.db ∧ w.heap.size ≤ x.db) := Lib.hid ⟨fun e => by
                have h1 := HA.out.at_.lt _ e
                have h2 := hfx x.db (.inl rfl)
                omega, Nat.le_trans HA.out.below.size (hfx x.db (.inl rfl))⟩
              have HPT : Hid (ptr a' = .pointer (some ⟨db, 0, none⟩)) := Lib.hid (by unfold ptr; rw [HA.out.db])
              have HSZ : Hid ((s.cut ks).size = 8) := Lib.hid HF.out.size
              obtain ⟨N, hN⟩ : ∃ N, over s.last (kept ks 0 s.pend) = N := ⟨_, rfl⟩
              have HNF : Hid (∀ i : Nat, i < 8 → ag.getD i false = false → N i = F i) := Lib.hid (fun i _ hi => by
                rw [← hN, over_none (fun p hp e => ?_), HSF.out]
                obtain ⟨q, e1, _, e2⟩ := HPA.out p (kept_mem ks 0 _ p hp)
                have : q = i := by omega
                rw [this, hi] at e2
                cases e2)
              have HXL : Hid ((s.cut ks).last = N) := Lib.hid hN
              clear hdx hbx hfx hN HA HV HG CUTX HSF HKK HPA
              have hpl8 : s.pend.length = mo.length := HPL.out
              have HPL' := Lib.hid hpl8
              clear hpl8
              unfold ptr
              go_wp2_with fail
              go_loopw [17] (fun i wr => ∃ k : Nat, k ≤ 8 ∧ i = .int .i64 k ∧ ∃ sx, DiskAt wr x sx ∧ Open 8 sx ∧ sx.last = N ∧ sx.pend = [] ∧ DiskAt wr a' s ∧ Below w.heap.size w wr ∧ WasAt wr wb F 8 vs ∧ AgainAt wr ab ag) (fun i _ => 8 - (intOf i).toNat)
              case atStart => exact ⟨0, by omega, rfl, s.cut ks, HX7.out, ⟨HSZ.out, rfl, rfl⟩, HXL.out, rfl, HD7.out, HB7.out, HV7.out, HG7.out⟩
              case round =>
                clear HX7 HD7 HB7 HV7 HG7 HXL
                obtain ⟨k, hk, rfl, sx, hX, hF', hxl, hxp, hD, hB, hV, hG⟩ := hrel
                have HX := Lib.hid hX
                have HFX := Lib.hid hF'
                have HXL := Lib.hid hxl
                have HXP := Lib.hid hxp
                have HD := Lib.hid hD
                have HB := Lib.hid hB
                have HV := Lib.hid hV
                have HG := Lib.hid hG
                clear hX hF' hxl hxp hD hB hV hG
                by_cases hlt : k < 8
                · have hlt' : (k : Int) < 8 := by omega
                  have RD := read_some HX.out k (wfI_small (by omega) (by omega)) HFX.out.down (HFX.out.hasB (by omega) (by omega))
                  rw [show sx.now k = N k by unfold DS.now; rw [HXP.out, over_nil, HXL.out]] at RD
                  unfold ptr at RD
                  have HNL : Hid ((N k).length = 256) := Lib.hid (by rw [← HXL.out]; exact HX.out.lastlen k)
                  have RDX := Lib.hid RD
                  clear RD
                  go_wp2_with fail
                  refine (RDX.out).mono ?_
                  rintro e w8 ⟨hans, hd8, hO8⟩
                  rcases hans with ⟨h0, -⟩ | ⟨g, hg, rfl, hgh⟩
                  · exact absurd (congrArg List.length h0) (by rw [HNL.out]; decide)
                  rw [HNL.out]
                  have HX8 := Lib.hid hd8
                  have HD8 := Lib.hid (HD.out.keep hO8 (fun j hj e => HDIS.out.1 (e ▸ hj)))
                  have HB8 := Lib.hid (HB.out.trans (hO8.below HB.out.size (fun j e => e ▸ HDIS.out.2)))
                  have HV8 := Lib.hid (HV.out.stays (Stays.of_only HX.out hO8))
                  have HG8 := Lib.hid (HG.out.stays (Stays.of_only HX.out hO8))
                  have HGH := Lib.hid hgh
                  clear hd8 hO8 hgh hg RDX HX HD HB HV HG
                  obtain ⟨⟨v0, hv0, x1⟩, -⟩ := HV8.out.cell hlt
                  obtain ⟨y1, -⟩ := HG8.out.cell hlt
                  obtain ⟨gi, rfl, hgi⟩ := HV8.out.got k v0 hv0 hlt
                  have HGI := Lib.hid hgi
                  clear hgi hv0
                  rcases hag : ag.getD k false with _ | _
                  · rw [hag] at y1
                    have HE := Lib.hid (HNF.out k hlt hag)
                    have SAME := sameB_any (some ⟨g, 0, none⟩) (some ⟨gi, 0, none⟩) 256 256 (N k) (F k) w8 (bytesIn_heap HGH.out) (bytesIn_heap HGI.out) (by rw [HNL.out]; decide) (by rw [← HE.out, HNL.out]; decide)
                    rw [show (F k).length = 256 by rw [← HE.out, HNL.out], HNL.out, decide_eq_true HE.out] at SAME
                    have SAMEX := Lib.hid SAME
                    clear SAME hag
                    go_wp2_with fail
                    refine (SAMEX.out).mono ?_
                    rintro e w9 ⟨rfl, hb9⟩
                    have HX9 := Lib.hid (HX8.out.below hb9)
                    have HD9 := Lib.hid (HD8.out.below hb9)
                    have HB9 := Lib.hid (HB8.out.trans (hb9.mono HB8.out.size))
                    have HV9 := Lib.hid (HV8.out.stays (Stays.of_below hb9))
                    have HG9 := Lib.hid (HG8.out.stays (Stays.of_below hb9))
                    clear hb9
                    go_wp2_with fail
                    go_roundw
                    case rel => exact ⟨k + 1, by omega, by go_num, _, HX9.out, ⟨HFX.out.size, HFX.out.fused, HFX.out.down⟩, HXL.out, HXP.out, HD9.out, HB9.out, HV9.out, HG9.out⟩
                    case measure => simp [intOf]; omega
                  · rw [hag] at y1
                    clear hag
                    go_wp2_with fail
                    go_roundw
                    case rel => exact ⟨k + 1, by omega, by go_num, _, HX8.out, ⟨HFX.out.size, HFX.out.fused, HFX.out.down⟩, HXL.out, HXP.out, HD8.out, HB8.out, HV8.out, HG8.out⟩
                    case measure => simp [intOf]; omega
                · obtain rfl : k = 8 := by omega
                  rw [show ((8 : Nat) : Int) = 8 from rfl]
                  have PD := Lib.hid (pending_any HD.out)
                  have PX := Lib.hid (pending_any HX.out)
                  rw [HPT.out, HPL'.out] at PD
                  rw [HXP.out] at PX
                  unfold ptr at PX
                  go_wp2_with fail
                  refine (PD.out).mono ?_
                  rintro e w8 ⟨rfl, rfl⟩
                  go_wp2_with fail
                  refine (PX.out).mono ?_
                  rintro e w8 ⟨rfl, rfl⟩
                  go_wp2_with fail
                  go_ret
                  exact ⟨rfl, HB.out⟩
end Go.Proofs.Ytaaceaojgbicaaa
