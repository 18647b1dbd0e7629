/- The document's Cut, walked; under 2^30 writes. -/
import Derived.Test.YtaaceaojgbicaaaRefc
namespace Go.Proofs.Ytaaceaojgbicaaa
open Go.ChangeShapes Go.WideShapes Go.Deep Go.RowKit Go.Lib Go.Maps

theorem rowOne (p : RW) : ∀ u ∈ p.row, u.oneCell' = true := by
  intro u hu
  rcases List.mem_cons.1 hu with rfl | hu
  · rfl
  · rcases List.mem_cons.1 hu with rfl | hu
    · rfl
    · cases hu

/-- A disk of the document's that a call has made. -/
def RCutGave (W : World) (r : RS) : Ending → World → Prop := fun e w' => ∃ rb2 v2, e = .returned (.pointer (some ⟨rb2, 0, none⟩)) ∧ RefAt W.heap.size w' rb2 v2 r ∧ Below W.heap.size W w'

set_option maxHeartbeats 4000000 in
set_option maxRecDepth 100000 in
theorem rcut_any {B : Nat} {W : World} {rb : Nat} {v : Value} {r : RS} (h : RefAt B W rb v r) (hlen : r.all.length < 1073741824) (ka : Option Addr) (kc : Nat) (ks : List Bool) (hin : BoolsIn W ka ks) (hks : ks.length ≤ 9223372036854775807) :
    Calls Try.prog 28 #[.pointer (some ⟨rb, 0, none⟩), .slice ka ks.length kc] W (RCutGave W (r.cut ks)) := by
  obtain ⟨c0, c1, c2, c3, c4, c5, c6, c7⟩ := h.cells
  have NEW := Lib.hid (rnew_any W.heap.size r.size W (Nat.le_refl _))
  have hcl : clampN r.size = r.size := by have := h.size; unfold clampN; omega
  rw [hcl] at NEW
  obtain ⟨i7, k1, k2, k3, k4⟩ := info_parts info77z
  have I7 := Lib.hid (And.intro k1 (And.intro k2 (And.intro k3 k4)))
  have H := Lib.hid h
  have HIN := Lib.hid hin
  have HLEN := Lib.hid hlen
  have hlas := h.lasts
  clear k1 k2 k3 k4 hcl h hin
  go_enter Try.func28, Try.ntmps28
  go_wp2_with fail
  refine (NEW.out).mono ?_
  rintro e w1 ⟨rb2, rfl, hc1, hb1⟩
  have HC1 := Lib.hid hc1
  have HB1 := Lib.hid hb1
  clear hc1 hb1 NEW c0 c1 c2 c3 c4 c5 c6 c7
  go_wp2_with fail
  go_loopw [6] (fun i wr => ∃ k : Nat, k ≤ r.all.length ∧ i = .int .i64 k ∧ ∃ v2, RefAt W.heap.size wr rb2 v2 { freshR r.size with all := rsel ks r.lasts 0 (r.all.take k) } ∧ RStays W.heap.size w1 wr) (fun i _ => r.all.length - (intOf i).toNat)
  case atStart => exact ⟨0, by omega, rfl, _, HC1.out, RStays.refl _ _⟩
  case round =>
    obtain ⟨k, hk, rfl, v2, hC, hR⟩ := hrel
    have HC := Lib.hid hC
    have HRC := Lib.hid hR
    have HD := Lib.hid (H.out.old HB1.out hR.below)
    clear hC hR HC1
    obtain ⟨na, vc, hv, -, -⟩ := HD.out.slice
    subst hv
    obtain ⟨c0, c1, c2, c3, c4, c5, c6, c7⟩ := HD.out.cells
    clear c0 c3 c4 c5 c6 c7
    have hl2 : (r.all.length : Int) ≤ 1073741824 := by have := HLEN.out; omega
    have hlas2 : (r.lasts : Int) ≤ 1073741824 := by omega
    by_cases hlt : k < r.all.length
    · have hlt' : (k : Int) < (r.all.length : Int) := by omega
      obtain ⟨p, hp⟩ : ∃ p, r.all[k]? = some p := ⟨_, List.getElem?_eq_getElem hlt⟩
      have hst := rsel_take ks r.lasts hp
      obtain ⟨g, cap, hv, x0, x1, hg, hc1, hc2⟩ := HD.out.head hp
      simp only [Value.slice.injEq, true_and] at hv
      obtain ⟨rfl, rfl⟩ := hv
      unfold maxLen at hc2
      have HPM := Lib.hid (HD.out.each p (List.mem_of_getElem? hp))
      obtain ⟨nc, cc, hv2, -, -⟩ := HC.out.slice
      dsimp only at hv2
      subst hv2
      obtain ⟨d0, d1, d2, d3, d4, d5, d6, d7⟩ := HC.out.cells
      have f1 := HC.out.free 1
      clear d0 d2 d3 d4 d5 d6 d7 hp
      have hrb : rb < wr.heap.size := heap_lt HD.out.box
      have hrb2 : rb2 < wr.heap.size := heap_lt HC.out.box
      have hne : rb ≠ rb2 := fun e => by
        have h1 := heap_lt H.out.box
        have h2 := HC.out.base
        omega
      have HCL : Hid ((rsel ks r.lasts 0 (r.all.take k)).length < 1073741824) := Lib.hid (by
        have h1 := rsel_length ks r.lasts 0 (r.all.take k)
        rw [List.length_take] at h1
        have := HLEN.out
        omega)
      obtain ⟨C, hCC⟩ : ∃ C, rsel ks r.lasts 0 (r.all.take k) = C := ⟨_, rfl⟩
      rw [hCC] at hst HC HCL d1
      have HSC := Lib.hid hCC
      clear hCC
      have HROW4 : Hid ((wr.drew.alloc (.cells #[.int .i64 p.n, .slice (some ⟨p.g, 0, none⟩) 256 p.c] 77)).ownsRow W.heap.size 77 2 (.slice nc C.length cc) C.length (rrows C)) := Lib.hid (HC.out.row.alloc _)
      have HROW := HROW4
      have HNW : Hid (∀ j u, (RW.row p)[j]? = some u → (wr.drew.alloc (.cells #[.int .i64 p.n, .slice (some ⟨p.g, 0, none⟩) 256 p.c] 77)).cell? ((⟨wr.heap.size, 0, none⟩ : Addr).add j) = some u) := Lib.hid (World.news_of_block (heap_alloc_new wr.drew (.cells #[.int .i64 p.n, .slice (some ⟨p.g, 0, none⟩) 256 p.c] 77)))
      have HB4 : Hid (W.heap.size ≤ (wr.drew.alloc (.cells #[.int .i64 p.n, .slice (some ⟨p.g, 0, none⟩) 256 p.c] 77)).heap.size) := Lib.hid (by have h1 : W.heap.size ≤ wr.heap.size := HC.out.bw; have h2 : wr.drew.heap.size = wr.heap.size := rfl; simp; omega)
      have HBX4 : Hid ((wr.drew.alloc (.cells #[.int .i64 p.n, .slice (some ⟨p.g, 0, none⟩) 256 p.c] 77)).heap[rb2]? = some (.cells (boxR (.slice nc C.length cc) { freshR r.size with all := C }) 38 (0, 0))) := Lib.hid (by rw [Below.heap_alloc wr.drew _ _ hrb2]; exact HC.out.box)
      have HBX5 : Hid (∀ w5, (wr.drew.alloc (.cells #[.int .i64 p.n, .slice (some ⟨p.g, 0, none⟩) 256 p.c] 77)).grownBy w5 (Value.slice nc C.length cc).ownBlock → w5.heap[rb2]? = some (.cells (boxR (.slice nc C.length cc) { freshR r.size with all := C }) 38 (0, 0))) := Lib.hid (fun w5 hg => by
        rw [hg.block rb2 (heap_lt HBX4.out) (fun e => HC.out.row_rb e.symm)]; exact HBX4.out)
      have HRA : Hid (RStays W.heap.size wr (wr.drew.alloc (.cells #[.int .i64 p.n, .slice (some ⟨p.g, 0, none⟩) 256 p.c] 77))) := Lib.hid ((RStays.refl W.heap.size wr).drew.alloc HC.out.bw _)
      have HPO : Hid ((wr.drew.alloc (.cells #[.int .i64 p.n, .slice (some ⟨p.g, 0, none⟩) 256 p.c] 77)).ownsRow 0 5 1 (.slice (some ⟨p.g, 0, none⟩) 256 p.c) 256 (Lib.byteCells p.b)) := Lib.hid (HPM.out.1.alloc _)
      have HPB := Lib.hid HPM.out.2
      by_cases hkl : k < r.lasts
      · have hkl' : (k : Int) - (r.lasts : Int) < 0 := by omega
        have HSEL : Hid (C ++ [p] = rsel ks r.lasts 0 (r.all.take (k + 1))) := Lib.hid (by rw [hst, show selB ks r.lasts k = true by unfold selB; rw [decide_eq_true hkl]; rfl]; rfl)
        clear hst
        go_wp2_with fail
        go_region_law (refine step_append_lies _ rfl (.tmp 48) (.tmp 56) 35 rfl W.heap.size 77 i7 (.agg #[.int .i64 0, .slice none 0 0]) 2 32 Try.underlying35 I7.out.1 I7.out.2.1 I7.out.2.2.1 I7.out.2.2.2 rfl (by decide) (.slice nc C.length cc) C.length (rrows C) rfl HROW.out ⟨wr.heap.size, 0, none⟩ 1 1 (RW.row p) rfl rfl HNW.out (rowOne p) (by decide) (by have := HCL.out; unfold maxLen; omega) (by have := HCL.out; omega) HB4.out _ rfl ?_; intro g5 pc5 w5 hown5 hg5 hloc5 hlt5; have HX5 := Lib.hid (HBX5.out w5 hg5); have e1 : w5.cell? ⟨rb2, 1, none⟩ = some (.slice nc C.length cc) := (by rw [Lib.cell_of_heap HX5.out]; rfl); have e2 : w5.frozen? ⟨rb2, 1, none⟩ = false := (by simp [World.frozen?, HX5.out]); have HW5 := Lib.hid hown5; have HG5 := Lib.hid hg5; have HL5 := Lib.hid hloc5; clear hown5 hg5 hloc5 hlt5)
        all_goals
          obtain ⟨hF, hFR⟩ := ref_push (p := p) HC.out HRA.out HROW4.out HBX4.out HPO.out HPB.out HW5.out HG5.out HL5.out
          have HF := Lib.hid hF
          have HFR := Lib.hid (HRC.out.trans hFR)
          clear hF hFR
          go_wp2_with fail
          go_roundw
          case rel => exact ⟨k + 1, by omega, by go_num, _, HSEL.out ▸ HF.out, HFR.out⟩
          case measure => simp [intOf]; omega
      · obtain ⟨q, hq⟩ : ∃ q, k - r.lasts = q := ⟨_, rfl⟩
        have hqk : (k : Int) - (r.lasts : Int) = (q : Int) := by omega
        have hsb : selB ks r.lasts k = keepB ks q := by unfold selB; rw [decide_eq_false hkl, hq]; rfl
        rw [hsb] at hst
        clear hkl hq hsb
        by_cases hks0 : ks = []
        · have HSEL : Hid (C ++ [p] = rsel ks r.lasts 0 (r.all.take (k + 1))) := Lib.hid (by rw [hst, show keepB ks q = true by rw [hks0]; rfl]; rfl)
          have e0 : ((ks.length : Int) == 0) = true := by rw [hks0]; rfl
          clear hst hks0
          go_wp2_with fail
          go_region_law (refine step_append_lies _ rfl (.tmp 48) (.tmp 56) 35 rfl W.heap.size 77 i7 (.agg #[.int .i64 0, .slice none 0 0]) 2 32 Try.underlying35 I7.out.1 I7.out.2.1 I7.out.2.2.1 I7.out.2.2.2 rfl (by decide) (.slice nc C.length cc) C.length (rrows C) rfl HROW.out ⟨wr.heap.size, 0, none⟩ 1 1 (RW.row p) rfl rfl HNW.out (rowOne p) (by decide) (by have := HCL.out; unfold maxLen; omega) (by have := HCL.out; omega) HB4.out _ rfl ?_; intro g5 pc5 w5 hown5 hg5 hloc5 hlt5; have HX5 := Lib.hid (HBX5.out w5 hg5); have e1 : w5.cell? ⟨rb2, 1, none⟩ = some (.slice nc C.length cc) := (by rw [Lib.cell_of_heap HX5.out]; rfl); have e2 : w5.frozen? ⟨rb2, 1, none⟩ = false := (by simp [World.frozen?, HX5.out]); have HW5 := Lib.hid hown5; have HG5 := Lib.hid hg5; have HL5 := Lib.hid hloc5; clear hown5 hg5 hloc5 hlt5)
          all_goals
            obtain ⟨hF, hFR⟩ := ref_push (p := p) HC.out HRA.out HROW4.out HBX4.out HPO.out HPB.out HW5.out HG5.out HL5.out
            have HF := Lib.hid hF
            have HFR := Lib.hid (HRC.out.trans hFR)
            clear hF hFR
            go_wp2_with fail
            go_roundw
            case rel => exact ⟨k + 1, by omega, by go_num, _, HSEL.out ▸ HF.out, HFR.out⟩
            case measure => simp [intOf]; omega
        · have hpos : 0 < ks.length := List.length_pos_iff.2 hks0
          have e0 : ((ks.length : Int) == 0) = false := by rw [beq_eq_false_iff_ne]; omega
          obtain ⟨t, ht⟩ : ∃ t, q % ks.length = t := ⟨_, rfl⟩
          have htl : t < ks.length := ht ▸ Nat.mod_lt _ hpos
          obtain ⟨kb, ko, rfl, hkc⟩ : ∃ b o, ka = some ⟨b, o, none⟩ ∧ ∀ j (h : j < ks.length), W.cell? ⟨b, o + j, none⟩ = some (.bool ks[j]) := by
            rcases HIN.out with h | h
            · exact absurd h hks0
            · exact h
          have hkb : keepB ks q = ks[t] := by
            unfold keepB
            rw [ht, List.getD_eq_getElem?_getD, List.getElem?_eq_getElem htl]
            cases ks with
            | nil => simp at hpos
            | cons _ _ => rfl
          have hkw : wr.cell? ⟨kb, ko + t, none⟩ = some (.bool ks[t]) := cell_kept2 (HB1.out.trans HRC.out.below) (hkc t htl)
          have q1 : (q : Int) % (ks.length : Int) = (t : Int) := by rw [← ht]; exact (Int.natCast_emod q ks.length).symm
          have q2 : Int.tmod (q : Int) (ks.length : Int) = (t : Int) := by rw [← q1]; exact Int.tmod_eq_emod_of_nonneg (by omega)
          have htl' : (t : Int) < (ks.length : Int) := by omega
          rw [← hkb] at hkw
          clear ht hkc
          rcases hKB : keepB ks q with _ | _
          · rw [hKB] at hkw hst
            have HSEL : Hid (C = rsel ks r.lasts 0 (r.all.take (k + 1))) := Lib.hid (by rw [hst]; simp)
            clear hKB hkb hst
            go_wp2_with fail
            clear hkw e0 q1 q2 hks0
            go_roundw
            case rel => exact ⟨k + 1, by omega, by go_num, _, HSEL.out ▸ HC.out, HRC.out⟩
            case measure => simp [intOf]; omega
          · rw [hKB] at hkw hst
            have HSEL : Hid (C ++ [p] = rsel ks r.lasts 0 (r.all.take (k + 1))) := Lib.hid (by rw [hst]; rfl)
            clear hKB hkb hst
            go_wp2_with fail
            clear hkw e0 q1 q2 hks0
            go_region_law (refine step_append_lies _ rfl (.tmp 48) (.tmp 56) 35 rfl W.heap.size 77 i7 (.agg #[.int .i64 0, .slice none 0 0]) 2 32 Try.underlying35 I7.out.1 I7.out.2.1 I7.out.2.2.1 I7.out.2.2.2 rfl (by decide) (.slice nc C.length cc) C.length (rrows C) rfl HROW.out ⟨wr.heap.size, 0, none⟩ 1 1 (RW.row p) rfl rfl HNW.out (rowOne p) (by decide) (by have := HCL.out; unfold maxLen; omega) (by have := HCL.out; omega) HB4.out _ rfl ?_; intro g5 pc5 w5 hown5 hg5 hloc5 hlt5; have HX5 := Lib.hid (HBX5.out w5 hg5); have e1 : w5.cell? ⟨rb2, 1, none⟩ = some (.slice nc C.length cc) := (by rw [Lib.cell_of_heap HX5.out]; rfl); have e2 : w5.frozen? ⟨rb2, 1, none⟩ = false := (by simp [World.frozen?, HX5.out]); have HW5 := Lib.hid hown5; have HG5 := Lib.hid hg5; have HL5 := Lib.hid hloc5; clear hown5 hg5 hloc5 hlt5)
            all_goals
              obtain ⟨hF, hFR⟩ := ref_push (p := p) HC.out HRA.out HROW4.out HBX4.out HPO.out HPB.out HW5.out HG5.out HL5.out
              have HF := Lib.hid hF
              have HFR := Lib.hid (HRC.out.trans hFR)
              clear hF hFR
              go_wp2_with fail
              go_roundw
              case rel => exact ⟨k + 1, by omega, by go_num, _, HSEL.out ▸ HF.out, HFR.out⟩
              case measure => simp [intOf]; omega
    · obtain rfl : k = r.all.length := by omega
      obtain ⟨nc, cc, hv2, -, -⟩ := HC.out.slice
      dsimp only at hv2
      subst hv2
      obtain ⟨d0, d1, d2, d3, d4, d5, d6, d7⟩ := HC.out.cells
      have f2 := HC.out.free 2
      obtain ⟨hF, hFR⟩ := HC.out.poke (r' := { freshR r.size with all := rsel ks r.lasts 0 (r.all.take r.all.length), lasts := (rsel ks r.lasts 0 (r.all.take r.all.length)).length }) (i := 2) (u := .int .i64 (rsel ks r.lasts 0 (r.all.take r.all.length)).length) rfl rfl rfl (Nat.le_refl _)
      have HF := Lib.hid hF
      have HFR := Lib.hid (HB1.out.trans (HRC.out.below.trans hFR.below))
      clear hF hFR
      go_wp2_with fail
      go_ret
      have hE := HF.out
      have hB := HFR.out
      rw [List.take_length] at hE hB
      exact ⟨rb2, _, rfl, hE, hB⟩
end Go.Proofs.Ytaaceaojgbicaaa
