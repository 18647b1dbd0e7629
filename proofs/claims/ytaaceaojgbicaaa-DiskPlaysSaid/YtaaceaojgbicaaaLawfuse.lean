/- DiskFuse: a fuse of n lets n acts be done, and no more: the walk of the statement; for every n and every number of further acts. -/
import Derived.Test.YtaaceaojgbicaaaFuse
import Derived.Test.YtaaceaojgbicaaaNils
namespace Go.Proofs.Ytaaceaojgbicaaa
open Go.ChangeShapes Go.WideShapes Go.Deep Go.RowKit Go.Lib Go.Maps

theorem wfI_small {n : Int} (h0 : -1000000 ≤ n) (h1 : n ≤ 1000000) : wfI n := WalkArith.wf_i64 ⟨by omega, by omega⟩

/-- The statement's sector and its write, in a disk of the statement's own. -/
theorem write_own {w wr W : World} {db : Nat} {s : DS} {a : DA} {g : Nat} (h : OwnAt w wr db s a) (hb : Below wr.heap.size wr W) (hg : wr.heap.size ≤ g) (hk : s.k < 1073741824) {n : Int} (hn : wfI n) {l : List UInt8} (hl : l.length = 256) (hin : BytesIn W (some ⟨g, 0, none⟩) l) :
    Calls Try.prog 18 #[.pointer (some ⟨db, 0, none⟩), .int .i64 n, .slice (some ⟨g, 0, none⟩) 256 256] W fun e w' => e = .returned (.int .i64 (s.wrote n l).1) ∧ ∃ a', OwnAt w w' db (s.wrote n l).2 a' := by
  have h' := h.later hb
  have hc := write_any h'.at_ hk n hn (some ⟨g, 0, none⟩) 256 l hin (fun x hx e => by
    cases hx
    have := h.at_.lt _ e
    dsimp only at this
    omega)
  rw [hl, show ptr a = .pointer (some ⟨db, 0, none⟩) by unfold ptr; rw [h.db]] at hc
  exact hc.mono fun e w' ⟨h1, h2⟩ => ⟨h1, h'.became h2⟩

set_option maxHeartbeats 4000000 in
set_option maxRecDepth 100000 in
theorem lawfuse_any (n m : Nat) (hn : n ≤ 255) (hm : m ≤ 255) (w : World) : Calls Try.prog 6 #[.int .u8 (n : Int), .int .u8 (m : Int)] w fun e w' => e = .returned (.bool true) ∧ Below w.heap.size w w' := by
  have AWAKE := Lib.hid (fun W => awake_any W)
  have NEW := Lib.hid (fun W => new_any 300 W)
  have SECT : Hid (∀ W, Calls Try.prog 19 #[.int .i64 1] W fun e w' => ∃ g, e = .returned (.slice (some ⟨g, 0, none⟩) 256 256) ∧ W.heap.size ≤ g ∧ BytesIn w' (some ⟨g, 0, none⟩) (alike 1) ∧ Below W.heap.size W w') := Lib.hid (fun W => (sector_any 1 W).mono fun e w' h => by
    have := h.bytes
    rwa [alike_length] at this)
  have HL1 := Lib.hid (alike_length 1)
  have h300 : clampN 300 = 300 := by decide
  rw [h300] at NEW
  clear h300
  have HN := Lib.hid hn
  go_enter Try.func6, Try.ntmps6
  go_wp2_with fail
  refine (AWAKE.out _).mono ?_
  rintro e w1 ⟨rfl, hb1⟩
  have HB1 := Lib.hid hb1
  clear hb1
  go_wp2_with fail
  refine (NEW.out _).mono ?_
  rintro e w2 ⟨a, rfl, hd, hb2, hf⟩
  have HA2 : Hid (OwnAt w w2 a.db (freshD 300) a) := Lib.hid ⟨hd, rfl, HB1.out.trans (hb2.mono HB1.out.size), fun k hk => Nat.le_trans HB1.out.size (hf k hk)⟩
  clear hd hb2 hf
  unfold ptr
  go_wp2_with fail
  refine (show Calls Try.prog 24 #[.pointer (some ⟨a.db, 0, none⟩), .int .i64 n] _ _ from setfuse_any HA2.out.at_ n).mono ?_
  rintro e w3 ⟨rfl, hd3, hO3⟩
  have HA3 := Lib.hid (HA2.out.same hd3 hO3)
  clear hd3 hO3 HA2
  generalize a.db = db at *
  go_wp2_with fail
  go_loopw [6] (fun i wr => ∃ k : Nat, k ≤ n ∧ i = .int .i64 k ∧ ∃ s a', OwnAt w wr db s a' ∧ Fused n k s) (fun i _ => n - (intOf i).toNat)
  case atStart => exact ⟨0, Nat.zero_le _, rfl, _, _, HA3.out, Fused.start n⟩
  case round =>
    obtain ⟨k, hk, rfl, s, a', hA, hF⟩ := hrel
    have HA := Lib.hid hA
    have HF := Lib.hid hF
    clear hA hF HA3
    by_cases hlt : k < n
    · have hlt' : (k : Int) < (n : Int) := by omega
      have HX := Lib.hid (HF.out.next hlt HN.out HL1.out)
      go_wp2_with fail
      refine (SECT.out _).mono ?_
      rintro e w4 ⟨g, rfl, hg, hin, hb4⟩
      have WR := Lib.hid (write_own HA.out hb4 hg (by have := HF.out.kk; have := HN.out; omega) (wfI_small (n := k) (by omega) (by have := HN.out; omega)) HL1.out hin)
      rw [HX.out.1] at WR
      clear hg hin hb4
      go_wp2_with fail
      refine (WR.out).mono ?_
      rintro e w5 ⟨rfl, a5, hA5⟩
      have HA5 := Lib.hid hA5
      have DN := down_any hA5.at_
      rw [show ptr a5 = .pointer (some ⟨db, 0, none⟩) by unfold ptr; rw [hA5.db], HX.out.2.down] at DN
      have DN5 := Lib.hid DN
      clear DN hA5
      go_wp2_with fail
      refine (DN5.out).mono ?_
      rintro e w6 ⟨rfl, rfl⟩
      go_wp2_with fail
      go_roundw
      case rel => exact ⟨k + 1, by omega, by go_num, _, a5, HA5.out, HX.out.2⟩
      case measure => simp [intOf]; omega
    · obtain rfl : n = k := by omega
      obtain ⟨r, hr⟩ : ∃ r, m % 4 = r := ⟨_, rfl⟩
      have q1 : (m : Int) % 4 = (r : Int) := by omega
      have q2 : Int.tmod (m : Int) 4 = (r : Int) := by rw [← q1]; exact Int.tmod_eq_emod_of_nonneg (by omega)
      have hr4 : r ≤ 3 := by omega
      clear hr
      go_wp2_with fail
      go_loopw [7] (fun i wx => ∃ j : Nat, j ≤ r + 1 ∧ i = .int .i64 j ∧ ∃ s a', OwnAt w wx db s a' ∧ ((j = 0 ∧ Fused n n s) ∨ (0 < j ∧ Blown n s))) (fun i _ => r + 1 - (intOf i).toNat)
      case atStart => exact ⟨0, by omega, rfl, s, a', HA.out, .inl ⟨rfl, HF.out⟩⟩
      case round =>
        clear HA HF
        clear s a'
        obtain ⟨j, hj, rfl, s, a', hA, hF⟩ := hrel
        have HA := Lib.hid hA
        have HF := Lib.hid hF
        have HKK : Hid (s.k = n) := Lib.hid (by rcases hF with ⟨_, h⟩ | ⟨_, h⟩ <;> exact h.kk)
        clear hA hF
        by_cases hlt : j ≤ r
        · have hlt' : (j : Int) ≤ (r : Int) := by omega
          have HX : Hid ((s.wrote 299 (alike 1)).1 = 7 ∧ Blown n (s.wrote 299 (alike 1)).2) := Lib.hid (by
            rcases HF.out with ⟨_, h⟩ | ⟨_, h⟩
            · exact h.blow HL1.out
            · rw [h.again]; exact ⟨rfl, h⟩)
          go_wp2_with fail
          refine (SECT.out _).mono ?_
          rintro e w4 ⟨g, rfl, hg, hin, hb4⟩
          have WR := Lib.hid (write_own HA.out hb4 hg (by have := HKK.out; have := HN.out; omega) (wfI_small (n := 299) (by omega) (by omega)) HL1.out hin)
          rw [HX.out.1] at WR
          clear hg hin hb4
          go_wp2_with fail
          refine (WR.out).mono ?_
          rintro e w5 ⟨rfl, a5, hA5⟩
          have HA5 := Lib.hid hA5
          have DN := down_any hA5.at_
          rw [show ptr a5 = .pointer (some ⟨db, 0, none⟩) by unfold ptr; rw [hA5.db], HX.out.2.down] at DN
          have DN5 := Lib.hid DN
          clear DN hA5
          go_wp2_with fail
          refine (DN5.out).mono ?_
          rintro e w6 ⟨rfl, rfl⟩
          go_wp2_with fail
          go_roundw
          case rel => exact ⟨j + 1, by omega, by go_num, _, a5, HA5.out, .inr ⟨by omega, HX.out.2⟩⟩
          case measure => simp [intOf]; omega
        · obtain rfl : j = r + 1 := by omega
          have HBL : Hid (Blown n s) := Lib.hid (by
            rcases HF.out with ⟨h, _⟩ | ⟨_, h⟩
            · omega
            · exact h)
          have HP : Hid (ptr a' = .pointer (some ⟨db, 0, none⟩)) := Lib.hid (by unfold ptr; rw [HA.out.db])
          have RD := Lib.hid (read_down HA.out.at_ 0 HBL.out.down)
          have CUT := Lib.hid (cut_any HA.out.at_ (by have := HKK.out; have := HN.out; omega) none 0 [] (.inl rfl) (by simp))
          rw [HP.out] at RD CUT
          have hge : (r : Int) < ((r + 1 : Nat) : Int) := by omega
          go_wp2_with fail
          refine (RD.out).mono ?_
          rintro e w4 ⟨rfl, rfl⟩
          go_wp2_with fail
          refine (CUT.out).mono ?_
          rintro e w5 ⟨x, rfl, hd5, hb5, hf5⟩
          have HXF := Lib.hid (hf5 x.db (.inl rfl))
          clear hf5
          have HB5 := Lib.hid hb5
          have HA5 := Lib.hid (HA.out.later hb5)
          have RX := read_some hd5 299 (wfI_small (by omega) (by omega)) HBL.out.cut.1 HBL.out.cut.2.1
          rw [HBL.out.cut.2.2] at RX
          have RDX := Lib.hid RX
          clear hd5 hb5 RX
          go_wp2_with fail
          refine (RDX.out).mono ?_
          rintro e w6 ⟨hans, -, hO6⟩
          rcases hans with ⟨h0, -⟩ | ⟨g, hg, rfl, hgh⟩
          · exact absurd (congrArg List.length h0) (by rw [zeroS_length]; decide)
          have HA6 : Hid (OwnAt w w6 db s a') := Lib.hid ⟨HA5.out.at_.keep hO6 (fun k hk e => by
            have h1 := HA.out.at_.lt k hk
            have h2 := HXF.out
            omega), HA5.out.db, HA5.out.below.trans (hO6.below HA5.out.below.size (fun j e => by
            have h1 := HA.out.below.size
            have h2 := HXF.out
            omega)), HA5.out.foot⟩
          have hc0 : w6.cell? ⟨g, 0, none⟩ = some (.int .u8 0) := by
            rw [Lib.cell_of_heap hgh]
            exact byteCells_at zeroS 0 (by rw [zeroS_length]; decide)
          have SY := Lib.hid (sync_down HA6.out.at_ HBL.out.down)
          have PD := Lib.hid (pending_any HA6.out.at_)
          rw [HP.out] at SY PD
          rw [HBL.out.len] at PD
          rw [zeroS_length]
          clear hO6 hgh hg
          go_wp2_with fail
          refine (SY.out).mono ?_
          rintro e w7 ⟨rfl, rfl⟩
          go_wp2_with fail
          refine (PD.out).mono ?_
          rintro e w7 ⟨rfl, rfl⟩
          go_wp2_with fail
          go_ret
          exact ⟨rfl, HA6.out.below⟩
end Go.Proofs.Ytaaceaojgbicaaa
