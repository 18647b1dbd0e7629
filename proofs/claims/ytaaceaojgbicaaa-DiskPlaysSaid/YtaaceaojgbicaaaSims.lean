/- Both disks do alike: act by act; under 2^30 writes. -/
import Derived.Test.YtaaceaojgbicaaaRefcw
namespace Go.Proofs.Ytaaceaojgbicaaa
open Go.ChangeShapes Go.WideShapes Go.Deep Go.RowKit Go.Lib Go.Maps

theorem Sim.hasB {s : DS} {r : RS} (h : Sim s r) (n : Int) : r.hasB n = s.hasB n := by unfold RS.hasB DS.hasB; rw [h.size]
theorem Sim.okB {s : DS} {r : RS} (h : Sim s r) : r.okB = s.okB := by
  unfold RS.okB DS.okB
  rcases h.fuse with ⟨h1, h2, _⟩ | ⟨h1, h2⟩
  · rw [h1, h2]; rfl
  · rw [h1, h2]; rfl

theorem Sim.spend {s : DS} {r : RS} (h : Sim s r) : Sim s.spent r.burnt := by
  have e := spent_eq s
  have e' := burnt_eq r
  rcases h.fuse with ⟨h1, h2, h3, h4⟩ | ⟨h1, h2⟩
  · by_cases h0 : s.left = 0
    · have hs : s.spent = { s with down := true } := by unfold DS.spent; rw [if_pos h1, if_pos h0]
      have hr : r.burnt = { r with no := true } := by unfold RS.burnt; rw [if_pos (by rw [h2, h0])]
      rw [hs, hr]
      exact ⟨h.size, h.last, h.pend, .inl ⟨h1, h2, h3, h4⟩, rfl, h.acts⟩
    · have hs : s.spent = { s with left := wrap64 (s.left - 1) } := by unfold DS.spent; rw [if_pos h1, if_neg h0]
      have hr : r.burnt = { r with fuse := wrap64 (r.fuse - 1) } := by unfold RS.burnt; rw [if_neg (by rw [h2]; exact h0), if_pos (by rw [h2]; omega)]
      have hw : wrap64 (s.left - 1) = s.left - 1 := by unfold wrap64; omega
      rw [hs, hr]
      exact ⟨h.size, h.last, h.pend, .inl ⟨h1, by show wrap64 (r.fuse - 1) = wrap64 (s.left - 1); rw [h2], by show 0 ≤ wrap64 (s.left - 1); rw [hw]; omega, by show wrap64 (s.left - 1) ≤ _; rw [hw]; omega⟩, h.no, h.acts⟩
  · have hs : s.spent = s := by unfold DS.spent; rw [h1]; rfl
    have hr : r.burnt = r := by unfold RS.burnt; rw [if_neg (by rw [h2]; decide), if_neg (by rw [h2]; decide)]
    rw [hs, hr]
    exact h

theorem Sim.push {s : DS} {r : RS} (h : Sim s r) (hl : r.lasts ≤ r.all.length) (p : RW) : Sim { s with pend := s.pend ++ [p.plain], w := wrap64 (s.w + 1), k := s.k + 1 } { r with a1 := wrap64 (r.a1 + 1), all := r.all ++ [p] } := by
  refine ⟨h.size, ?_, ?_, h.fuse, h.no, h.acts.1, ?_, h.acts.2.2⟩
  · show s.last = over zeroF (((r.all ++ [p]).take r.lasts).map RW.plain)
    rw [List.take_append_of_le_length hl]
    exact h.last
  · show s.pend ++ [p.plain] = ((r.all ++ [p]).drop r.lasts).map RW.plain
    rw [List.drop_append_of_le_length hl, List.map_append, ← h.pend]
    rfl
  · show wrap64 (r.a1 + 1) = wrap64 (s.w + 1)
    rw [h.acts.2.1]

theorem rwrite_sim {B : Nat} {W : World} {rb : Nat} {v : Value} {r : RS} {s : DS} (h : RefAt B W rb v r) (hs : Sim s r) (hlen : r.all.length < 1073741824) (n : Int) (g cap : Nat) (l : List UInt8) (hg : W.heap[g]? = some (.cells (Lib.byteCells l).toArray 5 (0, 0))) :
    Calls Try.prog 25 #[.pointer (some ⟨rb, 0, none⟩), .int .i64 n, .slice (some ⟨g, 0, none⟩) l.length cap] W fun e w' => e = .returned (.int .i64 (s.wrote n l).1) ∧ ∃ v' r', RefAt B w' rb v' r' ∧ RStays B W w' ∧ Sim (s.wrote n l).2 r' ∧ r'.all.length ≤ r.all.length + 1 := by
  rcases hd : s.down with _ | _
  · have hno : r.no = false := by rw [hs.no, hd]
    by_cases hb : s.hasB n = true ∧ l.length = 256
    · obtain ⟨hh, hl⟩ := hb
      have hr : 0 ≤ n ∧ n < r.size := by rw [← hs.hasB] at hh; exact of_decide_eq_true hh
      rcases ho : s.okB with _ | _
      · rw [show s.wrote n l = (7, s.spent) by unfold DS.wrote; rw [hd, hh, hl, ho]; rfl, hl]
        exact (rwrite_lost h n (some ⟨g, 0, none⟩) cap hno hr.1 hr.2 (by rw [hs.okB, ho])).mono fun e w' ⟨h1, h2, h3⟩ => ⟨h1, v, _, h2, h3, hs.spend, by rw [(burnt_eq r).1]; omega⟩
      · rw [wrote_ok hd hh hl ho, hl]
        refine (rwrite_some h hlen n g 0 cap l (fun j hj => by rw [Lib.cell_of_heap hg]; simpa using byteCells_at l j hj) hl hno hr.1 hr.2 (by rw [hs.okB, ho]) ⟨_, _, _, hg, by decide, by decide⟩).mono ?_
        rintro e w' ⟨h1, v', p, rfl, rfl, h2, h3⟩
        have hS := hs.spend.push (by rw [(burnt_eq r).1, (burnt_eq r).2.1]; exact h.lasts) p
        exact ⟨h1, v', _, h2, h3, hS, by show (r.burnt.all ++ [p]).length ≤ _; rw [(burnt_eq r).1]; simp⟩
    · have hc : r.hasB n = false ∨ l.length ≠ 256 := by
        rw [hs.hasB]
        rcases hh : s.hasB n with _ | _
        · exact .inl rfl
        · exact .inr (fun e => hb ⟨hh, e⟩)
      rw [show s.wrote n l = (1, s) by
        unfold DS.wrote
        rw [hd]
        rcases hc with hc | hc
        · rw [hs.hasB] at hc; rw [hc]; rfl
        · rw [show (l.length == 256) = false from beq_eq_false_iff_ne.2 hc]
          cases s.hasB n <;> rfl]
      exact (rwrite_bad h n (some ⟨g, 0, none⟩) l.length cap hno hc).mono fun e w' ⟨h1, h2⟩ => ⟨h1, v, r, h2 ▸ h, h2 ▸ RStays.refl _ _, hs, by omega⟩
  · rw [show s.wrote n l = (7, s) by unfold DS.wrote; rw [hd]; rfl]
    exact (rwrite_no h n _ (by rw [hs.no, hd])).mono fun e w' ⟨h1, h2⟩ => ⟨h1, v, r, h2 ▸ h, h2 ▸ RStays.refl _ _, hs, by omega⟩

theorem rsync_sim {B : Nat} {W : World} {rb : Nat} {v : Value} {r : RS} {s : DS} (h : RefAt B W rb v r) (hs : Sim s r) :
    Calls Try.prog 27 #[.pointer (some ⟨rb, 0, none⟩)] W fun e w' => e = .returned (.int .i64 s.synced.1) ∧ ∃ v' r', RefAt B w' rb v' r' ∧ RStays B W w' ∧ Sim s.synced.2 r' ∧ r'.all.length ≤ r.all.length := by
  refine (rsync_any h).mono fun e w' ⟨h1, h2, h3⟩ => ?_
  have hno := hs.no
  rcases hd : s.down with _ | _
  · rw [hd] at hno
    rcases ho : s.okB with _ | _
    · have e1 : s.synced = (7, s.spent) := by unfold DS.synced; rw [hd, ho]; rfl
      have e2 : r.synced = (7, r.burnt) := by unfold RS.synced; rw [hno, hs.okB, ho]; rfl
      rw [e2] at h1 h2
      rw [e1]
      exact ⟨h1, v, _, h2, h3, hs.spend, by rw [(burnt_eq r).1]; omega⟩
    · have e1 : s.synced = (0, s.spent.didSync) := by unfold DS.synced; rw [hd, ho]; rfl
      have e2 : r.synced = (0, { r.burnt with a2 := wrap64 (r.burnt.a2 + 1), lasts := r.burnt.all.length }) := by unfold RS.synced; rw [hno, hs.okB, ho]; rfl
      rw [e2] at h1 h2
      rw [e1]
      have hsp := hs.spend
      refine ⟨h1, v, _, h2, h3, ⟨hsp.size, ?_, ?_, hsp.fuse, hsp.no, hsp.acts.1, hsp.acts.2.1, ?_⟩, by show r.burnt.all.length ≤ _; rw [(burnt_eq r).1]; omega⟩
      · show s.spent.now = over zeroF ((r.burnt.all.take r.burnt.all.length).map RW.plain)
        rw [List.take_length]
        exact hsp.now
      · show [] = (r.burnt.all.drop r.burnt.all.length).map RW.plain
        rw [List.drop_length]
        rfl
      · show wrap64 (r.burnt.a2 + 1) = wrap64 (s.spent.s + 1)
        rw [hsp.acts.2.2]
  · rw [hd] at hno
    have e1 : s.synced = (7, s) := by unfold DS.synced; rw [hd]; rfl
    have e2 : r.synced = (7, r) := by unfold RS.synced; rw [hno]; rfl
    rw [e2] at h1 h2
    rw [e1]
    exact ⟨h1, v, r, h2, h3, hs, by omega⟩

/-- The answers of both Reads: an error, and bytes or none. -/
def RAnswered (l : List UInt8) (E : Int) (e : Ending) (w' : World) : Prop :=
  (l = [] ∧ e = .returned (.tuple #[.slice none 0 0, .int .i64 E])) ∨ (∃ g T, e = .returned (.tuple #[.slice (some ⟨g, 0, none⟩) l.length l.length, .int .i64 E]) ∧ w'.heap[g]? = some (.cells (Lib.byteCells l).toArray T (0, 0)) ∧ T ≠ 66 ∧ T ≠ 72 ∧ T ≠ 38 ∧ T ≠ 77)

theorem rread_sim {B : Nat} {W : World} {rb : Nat} {v : Value} {r : RS} {s : DS} (h : RefAt B W rb v r) (hs : Sim s r) (hlen : r.all.length < 1073741824) (n : Int) (hnl : (s.now n).length = 256) :
    Calls Try.prog 26 #[.pointer (some ⟨rb, 0, none⟩), .int .i64 n] W fun e w' => RAnswered (s.didRead n).2.1 (s.didRead n).1 e w' ∧ ∃ v' r', RefAt B w' rb v' r' ∧ RStays B W w' ∧ Sim (s.didRead n).2.2 r' ∧ r'.all.length ≤ r.all.length := by
  rcases hd : s.down with _ | _
  · have hno : r.no = false := by rw [hs.no, hd]
    rcases hh : s.hasB n with _ | _
    · rw [show s.didRead n = (1, [], s) by unfold DS.didRead; rw [hd, hh]; rfl]
      exact (rread_bad h n hno (by rw [hs.hasB, hh])).mono fun e w' ⟨h1, h2⟩ => ⟨.inl ⟨rfl, h1⟩, v, r, h2 ▸ h, h2 ▸ RStays.refl _ _, hs, by omega⟩
    · have hr : 0 ≤ n ∧ n < r.size := by rw [← hs.hasB] at hh; exact of_decide_eq_true hh
      rw [show s.didRead n = (0, s.now n, { s with r := wrap64 (s.r + 1) }) by unfold DS.didRead; rw [hd, hh]; rfl]
      refine (rread_some h hlen n hno hr.1 hr.2).mono ?_
      rintro e w' ⟨g, h1, h2, h3, h4⟩
      rw [← hs.now] at h2
      exact ⟨.inr ⟨g, 5, by dsimp only; rw [hnl]; exact h1, h2, by decide, by decide, by decide, by decide⟩, v, _, h3, h4, ⟨hs.size, hs.last, hs.pend, hs.fuse, hs.no, by show wrap64 (r.a0 + 1) = wrap64 (s.r + 1); rw [hs.acts.1], hs.acts.2⟩, Nat.le_refl _⟩
  · rw [show s.didRead n = (7, [], s) by unfold DS.didRead; rw [hd]; rfl]
    exact (rread_no h n (by rw [hs.no, hd])).mono fun e w' ⟨h1, h2⟩ => ⟨.inl ⟨rfl, h1⟩, v, r, h2 ▸ h, h2 ▸ RStays.refl _ _, hs, by omega⟩

theorem Sim.cut {s : DS} {r : RS} (h : Sim s r) (hl : r.lasts ≤ r.all.length) (ks : List Bool) : Sim (s.cut ks) (r.cut ks) := by
  refine ⟨h.size, ?_, ?_, .inr ⟨rfl, rfl⟩, rfl, rfl, rfl, rfl⟩
  · show over s.last (kept ks 0 s.pend) = over zeroF (((rsel ks r.lasts 0 r.all).take (rsel ks r.lasts 0 r.all).length).map RW.plain)
    rw [List.take_length, rsel_plain ks hl, over_append, ← h.last, ← h.pend]
  · show [] = ((rsel ks r.lasts 0 r.all).drop (rsel ks r.lasts 0 r.all).length).map RW.plain
    rw [List.drop_length]
    rfl

theorem Sim.start (n : Nat) : Sim (freshD n) (freshR n) := ⟨rfl, rfl, rfl, .inr ⟨rfl, rfl⟩, rfl, rfl, rfl, rfl⟩
theorem Sim.setFuse {s : DS} {r : RS} (h : Sim s r) (n : Int) (hn : n ≤ 9223372036854775807) : Sim { s with fused := decide (0 ≤ n), left := n } { r with fuse := max n (-1) } := by
  refine ⟨h.size, h.last, h.pend, ?_, h.no, h.acts⟩
  by_cases h0 : 0 ≤ n
  · exact .inl ⟨decide_eq_true h0, by show max n (-1) = n; omega, h0, hn⟩
  · exact .inr ⟨decide_eq_false h0, by show max n (-1) = -1; omega⟩
end Go.Proofs.Ytaaceaojgbicaaa
