/- A fuse, plainly: what its disk is like act by act; no condition. -/
import Derived.Test.YtaaceaojgbicaaaCut
namespace Go.Proofs.Ytaaceaojgbicaaa
open Go.ChangeShapes Go.WideShapes Go.Deep Go.RowKit Go.Lib Go.Maps

theorem Gave.bytes {l : List UInt8} {w w' : World} {e : Ending} (h : Gave l w e w') : ∃ g, e = .returned (.slice (some ⟨g, 0, none⟩) l.length l.length) ∧ w.heap.size ≤ g ∧ BytesIn w' (some ⟨g, 0, none⟩) l ∧ Below w.heap.size w w' := by
  obtain ⟨g, he, hg, hh, hb⟩ := h
  refine ⟨g, he, hg, .inr ⟨g, 0, rfl, fun j hj => ?_⟩, hb⟩
  rw [Lib.cell_of_heap hh]
  simpa using byteCells_at l j hj

theorem over_none {n : Int} : ∀ {ps : List Wr} {f : Int → List UInt8}, (∀ p ∈ ps, p.1 ≠ n) → over f ps n = f n
  | [], _, _ => rfl
  | p :: ps, f, h => by
    rw [over_cons, over_none (fun q hq => h q (by simp [hq])), upd_other _ (fun e => h p (by simp) e.symm)]

/-- A disk of the statement's own, in the state s: made in the call that began in w. -/
structure OwnAt (w wr : World) (db : Nat) (s : DS) (a : DA) : Prop where
  at_ : DiskAt wr a s
  db : a.db = db
  below : Below w.heap.size w wr
  foot : ∀ k, a.foot k → w.heap.size ≤ k

theorem OwnAt.became {w wr w' : World} {db : Nat} {s s' : DS} {a : DA} (h : OwnAt w wr db s a) (hb : Became a wr s' w') : ∃ a', OwnAt w w' db s' a' := by
  obtain ⟨a', he, hd, hO, hf⟩ := hb
  exact ⟨a', hd, he.trans h.db, h.below.trans (hO.below h.below.size h.foot), fun k hk => (hf k hk).elim (h.foot k) (fun h' => Nat.le_trans h.below.size h')⟩
theorem OwnAt.later {w wr w' : World} {db : Nat} {s : DS} {a : DA} (h : OwnAt w wr db s a) (hb : Below wr.heap.size wr w') : OwnAt w w' db s a :=
  ⟨h.at_.below hb, h.db, h.below.trans (hb.mono h.below.size), h.foot⟩
theorem OwnAt.same {w wr w' : World} {db : Nat} {s s' : DS} {a : DA} (h : OwnAt w wr db s a) (hd : DiskAt w' a s') (hO : Only (fun k => k = a.db) wr w') : OwnAt w w' db s' a :=
  ⟨hd, h.db, h.below.trans (hO.below h.below.size (fun j e => h.foot j (.inl e))), h.foot⟩

/-- Behind k acts of a fuse of n. -/
structure Fused (n k : Nat) (s : DS) : Prop where
  size : s.size = 300
  fused : s.fused = true
  left : s.left = (n : Int) - k
  down : s.down = false
  len : s.pend.length = k
  kk : s.k = k
  zero : ∀ m, s.last m = zeroS
  low : ∀ p ∈ s.pend, p.1 < 299

theorem Fused.start (n : Nat) : Fused n 0 { freshD 300 with fused := decide ((0 : Int) ≤ n), left := n } :=
  ⟨rfl, by simp, by simp, rfl, rfl, rfl, fun _ => rfl, by simp [freshD]⟩

theorem Fused.hasB {n k : Nat} {s : DS} (h : Fused n k s) {i : Int} (h0 : 0 ≤ i) (h1 : i < 300) : s.hasB i = true := by
  unfold DS.hasB
  rw [h.size]
  exact decide_eq_true ⟨h0, h1⟩

theorem wrap_small {x : Int} (h0 : -1000 ≤ x) (h1 : x ≤ 1000000) : wrap64 x = x := by unfold wrap64; omega

theorem Fused.next {n k : Nat} {s : DS} (h : Fused n k s) (hk : k < n) (hn : n ≤ 255) {l : List UInt8} (hl : l.length = 256) : (s.wrote k l).1 = 0 ∧ Fused n (k + 1) (s.wrote k l).2 := by
  have hl0 : s.left ≠ 0 := by rw [h.left]; omega
  have ho : s.okB = true := by unfold DS.okB; rw [h.fused, beq_eq_false_iff_ne.2 hl0]; rfl
  have hs : s.spent = { s with left := s.left - 1 } := by
    unfold DS.spent
    rw [if_pos h.fused, if_neg hl0, wrap_small (by rw [h.left]; omega) (by rw [h.left]; omega)]
  rw [wrote_ok h.down (h.hasB (by omega) (by omega)) hl ho, hs]
  refine ⟨rfl, h.size, h.fused, ?_, h.down, by simp [h.len], by simp [h.kk], h.zero, ?_⟩
  · show s.left - 1 = (n : Int) - ((k + 1 : Nat) : Int)
    rw [h.left]; omega
  · intro p hp
    rcases List.mem_append.1 hp with hp | hp
    · exact h.low p hp
    · simp at hp; rw [hp]; show (k : Int) < 299; omega

/-- Behind the act that the fuse refuses. -/
structure Blown (n : Nat) (s : DS) : Prop where
  size : s.size = 300
  down : s.down = true
  len : s.pend.length = n
  kk : s.k = n
  zero : ∀ m, s.last m = zeroS
  low : ∀ p ∈ s.pend, p.1 < 299

theorem Fused.blow {n : Nat} {s : DS} (h : Fused n n s) {l : List UInt8} (hl : l.length = 256) : (s.wrote 299 l).1 = 7 ∧ Blown n (s.wrote 299 l).2 := by
  have hl0 : s.left = 0 := by rw [h.left]; omega
  have ho : s.okB = false := by unfold DS.okB; rw [h.fused, hl0]; rfl
  have hs : s.spent = { s with down := true } := by unfold DS.spent; rw [if_pos h.fused, if_pos hl0]
  rw [show s.wrote 299 l = (7, s.spent) by unfold DS.wrote; rw [h.down, h.hasB (by omega) (by omega), hl, ho]; rfl, hs]
  exact ⟨rfl, h.size, rfl, h.len, h.kk, h.zero, h.low⟩
theorem Blown.again {n : Nat} {s : DS} (h : Blown n s) (l : List UInt8) (i : Int) : s.wrote i l = (7, s) := by unfold DS.wrote; rw [h.down]; rfl

theorem Blown.cut {n : Nat} {s : DS} (h : Blown n s) : (s.cut []).down = false ∧ (s.cut []).hasB 299 = true ∧ (s.cut []).now 299 = zeroS := by
  refine ⟨rfl, ?_, ?_⟩
  · unfold DS.hasB DS.cut freshD
    rw [h.size]; rfl
  · show over (over s.last (kept [] 0 s.pend)) [] 299 = zeroS
    rw [over_nil, over_none (fun p hp => by have := h.low p (kept_mem _ _ _ p hp); omega), h.zero]
end Go.Proofs.Ytaaceaojgbicaaa
