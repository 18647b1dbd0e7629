/- Both disks beside each other: each call's answer, and what lies there behind it; under 2^30 writes. -/
import Derived.Test.YtaaceaojgbicaaaActs
namespace Go.Proofs.Ytaaceaojgbicaaa
open Go.ChangeShapes Go.WideShapes Go.Deep Go.RowKit Go.Lib Go.Maps

/-- The program's disk in the state s, the document's alike to t; so many writes at most. -/
def Both (w W : World) (db rb : Nat) (s t : DS) (K L : Nat) : Prop :=
  ∃ a v r, OwnAt w W db s a ∧ RefAt w.heap.size W rb v r ∧ Sim t r ∧ s.k ≤ K ∧ r.all.length ≤ L

theorem Both.lies {w W : World} {db rb K L : Nat} {s t : DS} (h : Both w W db rb s t K L) : Below w.heap.size w W := by
  obtain ⟨a, v, r, h1, -⟩ := h
  exact h1.below
theorem Both.later {w W W' : World} {db rb K L : Nat} {s t : DS} (h : Both w W db rb s t K L) (hb : Below W.heap.size W W') : Both w W' db rb s t K L := by
  obtain ⟨a, v, r, h1, h2, h3⟩ := h
  exact ⟨a, v, r, h1.later hb, h2.below hb, h3⟩
theorem Both.more {w W : World} {db rb K L K' L' : Nat} {s t : DS} (h : Both w W db rb s t K L) (hK : K ≤ K') (hL : L ≤ L') : Both w W db rb s t K' L' := by
  obtain ⟨a, v, r, h1, h2, h3, h4, h5⟩ := h
  exact ⟨a, v, r, h1, h2, h3, by omega, by omega⟩

theorem wrote_k (s : DS) (n : Int) (l : List UInt8) : (s.wrote n l).2.k ≤ s.k + 1 := by
  have := (spent_eq s).2.2.2.1
  unfold DS.wrote
  split
  · simp
  · split
    · simp
    · split
      · simp; omega
      · simp; omega
theorem synced_k (s : DS) : s.synced.2.k ≤ s.k := by
  have := (spent_eq s).2.2.2.1
  unfold DS.synced
  split
  · simp
  · split
    · show s.spent.k ≤ s.k; omega
    · show s.spent.k ≤ s.k; omega
theorem didRead_k (s : DS) (n : Int) : (s.didRead n).2.2.k = s.k := by
  unfold DS.didRead
  split
  · rfl
  · split <;> rfl

theorem both_became {w W w' : World} {db rb K L K' : Nat} {s s' t : DS} (h : Both w W db rb s t K L) (hk : s'.k ≤ K') (hb : ∀ a, OwnAt w W db s a → Became a W s' w') : Both w w' db rb s' t K' L ∧ Stays W w' ∧ W.heap.size ≤ w'.heap.size := by
  obtain ⟨a, v, r, h1, h2, h3, h4, h5⟩ := h
  have hB := hb a h1
  have hS := Stays.of_became h1.at_ hB
  obtain ⟨a', e, hd, hO, hf⟩ := hB
  obtain ⟨a2, h2'⟩ := h1.became (s' := s') ⟨a', e, hd, hO, hf⟩
  exact ⟨⟨a2, v, r, h2', h2.stays hS hO.size, h3, hk, h5⟩, hS, hO.size⟩

theorem both_write {w W : World} {db rb K L : Nat} {s t : DS} (h : Both w W db rb s t K L) (hK : K < 1073741824) (n : Int) (hn : wfI n) (g cap : Nat) (l : List UInt8) (hg : W.heap[g]? = some (.cells (Lib.byteCells l).toArray 5 (0, 0))) :
    Calls Try.prog 18 #[.pointer (some ⟨db, 0, none⟩), .int .i64 n, .slice (some ⟨g, 0, none⟩) l.length cap] W fun e w' => e = .returned (.int .i64 (s.wrote n l).1) ∧ Both w w' db rb (s.wrote n l).2 t (K + 1) L ∧ Stays W w' := by
  obtain ⟨a, v, r, h1, h2, h3, h4, h5⟩ := h
  have := write_any h1.at_ (by omega) n hn (some ⟨g, 0, none⟩) cap l (bytesIn_heap hg) (fun x hx => by cases hx; exact h1.at_.far hg (by decide) (by decide))
  rw [show ptr a = .pointer (some ⟨db, 0, none⟩) by unfold ptr; rw [h1.db]] at this
  refine this.mono fun e w' ⟨he, hB⟩ => ?_
  have hS := Stays.of_became h1.at_ hB
  have hz : W.heap.size ≤ w'.heap.size := by obtain ⟨a', e, hd, hO, hf⟩ := hB; exact hO.size
  obtain ⟨a2, h2'⟩ := h1.became hB
  exact ⟨he, ⟨a2, v, r, h2', h2.stays hS hz, h3, by have := wrote_k s n l; omega, h5⟩, hS⟩

theorem both_rwrite {w W : World} {db rb K L : Nat} {s t : DS} (h : Both w W db rb s t K L) (hL : L < 1073741824) (n : Int) (g cap : Nat) (l : List UInt8) (hg : W.heap[g]? = some (.cells (Lib.byteCells l).toArray 5 (0, 0))) :
    Calls Try.prog 25 #[.pointer (some ⟨rb, 0, none⟩), .int .i64 n, .slice (some ⟨g, 0, none⟩) l.length cap] W fun e w' => e = .returned (.int .i64 (t.wrote n l).1) ∧ Both w w' db rb s (t.wrote n l).2 K (L + 1) ∧ RStays w.heap.size W w' := by
  obtain ⟨a, v, r, h1, h2, h3, h4, h5⟩ := h
  refine (rwrite_sim h2 h3 (by omega) n g cap l hg).mono ?_
  rintro e w' ⟨he, v', r', k1, k2, k3, k4⟩
  exact ⟨he, ⟨a, v', r', h1.rstays k2, k1, k3, h4, by omega⟩, k2⟩

theorem both_sync {w W : World} {db rb K L : Nat} {s t : DS} (h : Both w W db rb s t K L) (hK : K < 1073741824) :
    Calls Try.prog 20 #[.pointer (some ⟨db, 0, none⟩)] W fun e w' => e = .returned (.int .i64 s.synced.1) ∧ Both w w' db rb s.synced.2 t K L := by
  obtain ⟨a, v, r, h1, h2, h3, h4, h5⟩ := h
  have := sync_any h1.at_ (by omega)
  rw [show ptr a = .pointer (some ⟨db, 0, none⟩) by unfold ptr; rw [h1.db]] at this
  refine this.mono fun e w' ⟨he, hB⟩ => ?_
  have hS := Stays.of_became h1.at_ hB
  have hz : W.heap.size ≤ w'.heap.size := by obtain ⟨a', e, hd, hO, hf⟩ := hB; exact hO.size
  obtain ⟨a2, h2'⟩ := h1.became hB
  exact ⟨he, a2, v, r, h2', h2.stays hS hz, h3, by have := synced_k s; omega, h5⟩

theorem both_rsync {w W : World} {db rb K L : Nat} {s t : DS} (h : Both w W db rb s t K L) :
    Calls Try.prog 27 #[.pointer (some ⟨rb, 0, none⟩)] W fun e w' => e = .returned (.int .i64 t.synced.1) ∧ Both w w' db rb s t.synced.2 K L := by
  obtain ⟨a, v, r, h1, h2, h3, h4, h5⟩ := h
  refine (rsync_sim h2 h3).mono ?_
  rintro e w' ⟨he, v', r', k1, k2, k3, k4⟩
  exact ⟨he, a, v', r', h1.rstays k2, k1, k3, h4, by omega⟩

/-- Bytes that were answered, and lie there still. -/
def Lie (W : World) (l : List UInt8) (na : Option Addr) : Prop := l = [] ∨ ∃ g T, na = some ⟨g, 0, none⟩ ∧ W.heap[g]? = some (.cells (Lib.byteCells l).toArray T (0, 0)) ∧ T ≠ 66 ∧ T ≠ 72 ∧ T ≠ 38 ∧ T ≠ 77
theorem Lie.bytes {W : World} {l : List UInt8} {na : Option Addr} (h : Lie W l na) : BytesIn W na l := by
  rcases h with h | ⟨g, T, rfl, hg, -⟩
  · exact .inl h
  · exact bytesIn_heap hg
theorem Lie.rstays {W W' : World} {B : Nat} {l : List UInt8} {na : Option Addr} (h : Lie W l na) (hr : RStays B W W') : Lie W' l na := by
  rcases h with h | ⟨g, T, rfl, hg, h1, h2, h3, h4⟩
  · exact .inl h
  · exact .inr ⟨g, T, rfl, hr.cells _ _ _ _ hg h3 h4, h1, h2, h3, h4⟩

theorem both_read {w W : World} {db rb K L : Nat} {s t : DS} (h : Both w W db rb s t K L) (n : Int) (hn : wfI n) :
    Calls Try.prog 21 #[.pointer (some ⟨db, 0, none⟩), .int .i64 n] W fun e w' => ∃ na, e = .returned (.tuple #[.slice na (s.didRead n).2.1.length (s.didRead n).2.1.length, .int .i64 (s.didRead n).1]) ∧ Lie w' (s.didRead n).2.1 na ∧ Both w w' db rb (s.didRead n).2.2 t K L ∧ Stays W w' := by
  obtain ⟨a, v, r, h1, h2, h3, h4, h5⟩ := h
  have := read_any h1.at_ n hn
  rw [show ptr a = .pointer (some ⟨db, 0, none⟩) by unfold ptr; rw [h1.db]] at this
  refine this.mono fun e w' ⟨he, hd, hO⟩ => ?_
  have hS := Stays.of_only h1.at_ hO
  have hB : Both w w' db rb (s.didRead n).2.2 t K L := ⟨a, v, r, h1.same hd hO, h2.stays hS hO.size, h3, by rw [didRead_k]; omega, h5⟩
  rcases he with ⟨e1, e2⟩ | ⟨g, -, e2, hg⟩
  · exact ⟨none, by rw [e1]; exact e2, .inl e1, hB, hS⟩
  · exact ⟨_, e2, .inr ⟨g, 70, rfl, hg, by decide, by decide, by decide, by decide⟩, hB, hS⟩

theorem both_rread {w W : World} {db rb K L : Nat} {s t : DS} (h : Both w W db rb s t K L) (hL : L < 1073741824) (n : Int) (hnl : (t.now n).length = 256) :
    Calls Try.prog 26 #[.pointer (some ⟨rb, 0, none⟩), .int .i64 n] W fun e w' => ∃ na, e = .returned (.tuple #[.slice na (t.didRead n).2.1.length (t.didRead n).2.1.length, .int .i64 (t.didRead n).1]) ∧ Lie w' (t.didRead n).2.1 na ∧ Both w w' db rb s (t.didRead n).2.2 K L ∧ RStays w.heap.size W w' := by
  obtain ⟨a, v, r, h1, h2, h3, h4, h5⟩ := h
  refine (rread_sim h2 h3 (by omega) n hnl).mono ?_
  rintro e w' ⟨he, v', r', k1, k2, k3, k4⟩
  have hB : Both w w' db rb s (t.didRead n).2.2 K L := ⟨a, v', r', h1.rstays k2, k1, k3, h4, by omega⟩
  rcases he with ⟨e1, e2⟩ | ⟨g, T, e2, hg, ht⟩
  · exact ⟨none, by rw [e1]; exact e2, .inl e1, hB, k2⟩
  · exact ⟨_, e2, .inr ⟨g, T, rfl, hg, ht⟩, hB, k2⟩

theorem both_setfuse {w W : World} {db rb K L : Nat} {s t : DS} (h : Both w W db rb s t K L) (n : Int) :
    Calls Try.prog 24 #[.pointer (some ⟨db, 0, none⟩), .int .i64 n] W fun e w' => e = .returned (.tuple #[]) ∧ Both w w' db rb { s with fused := decide (0 ≤ n), left := n } t K L ∧ Stays W w' := by
  obtain ⟨a, v, r, h1, h2, h3, h4, h5⟩ := h
  have := setfuse_any h1.at_ n
  rw [show ptr a = .pointer (some ⟨db, 0, none⟩) by unfold ptr; rw [h1.db]] at this
  refine this.mono fun e w' ⟨he, hd, hO⟩ => ?_
  have hS := Stays.of_only h1.at_ hO
  exact ⟨he, ⟨a, v, r, h1.same hd hO, h2.stays hS hO.size, h3, h4, h5⟩, hS⟩

theorem both_fuse {w W : World} {db rb K L : Nat} {s t : DS} (h : Both w W db rb s t K L) (n : Int) (hn : n ≤ 9223372036854775807) :
    W.frozen? ⟨rb, 3, none⟩ = false ∧ (∃ x, W.cell? ⟨rb, 3, none⟩ = some x) ∧ Both w (W.setCell ⟨rb, 3, none⟩ (.int .i64 (max n (-1)))) db rb s { t with fused := decide (0 ≤ n), left := n } K L := by
  obtain ⟨a, v, r, h1, h2, h3, h4, h5⟩ := h
  obtain ⟨k1, k2⟩ := h2.poke (r' := { r with fuse := max n (-1) }) (i := 3) (u := .int .i64 (max n (-1))) (by rfl) rfl rfl h2.lasts
  exact ⟨h2.free 3, ⟨_, h2.cells.2.2.2.1⟩, a, v, _, h1.rstays k2, k1, h3.setFuse n hn, h4, h5⟩
theorem Both.nowLen {w W : World} {db rb K L : Nat} {s t : DS} (h : Both w W db rb s t K L) (n : Int) : (s.now n).length = 256 := by
  obtain ⟨a, v, r, h1, -⟩ := h
  exact over_length h1.at_.lastlen h1.at_.lens n
theorem both_cut {w W : World} {db rb K L : Nat} {s t : DS} (h : Both w W db rb s t K L) (hK : K < 1073741824) (ka : Option Addr) (kc : Nat) (ks : List Bool) (hin : BoolsIn W ka ks) (hks : ks.length ≤ 9223372036854775807) :
    Calls Try.prog 22 #[.pointer (some ⟨db, 0, none⟩), .slice ka ks.length kc] W fun e w' => ∃ db', e = .returned (.pointer (some ⟨db', 0, none⟩)) ∧ Both w w' db' rb (s.cut ks) t K L ∧ Below W.heap.size W w' := by
  obtain ⟨a, v, r, h1, h2, h3, h4, h5⟩ := h
  have := cut_any h1.at_ (by omega) ka kc ks hin hks
  rw [show ptr a = .pointer (some ⟨db, 0, none⟩) by unfold ptr; rw [h1.db]] at this
  refine this.mono ?_
  rintro e w' ⟨a', he, hd, hb, hf⟩
  exact ⟨a'.db, he, ⟨a', v, r, ⟨hd, rfl, h1.below.trans (hb.mono h1.below.size), fun k hk => Nat.le_trans h1.below.size (hf k hk)⟩, h2.below hb, h3, h4, h5⟩, hb⟩

theorem both_rcut {w W : World} {db rb K L : Nat} {s t : DS} (h : Both w W db rb s t K L) (hL : L < 1073741824) (ka : Option Addr) (kc : Nat) (ks : List Bool) (hin : BoolsIn W ka ks) (hks : ks.length ≤ 9223372036854775807) :
    Calls Try.prog 28 #[.pointer (some ⟨rb, 0, none⟩), .slice ka ks.length kc] W fun e w' => ∃ rb', e = .returned (.pointer (some ⟨rb', 0, none⟩)) ∧ Both w w' db rb' s (t.cut ks) K L := by
  obtain ⟨a, v, r, h1, h2, h3, h4, h5⟩ := h
  refine (rcut_any h2 (by omega) ka kc ks hin hks).mono ?_
  rintro e w' ⟨rb2, v2, he, k1, k2⟩
  exact ⟨rb2, he, a, v2, r.cut ks, h1.later k2, k1.mono h1.below.size, h3.cut h2.lasts ks, h4, Nat.le_trans (rsel_length ks r.lasts 0 r.all) h5⟩

theorem BoolsIn.below' {w W : World} {na : Option Addr} {l : List Bool} (h : BoolsIn w na l) (hb : Below w.heap.size w W) : BoolsIn W na l := h.below hb

/-- What an act answers: both disks, alike. -/
def ActGave (w : World) (K : Nat) : Ending → World → Prop := fun e w' => ∃ db' rb' s', e = .returned (.tuple #[.pointer (some ⟨db', 0, none⟩), .pointer (some ⟨rb', 0, none⟩), .bool true]) ∧ Both w w' db' rb' s' s' (K + 1) (K + 1)

theorem box33 {W : World} {b : Nat} {x y z u : Value} (h : W.heap[b]? = some (.cells #[x, y, z, u] 33 (0, 0))) : W.cell? ⟨b, 0, none⟩ = some x ∧ W.cell? ⟨b, 1, none⟩ = some y ∧ W.cell? ⟨b, 2, none⟩ = some z ∧ W.cell? ⟨b, 3, none⟩ = some u := by
  refine ⟨?_, ?_, ?_, ?_⟩ <;> rw [Lib.cell_of_heap h] <;> rfl
end Go.Proofs.Ytaaceaojgbicaaa
