/- Several disks beside each other: what acts on one leave of the others; no condition. -/
import Derived.Test.YtaaceaojgbicaaaLastb
namespace Go.Proofs.Ytaaceaojgbicaaa
open Go.ChangeShapes Go.WideShapes Go.Deep Go.RowKit Go.Lib Go.Maps

/-- Disks apart from this one stay, and stay apart. -/
def Others (W : World) (a : DA) (W' : World) (a' : DA) : Prop := ∀ b t, DiskAt W b t → (∀ k, b.foot k → ¬ a.foot k) → DiskAt W' b t ∧ ∀ k, b.foot k → ¬ a'.foot k

theorem Became.others {W W' : World} {a : DA} {s' : DS} (h : Became a W s' W') : ∃ a', a'.db = a.db ∧ DiskAt W' a' s' ∧ Only a.foot W W' ∧ (∀ k, a'.foot k → a.foot k ∨ W.heap.size ≤ k) ∧ Others W a W' a' := by
  obtain ⟨a', he, hd, hO, hf⟩ := h
  refine ⟨a', he, hd, hO, hf, fun b t hb hab => ⟨hb.keep hO hab, fun k hk e => ?_⟩⟩
  rcases hf k e with h1 | h1
  · exact hab k hk h1
  · have := hb.lt k hk
    omega

theorem OwnAt.others {w wr w' : World} {db : Nat} {s s' : DS} {a : DA} (h : OwnAt w wr db s a) (hb : Became a wr s' w') : ∃ a', OwnAt w w' db s' a' ∧ Others wr a w' a' := by
  obtain ⟨a', he, hd, hO, hf, ho⟩ := hb.others
  exact ⟨a', ⟨hd, he.trans h.db, h.below.trans (hO.below h.below.size h.foot), fun k hk => (hf k hk).elim (h.foot k) (fun h' => Nat.le_trans h.below.size h')⟩, ho⟩

/-- The statement's write, in an open disk of its own, beside others. -/
theorem write_open2 {w wr W : World} {db n : Nat} {s : DS} {a : DA} {g : Nat} (h : OwnAt w wr db s a) (ho : Open n s) (hb : Below wr.heap.size wr W) (hg : wr.heap.size ≤ g) (hk : s.k < 1073741824) {i : Int} (h0 : 0 ≤ i) (h1 : i < n) (hn : n ≤ 1000) {l : List UInt8} (hl : l.length = 256) (hin : BytesIn W (some ⟨g, 0, none⟩) l) :
    Calls Try.prog 18 #[.pointer (some ⟨db, 0, none⟩), .int .i64 i, .slice (some ⟨g, 0, none⟩) 256 256] W fun e w' => e = .returned (.int .i64 0) ∧ ∃ a', OwnAt w w' db { s with pend := s.pend ++ [(i, l)], w := wrap64 (s.w + 1), k := s.k + 1 } a' ∧ Others wr a w' a' := by
  have h' := h.later hb
  have hc := write_any h'.at_ hk i (wfI_small (by omega) (by omega)) (some ⟨g, 0, none⟩) 256 l hin (fun x hx e => by
    cases hx
    have := h.at_.lt _ e
    dsimp only at this
    omega)
  rw [hl, show ptr a = .pointer (some ⟨db, 0, none⟩) by unfold ptr; rw [h.db], ho.wrote h0 h1 hl] at hc
  refine hc.mono fun e w' ⟨h1, h2⟩ => ⟨h1, ?_⟩
  obtain ⟨a', hA, hO⟩ := h'.others h2
  exact ⟨a', hA, fun b t hbt hab => hO b t (hbt.below hb) hab⟩

/-- An open disk of n sectors that reads so. -/
def Rd (W : World) (x : DA) (f : Int → List UInt8) (n : Nat) : Prop := ∃ s, DiskAt W x s ∧ Open n s ∧ s.now = f

theorem Rd.below {W W' : World} {x : DA} {f : Int → List UInt8} {n : Nat} (h : Rd W x f n) (hb : Below W.heap.size W W') : Rd W' x f n := by
  obtain ⟨s, h1, h2⟩ := h
  exact ⟨s, h1.below hb, h2⟩
theorem Rd.keep {W W' : World} {x : DA} {f : Int → List UInt8} {n : Nat} {S : Nat → Prop} (h : Rd W x f n) (hO : Only S W W') (hn : ∀ k, x.foot k → ¬ S k) : Rd W' x f n := by
  obtain ⟨s, h1, h2⟩ := h
  exact ⟨s, h1.keep hO hn, h2⟩
theorem Rd.lt {W : World} {x : DA} {f : Int → List UInt8} {n : Nat} (h : Rd W x f n) : ∀ k, x.foot k → k < W.heap.size := by
  obtain ⟨s, h1, _⟩ := h
  exact h1.lt

/-- Several disks, each apart from all others. -/
structure AllRd (W : World) (L : List (DA × (Int → List UInt8))) (n : Nat) : Prop where
  rd : ∀ p ∈ L, Rd W p.1 p.2 n
  apart : L.Pairwise (fun p q => ∀ k, p.1.foot k → ¬ q.1.foot k)

theorem AllRd.below {W W' : World} {L : List (DA × (Int → List UInt8))} {n : Nat} (h : AllRd W L n) (hb : Below W.heap.size W W') : AllRd W' L n := ⟨fun p hp => (h.rd p hp).below hb, h.apart⟩
theorem AllRd.nil (W : World) (n : Nat) : AllRd W [] n := ⟨by simp, List.Pairwise.nil⟩
theorem AllRd.two {W : World} {y a : DA} {f g : Int → List UInt8} {n : Nat} (hy : Rd W y f n) (ha : Rd W a g n) (hap : ∀ k, y.foot k → ¬ a.foot k) : AllRd W [(y, f), (a, g)] n := by
  refine ⟨fun p hp => ?_, List.pairwise_cons.2 ⟨fun q hq => ?_, List.pairwise_cons.2 ⟨fun q hq => absurd hq List.not_mem_nil, List.Pairwise.nil⟩⟩⟩
  · rcases List.mem_cons.1 hp with rfl | hp
    · exact hy
    · rcases List.mem_cons.1 hp with rfl | hp
      · exact ha
      · exact absurd hp List.not_mem_nil
  · rcases List.mem_cons.1 hq with rfl | hq
    · exact hap
    · exact absurd hq List.not_mem_nil
/-- A disk that was made behind them. -/
theorem AllRd.add {W W' : World} {L : List (DA × (Int → List UInt8))} {n : Nat} {x : DA} {f : Int → List UInt8} (h : AllRd W L n) (hb : Below W.heap.size W W') (hx : Rd W' x f n) (hf : ∀ k, x.foot k → W.heap.size ≤ k) : AllRd W' ((x, f) :: L) n := by
  refine ⟨fun p hp => ?_, List.pairwise_cons.2 ⟨fun q hq k hk e => ?_, h.apart⟩⟩
  · rcases List.mem_cons.1 hp with rfl | hp
    · exact hx
    · exact (h.rd p hp).below hb
  · have h1 := hf k hk
    have h2 := (h.rd q hq).lt k e
    omega
theorem AllRd.read {W W' : World} {n : Nat} {x : DA} {f : Int → List UInt8} : ∀ {L : List (DA × (Int → List UInt8))}, AllRd W L n → (x, f) ∈ L → Rd W' x f n → Only (fun k => k = x.db) W W' → AllRd W' L n := by
  intro L h hm hx hO
  refine ⟨fun q hq => ?_, h.apart⟩
  by_cases e : q = (x, f)
  · rw [e]; exact hx
  · refine (h.rd q hq).keep hO (fun k hk ek => ?_)
    have hdb : x.foot x.db := .inl rfl
    rw [ek] at hk
    have hp : ∀ (a b : DA × (Int → List UInt8)), a ∈ L → b ∈ L → a ≠ b → ∀ k, a.1.foot k → ¬ b.1.foot k := by
      intro a b ha hb hne
      have := h.apart
      clear hm hq
      induction L with
      | nil => cases ha
      | cons c r ih =>
        obtain ⟨h1, h2⟩ := List.pairwise_cons.1 this
        rcases List.mem_cons.1 ha with rfl | ha'
        · rcases List.mem_cons.1 hb with rfl | hb'
          · exact absurd rfl hne
          · exact h1 _ hb'
        · rcases List.mem_cons.1 hb with rfl | hb'
          · exact fun k hk e => h1 _ ha' k e hk
          · exact ih ⟨fun p hp => h.rd p (List.mem_cons_of_mem _ hp), h2⟩ ha' hb' h2
    exact hp q (x, f) hq hm e _ hk hdb

theorem read_open {W : World} {x : DA} {f : Int → List UInt8} {n : Nat} (h : Rd W x f n) {i : Int} (h0 : 0 ≤ i) (h1 : i < n) (hn : n ≤ 1000) :
    (f i).length = 256 ∧ Calls Try.prog 21 #[.pointer (some ⟨x.db, 0, none⟩), .int .i64 i] W fun e w' => ∃ g, e = .returned (.tuple #[.slice (some ⟨g, 0, none⟩) 256 256, .int .i64 0]) ∧ w'.heap[g]? = some (.cells (Lib.byteCells (f i)).toArray 70 (0, 0)) ∧ Rd w' x f n ∧ Only (fun k => k = x.db) W w' ∧ Stays W w' := by
  obtain ⟨s, hd, ho, rfl⟩ := h
  have hl : (s.now i).length = 256 := over_length hd.lastlen hd.lens i
  refine ⟨hl, (read_some hd i (wfI_small (by omega) (by omega)) ho.down (ho.hasB h0 h1)).mono ?_⟩
  rintro e w' ⟨hans, hd', hO⟩
  rcases hans with ⟨h2, -⟩ | ⟨g, -, he, hg⟩
  · exact absurd (congrArg List.length h2) (by rw [hl]; decide)
  · rw [hl] at he
    exact ⟨g, he, hg, ⟨_, hd', ⟨ho.size, ho.fused, ho.down⟩, rfl⟩, hO, Stays.of_only hd hO⟩

theorem kept_all {ks : List Bool} (h : ∀ i, keepB ks i = true) : ∀ (i : Nat) (ps : List Wr), kept ks i ps = ps
  | _, [] => rfl
  | i, p :: ps => by simp only [kept, h i, if_true, kept_all h (i + 1) ps]
theorem kept_none {ks : List Bool} (h : ∀ i, keepB ks i = false) : ∀ (i : Nat) (ps : List Wr), kept ks i ps = []
  | _, [] => rfl
  | i, p :: ps => by simp only [kept, h i, Bool.false_eq_true, if_false, kept_none h (i + 1) ps]
theorem keep_nil (i : Nat) : keepB [] i = true := rfl
theorem keep_false (i : Nat) : keepB [false] i = false := by
  unfold keepB
  rw [show i % [false].length = 0 by simp [Nat.mod_one]]; rfl
theorem keep_true2 (i : Nat) : keepB [true, true] i = true := by
  unfold keepB
  have : i % [true, true].length < 2 := Nat.mod_lt _ (by decide)
  rcases (show i % [true, true].length = 0 ∨ i % [true, true].length = 1 by omega) with h | h <;> rw [h] <;> rfl

/-- What a cut of an open disk reads. -/
theorem cut_rd {w' : World} {s : DS} {n : Nat} {ks : List Bool} {x : DA} (ho : Open n s) (hd : DiskAt w' x (s.cut ks)) : Rd w' x (over s.last (kept ks 0 s.pend)) n := ⟨_, hd, ⟨ho.size, rfl, rfl⟩, rfl⟩
end Go.Proofs.Ytaaceaojgbicaaa
