/- The row of pending writes, write by write; a sector read out of the map of what lasts; no condition. -/
import Derived.Test.YtaaceaojgbicaaaAwake
namespace Go.Proofs.Ytaaceaojgbicaaa
open Go.ChangeShapes Go.WideShapes Go.Deep Go.RowKit Go.Lib Go.Maps

theorem rows_cons (p : Wr) (ps : List Wr) : rows (p :: ps) = wrow p ++ rows ps := by simp [rows]
theorem rows_at : ∀ {ps : List Wr}, (∀ p ∈ ps, p.2.length = 256) → ∀ {i : Nat} {p : Wr}, ps[i]? = some p → ∀ j, j < 257 → (rows ps)[i * 257 + j]? = (wrow p)[j]?
  | [], _, i, p, h, _, _ => by simp at h
  | q :: qs, hl, 0, p, h, j, hj => by
    simp at h
    subst h
    rw [rows_cons, Nat.zero_mul, Nat.zero_add, List.getElem?_append_left (by rw [wrow_length q (hl q (by simp))]; exact hj)]
  | q :: qs, hl, i + 1, p, h, j, hj => by
    rw [List.getElem?_cons_succ] at h
    rw [rows_cons, List.getElem?_append_right (by rw [wrow_length q (hl q (by simp))]; omega), wrow_length q (hl q (by simp)), show (i + 1) * 257 + j - 257 = i * 257 + j by omega]
    exact rows_at (fun p hp => hl p (by simp [hp])) h j hj

/-- The cells of the pending write number i. -/
theorem DiskAt.pendAt {W : World} {a : DA} {s : DS} (h : DiskAt W a s) {g cap : Nat} (hpv : a.pv = .slice (some ⟨g, 0, none⟩) s.pend.length cap) {i : Nat} {p : Wr} (hi : s.pend[i]? = some p) : W.rangeAt g (i * 257) (wrow p) := by
  intro j v hv
  have hj : j < 257 := by
    have := (List.getElem?_eq_some_iff.1 hv).1
    rwa [wrow_length p (h.lens p (List.mem_of_getElem? hi))] at this
  have hr := rows_at h.lens hi j hj
  have hp := h.pend
  rw [hpv] at hp
  have hil := (List.getElem?_eq_some_iff.1 hi).1
  have := hp.cellAt (i * 257 + j) (by omega)
  rw [this, hr]
  exact hv

theorem DiskAt.pendBytes {W : World} {a : DA} {s : DS} (h : DiskAt W a s) {g cap : Nat} (hpv : a.pv = .slice (some ⟨g, 0, none⟩) s.pend.length cap) {i : Nat} {p : Wr} (hi : s.pend[i]? = some p) : W.rangeAt g (i * 257 + 1) (Lib.byteCells p.2) := by
  intro j v hv
  have := h.pendAt hpv hi (j + 1) v (by simpa [wrow] using hv)
  rwa [show i * 257 + (j + 1) = i * 257 + 1 + j by omega] at this

theorem DiskAt.pendHead {W : World} {a : DA} {s : DS} (h : DiskAt W a s) {i : Nat} {p : Wr} (hi : s.pend[i]? = some p) : ∃ g cap, a.pv = .slice (some ⟨g, 0, none⟩) s.pend.length cap ∧ s.pend.length ≤ cap ∧ cap ≤ maxLen := by
  rcases h.pend.2 with ⟨_, h0⟩ | ⟨g, cap, cur, hv, _, _, h1, h2, _⟩
  · have := (List.getElem?_eq_some_iff.1 hi).1
    omega
  · exact ⟨g, cap, hv, h1, h2⟩

theorem zero70r (w : World) : (zeroValue 70).run Try.prog w = .ok (secV zeroS) w := by
  unfold zeroValue typeInfo
  simp only [Sem.run_bind, run_program]
  kernel_rfl

/-- A look-up in the map of what lasts: the sector's bytes. -/
theorem wpList_lookup_sec (w : World) {ops : Array Oper} {rest : List Oper} {o : Oper} {a : Act} {Q : Exit → Act → World → Prop}
    (hg : o.guard = none) (m x : Operand) (hop : o.op = Op.lookup 57 m x false) {b k : Nat} {D : DataW Unit} {f : Int → List UInt8}
    (hm : a.eval m = .map (some b)) (hown : w.ownsMap Try.prog 3 secElem b k D) (hL : LastIs D f) {n : Int} (hx : a.eval x = .int .i64 n) (hn : wfI n)
    (hK : wpList Try.prog ops Q rest (a.put o.dst (secV (f n))) w) :
    wpList Try.prog ops Q (o :: rest) a w := by
  refine wpList_plain hg fun K' hK' => ?_
  obtain ⟨v, ps, hrun, hv⟩ := hown.lookup key3 Try.underlying57 (zero70r w) (secElem_mk zeroS_length) (keyOf_int_mk Try.underlying3 hn)
  obtain ⟨l, hl, rfl, hy⟩ := secElem_inv hv
  have e : l = f n := by
    have := congrArg Prod.fst hy
    have hL' := hL n hn
    unfold kInt at hL'
    dsimp only at this
    rw [hL'] at this
    simpa using this.symm
  subst e
  unfold Oper.wp
  simp [execOp, hop, hm, hx, hrun, Result.andThen]
  exact hK' _ _ hK
#print axioms wpList_lookup_sec
end Go.Proofs.Ytaaceaojgbicaaa
