/- Writes into an open disk of a statement's own; under 2^30 writes. -/
import Derived.Test.YtaaceaojgbicaaaLasts
import Derived.Deep.Cut
namespace Go.Proofs.Ytaaceaojgbicaaa
open Go.ChangeShapes Go.WideShapes Go.Deep Go.RowKit Go.Lib Go.Maps

theorem Open.push {n : Nat} {s : DS} (h : Open n s) (i : Int) (l : List UInt8) : Open n { s with pend := s.pend ++ [(i, l)], w := wrap64 (s.w + 1), k := s.k + 1 } := ⟨h.size, h.fused, h.down⟩
theorem OwnAt.poke {w wr : World} {db : Nat} {s : DS} {a : DA} (h : OwnAt w wr db s a) {b : Nat} {c : Array Value} {T : TypeId} {fz : Nat × Nat} (hk : wr.heap[b]? = some (.cells c T fz)) (h1 : T ≠ 66) (h2 : T ≠ 72) (hB : w.heap.size ≤ b) (i : Nat) (v : Value) : OwnAt w (wr.setCell ⟨b, i, none⟩ v) db s a :=
  have hO : Only (fun k => k = b) wr (wr.setCell ⟨b, i, none⟩ v) := Only.setCell (S := fun k => k = b) (p := ⟨b, i, none⟩) (Only.refl _ _) (.inl rfl) v
  ⟨h.at_.keep hO (fun _ hf e => h.at_.far hk h1 h2 (e ▸ hf)), h.db, h.below.trans (hO.below h.below.size (fun _ e => e ▸ hB)), h.foot⟩
theorem Open.sync {n : Nat} {s : DS} (h : Open n s) : Open n s.didSync := ⟨h.size, h.fused, h.down⟩

/-- The statement's write, in an open disk of its own. -/
theorem write_open {w wr W : World} {db n : Nat} {s : DS} {a : DA} {g : Nat} (h : OwnAt w wr db s a) (ho : Open n s) (hb : Below wr.heap.size wr W) (hg : wr.heap.size ≤ g) (hk : s.k < 1073741824) {i : Int} (h0 : 0 ≤ i) (h1 : i < n) (hn : n ≤ 1000) {l : List UInt8} (hl : l.length = 256) (hin : BytesIn W (some ⟨g, 0, none⟩) l) :
    Calls Try.prog 18 #[.pointer (some ⟨db, 0, none⟩), .int .i64 i, .slice (some ⟨g, 0, none⟩) 256 256] W fun e w' => e = .returned (.int .i64 0) ∧ Stays wr w' ∧ ∃ a', OwnAt w w' db { s with pend := s.pend ++ [(i, l)], w := wrap64 (s.w + 1), k := s.k + 1 } a' := by
  have h' := h.later hb
  have hc := write_any h'.at_ hk i (wfI_small (by omega) (by omega)) (some ⟨g, 0, none⟩) 256 l hin (fun x hx e => by
    cases hx
    have := h.at_.lt _ e
    dsimp only at this
    omega)
  rw [hl, show ptr a = .pointer (some ⟨db, 0, none⟩) by unfold ptr; rw [h.db], ho.wrote h0 h1 hl] at hc
  exact hc.mono fun e w' ⟨h1, h2⟩ => ⟨h1, (Stays.of_below hb).trans (Stays.of_became h'.at_ h2), h'.became h2⟩

end Go.Proofs.Ytaaceaojgbicaaa
