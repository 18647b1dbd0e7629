/- Small facts for writes: the zero write, what one act of the fuse leaves, a slice of one write; blocks of a disk apart. -/
import Derived.Test.YtaaceaojgbicaaaWof
import Derived.RegionTactic
import Derived.BigRegion
import Derived.Deep.RegionLaw
import Derived.Deep.AppendLies
import Derived.StillTailTactics
import Derived.Deep.RegionWith
import Derived.Great.FillDense
import Derived.Great.BuildSlice
namespace Go.Proofs.Ytaaceaojgbicaaa
open Go.ChangeShapes Go.WideShapes Go.Deep Go.RowKit Go.Lib Go.Maps

/-- What is answered, and the disk behind it. -/
def DS.wrote (s : DS) (n : Int) (l : List UInt8) : Int × DS :=
  if s.down then (7, s) else if !s.hasB n || !(l.length == 256) then (1, s) else if s.okB then (0, { s.spent with pend := s.spent.pend ++ [(n, l)], w := wrap64 (s.spent.w + 1), k := s.spent.k + 1 }) else (7, s.spent)

theorem info72z : (Try.prog.info? 72).map (fun i => (i.zero, i.size, i.bytes)) = some (some (.agg zeroW.toArray), 257, 264) := by kernel_rfl
theorem zeroW_length : zeroW.length = 257 := wrow_length (0, zeroS) zeroS_length

theorem spent_eq (s : DS) : s.spent.size = s.size ∧ s.spent.last = s.last ∧ s.spent.pend = s.pend ∧ s.spent.k = s.k ∧ s.spent.w = s.w ∧ s.spent.r = s.r ∧ s.spent.s = s.s := by
  unfold DS.spent
  split
  · split <;> exact ⟨rfl, rfl, rfl, rfl, rfl, rfl, rfl⟩
  · exact ⟨rfl, rfl, rfl, rfl, rfl, rfl, rfl⟩

theorem buildW_run (Z : Array Value) (hZ : Z.size = 257) (w : World) : (Instr.buildSlice 59 1 #[(0, .agg Z)]).run Try.prog w = .ok (.slice (some ⟨w.heap.size, 0, none⟩) 1 1) (w.alloc (.cells Z 72)) := by
  obtain ⟨i0, hi, hz0, hz1, hz2⟩ := info_parts info72z
  refine run_buildSlice w 59 72 1 _ Z i0 _ Try.underlying59 hi hz0 (by rw [hz1]; decide) (by rw [hz1]; decide) ?_
  rw [hz1]
  have := Great.fill_whole (s := 257) (by decide) [.agg Z] ((Array.range (1 * 257)).map ((Value.agg zeroW.toArray).cells[· % (Value.agg zeroW.toArray).cells.size]!)) (by simp [Value.cells, hZ]) (by simp)
  simpa [Value.cells] using this

theorem DiskAt.db_nb {W : World} {a : DA} {s : DS} (h : DiskAt W a s) : ¬ a.db = a.nb := fun e => by
  obtain ⟨D, ⟨es, clock, hb, _⟩, _⟩ := h.new
  rw [← e, h.box] at hb
  cases hb
theorem DiskAt.db_lb {W : World} {a : DA} {s : DS} (h : DiskAt W a s) : ¬ a.db = a.lb := fun e => by
  obtain ⟨n, D, ⟨es, clock, hb, _⟩, _⟩ := h.last
  rw [← e, h.box] at hb
  cases hb
theorem DiskAt.pv_row {W : World} {a : DA} {s : DS} (h : DiskAt W a s) : ∀ k, a.pv.ownBlock = some k → ∃ cur, W.heap[k]? = some (.cells cur 72 (0, 0)) := fun k hk => by
  rcases h.pend.2 with ⟨hv, _⟩ | ⟨g, cap, cur, hv, _, hgg, _⟩
  · rw [hv] at hk; simp [Value.ownBlock] at hk
  · rw [hv] at hk
    simp [Value.ownBlock] at hk
    subst hk
    exact ⟨cur, hgg⟩
theorem DiskAt.pv_nb {W : World} {a : DA} {s : DS} (h : DiskAt W a s) : ∀ k, a.pv.ownBlock = some k → ¬ k = a.nb := fun k hk e => by
  obtain ⟨cur, hc⟩ := h.pv_row k hk
  obtain ⟨D, ⟨es, clock, hb, _⟩, _⟩ := h.new
  rw [← e, hc] at hb
  cases hb
theorem DiskAt.pv_lb {W : World} {a : DA} {s : DS} (h : DiskAt W a s) : ∀ k, a.pv.ownBlock = some k → ¬ k = a.lb := fun k hk e => by
  obtain ⟨cur, hc⟩ := h.pv_row k hk
  obtain ⟨n, D, ⟨es, clock, hb, _⟩, _⟩ := h.last
  rw [← e, hc] at hb
  cases hb
theorem DiskAt.pv_db {W : World} {a : DA} {s : DS} (h : DiskAt W a s) : ∀ k, a.pv.ownBlock = some k → ¬ k = a.db := fun k hk e => by
  obtain ⟨cur, hc⟩ := h.pv_row k hk
  have hb := h.box
  rw [← e, hc] at hb
  simp at hb

/-- A slice of one write, at a step of a region whose order is open. -/
theorem step_buildW {ops : Array Oper} {o : Oper} {a : Act} {w : World} {K : Act → World → Prop} {Q : Exit → Act → World → Prop} {E : Prop} (hgd : o.guard = none) (x : Operand) (ho : o.op = .buildSlice 59 1 #[(0, x)])
    (Z : Array Value) (hx : a.eval x = .agg Z) (hZ : Z.size = 257) (hK : K (a.put o.dst (.slice (some ⟨w.heap.size, 0, none⟩) 1 1)) (w.alloc (.cells Z 72))) : if Region.wanted o (yielded ops a.tmps) = true then Oper.wp Try.prog o a w K Q else E := by
  have hw : Region.wanted o (yielded ops a.tmps) = true := by simp [Region.wanted, hgd]
  rw [if_pos hw]
  unfold Oper.wp execOp
  have e : (#[(0, x)] : Array (Nat × Operand)).map (fun (i, x) => (i, a.eval x)) = #[(0, .agg Z)] := by simp [hx]
  simp only [ho, Sem.run_bind, e, buildW_run Z hZ w, Result.andThen_ok]
  exact hK

end Go.Proofs.Ytaaceaojgbicaaa
