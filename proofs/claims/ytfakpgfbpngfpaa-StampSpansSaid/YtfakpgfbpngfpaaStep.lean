/- An append to bytes of the call's own, at a step of a region whose order is open; under Go's own limit of length. -/
import Derived.Test.YtfakpgfbpngfpaaByts
import Derived.Deep.AppendLies
import Derived.Deep.RegionHeldLaw
namespace Go.Proofs.Ytfakpgfbpngfpaa
open Go.ChangeShapes Go.WideShapes Go.Deep Go.RowKit Go.Lib

theorem step_app {ops : Array Oper} {o : Oper} {a : Act} {K : Act → World → Prop} {Q : Exit → Act → World → Prop} {E : Prop} (hgd : o.guard = none) (s x : Operand)
    (ho : o.op = .call { callee := .builtin .append, args := #[s, x], argTypes := #[22, 22] }) {B : Nat} {v : Value} {l : List UInt8} {w W : World} (h : Took B v l w W) (hB : B ≤ W.heap.size) (hs : a.eval s = v)
    (news : List UInt8) (ad : Addr) (m c : Nat) (hx : a.eval x = .slice (some ad) m c) (hm : m = news.length) (h0 : 0 < m) (hc : ∀ j u, (Lib.byteCells news)[j]? = some u → W.cell? (ad.add j) = some u) (hl : l.length + news.length ≤ 140737488355328)
    (H : ∀ g cap W', Took B (.slice (some ⟨g, 0, none⟩) (l ++ news).length cap) (l ++ news) w W' → K (a.put o.dst (.slice (some ⟨g, 0, none⟩) (l ++ news).length cap)) W') : if Region.wanted o (yielded ops a.tmps) = true then Oper.wp Try.prog o a W K Q else E := by
  obtain ⟨i0, hi, hz0, hz1, hz2⟩ := info_parts infoByte
  subst hm
  refine step_append_lies W hgd s x 22 ho B 5 i0 (.int .u8 0) 1 1 Try.underlying22 hi hz0 hz1 hz2 rfl (by decide) v l.length (Lib.byteCells l) hs h.own ad news.length c (Lib.byteCells news) hx (by simp [Lib.byteCells]) hc (bytes_one _) h0 (by unfold maxLen; omega) (by omega) hB _ rfl ?_
  intro g cap W' hown hg _ _
  rw [← Lib.byteCells_append, ← List.length_append] at hown
  rw [← List.length_append]
  exact H g cap W' ⟨hown, h.below.grown hg hB (fun k hk => (h.own.lt k hk).1), h.kept.grown hg (bytesRow_kind h.own)⟩
end Go.Proofs.Ytfakpgfbpngfpaa
