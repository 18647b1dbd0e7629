/- Whether two values are alike: what the program answers; no condition of ours. -/
import Derived.Test.YtijibjdgnaphiabDoorSame
import Derived.Lib.QuietBelow
import Derived.BigQuiet
namespace Go.Proofs.YtijibjdgnaphiabDoor
open Go.ChangeShapes Go.WideShapes Go.Deep Go.RowKit Go.Lib

theorem AV.In.lenN {w : World} {k n : Int} {s : ByteArray} {na : Option Addr} {nc : Nat} {ns : List ByteArray} {xa : Option Addr} {xc : Nat} {xs : List AV} (h : In w (mk k n s na nc ns xa xc xs)) : ns.length ≤ 9223372036854775807 := h.lens.2.1

theorem two_box (w : World) (cs cs' : Array Value) : ((w.alloc (.cells cs 25)).alloc (.cells cs' 25)).heap[w.heap.size]? = some (.cells cs 25 (0, 0)) ∧ ((w.alloc (.cells cs 25)).alloc (.cells cs' 25)).heap[w.heap.size + 1]? = some (.cells cs' 25 (0, 0)) := by
  refine ⟨?_, ?_⟩
  · rw [Lib.alloc_old _ _ _ (by simp)]; exact heap_alloc_new w _
  · have := heap_alloc_new (w.alloc (.cells cs 25)) (.cells cs' 25)
    rw [show (w.alloc (.cells cs 25)).heap.size = w.heap.size + 1 by simp] at this
    exact this

end Go.Proofs.YtijibjdgnaphiabDoor
