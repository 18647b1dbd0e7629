/- Small facts on boxes that several walks lean on; no condition. -/
/- Small facts that several walks lean on; no condition. -/
import Derived.Test.YtcbfbmidekmboaaDoorFew
import Derived.Test.YtcbfbmidekmboaaDoorFormed
import Derived.Lib.QuietBelow
import Derived.BigQuiet
namespace Go.Proofs.YtcbfbmidekmboaaDoor
open Go.ChangeShapes Go.WideShapes Go.Deep Go.RowKit Go.Lib

theorem two_below (w : World) (o o' : Obj) : Below w.heap.size w ((w.alloc o).alloc o') := ((Below.refl _ _).alloc (Nat.le_refl _) _).alloc (by simp) _

theorem two_box (w : World) (cs cs' : Array Value) : ((w.alloc (.cells cs 25)).alloc (.cells cs' 25)).heap[w.heap.size]? = some (.cells cs 25 (0, 0)) ∧ ((w.alloc (.cells cs 25)).alloc (.cells cs' 25)).heap[w.heap.size + 1]? = some (.cells cs' 25 (0, 0)) := by
  refine ⟨?_, ?_⟩
  · rw [Lib.alloc_old _ _ _ (by simp)]; exact heap_alloc_new w _
  · have := heap_alloc_new (w.alloc (.cells cs 25)) (.cells cs' 25)
    rw [show (w.alloc (.cells cs 25)).heap.size = w.heap.size + 1 by simp] at this
    exact this

theorem box_cells {w : World} {n : Nat} {a b c d e : Value} (h : w.heap[n]? = some (.cells #[a, b, c, d, e] 25 (0, 0))) :
    w.cell? ⟨n, 0, none⟩ = some a ∧ w.cell? ⟨n, 1, none⟩ = some b ∧ w.cell? ⟨n, 2, none⟩ = some c ∧ w.cell? ⟨n, 3, none⟩ = some d ∧ w.cell? ⟨n, 4, none⟩ = some e := by
  refine ⟨?_, ?_, ?_, ?_, ?_⟩ <;> rw [Lib.cell_of_heap h] <;> rfl

theorem box_later {w w' : World} {n : Nat} {o : Obj} (h : w.heap[n]? = some o) (hb : Below w.heap.size w w') : w'.heap[n]? = some o := by
  have hlt : n < w.heap.size := by
    rcases Nat.lt_or_ge n w.heap.size with h' | h'
    · exact h'
    · simp [Array.getElem?_eq_none h'] at h
  rw [hb.block n hlt]; exact h

theorem box_row {w : World} {n : Nat} {t : AV} (h : w.heap[n]? = some (.cells t.row.toArray 25 (0, 0))) : w.rangeAt n 0 t.row := fun j v hv => by
  rw [Lib.cell_of_heap h]
  simpa using hv

theorem cell_kept2 {w w' : World} {p : Addr} {v : Value} (hb : Below w.heap.size w w') (h : w.cell? p = some v) : w'.cell? p = some v := by
  rw [hb.cell (World.block_lt_of_cell? w _ h)]; exact h

end Go.Proofs.YtcbfbmidekmboaaDoor

namespace Go.Proofs.YtcbfbmidekmboaaDoor
open Go.ChangeShapes Go.WideShapes Go.Deep Go.RowKit Go.Lib

theorem toList_inj {s t : ByteArray} (h : s.toList = t.toList) : s = t := by
  rw [ByteArray.toList_eq, ByteArray.toList_eq] at h
  exact ByteArray.ext (Array.ext' h)

theorem str_ne {s t : ByteArray} (h : s ≠ t) : (s.toList != t.toList) = true := by
  rw [bne_iff_ne]; exact fun e => h (toList_inj e)

theorem str_eq_false {s t : ByteArray} (h : s ≠ t) : (s.toList == t.toList) = false := by
  rw [beq_eq_false_iff_ne]; exact fun e => h (toList_inj e)

theorem AV.In.lenN {w : World} {k n : Int} {s : ByteArray} {na : Option Addr} {nc : Nat} {ns : List ByteArray} {xa : Option Addr} {xc : Nat} {xs : List AV} (h : In w (mk k n s na nc ns xa xc xs)) : ns.length ≤ 9223372036854775807 := h.lens.2.1


end Go.Proofs.YtcbfbmidekmboaaDoor
