/- Small facts that several walks lean on; no condition. -/
import Derived.Test.YtcbfbmidekmboaaDoorFormed
import Derived.Test.YtcbfbmidekmboaaDoorBoxes
import Derived.Lib.QuietBelow
import Derived.BigQuiet
namespace Go.Proofs.YtcbfbmidekmboaaDoor
open Go.ChangeShapes Go.WideShapes Go.Deep Go.RowKit Go.Lib

theorem toList_inj {s t : ByteArray} (h : s.toList = t.toList) : s = t := by
  rw [ByteArray.toList_eq, ByteArray.toList_eq] at h
  exact ByteArray.ext (Array.ext' h)

theorem str_ne {s t : ByteArray} (h : s ≠ t) : (s.toList != t.toList) = true := by
  rw [bne_iff_ne]; exact fun e => h (toList_inj e)

theorem str_eq_false {s t : ByteArray} (h : s ≠ t) : (s.toList == t.toList) = false := by
  rw [beq_eq_false_iff_ne]; exact fun e => h (toList_inj e)

theorem AV.In.lenN {w : World} {k n : Int} {s : ByteArray} {na : Option Addr} {nc : Nat} {ns : List ByteArray} {xa : Option Addr} {xc : Nat} {xs : List AV} (h : In w (mk k n s na nc ns xa xc xs)) : ns.length ≤ 9223372036854775807 := h.lens.2.1


end Go.Proofs.YtcbfbmidekmboaaDoor
