/- What the program's tables say, and what is laid in its world; no condition of ours. -/
import Derived.Test.YtcbfbmidekmboaaDoorNames
import Derived.Test.YtcbfbmidekmboaaDoorPost
import Derived.Test.YtcbfbmidekmboaaDoorCards
import Derived.Test.YtcbfbmidekmboaaDoorTie
import Derived.Lib.LaidU8T
import Derived.PinnedBridge
import Derived.ProofKit
import Derived.OpenShut
import Derived.LaidMore
import Derived.Lay
import Derived.SevenTiedAt
import Derived.Stop.Joined
namespace Go.Proofs.YtcbfbmidekmboaaDoor
open Go.ChangeShapes Go.WideShapes Go.ChangeAt Go.RowKit

theorem own : ownKnob Tryd.prog.godebug = none := by kernel_rfl
theorem laidOutD : laidOutB Tryd.prog = true := by kernel_rfl

theorem tables : AV.Tables Tryd.prog 25 3 2 9 22 23 ⟨ "Kind", 3, 0, false, "", "", 0⟩ ⟨ "N", 2, 1, false, "", "", 8⟩ ⟨ "Text", 9, 2, false, "", "", 16⟩ ⟨ "Names", 22, 3, false, "", "", 32⟩ ⟨ "Items", 23, 4, false, "", "", 56⟩ where
  hV := Tryd.underlying25
  hI := Tryd.underlying3
  hL := Tryd.underlying2
  hS := Tryd.underlying9
  hNs := Tryd.underlying22
  hXs := Tryd.underlying23
  types := ⟨rfl, rfl, rfl, rfl, rfl⟩
  one := by kernel_rfl
  cV := by kernel_rfl
  cS := by kernel_rfl
theorem readable25 : Tryd.prog.readableRec 25 = true := by kernel_rfl
theorem row25 : 25 < Tryd.prog.types.size := of_decide_eq_true (by kernel_rfl)
theorem extra : Go.Proofs.U8Extra Tryd.prog Tryd.lays196_ren where
  n3 := by kernel_rfl
  n4 := by kernel_rfl
  y3 := by kernel_rfl
  y4 := by kernel_rfl
  c5 := by kernel_rfl
  c119 := by kernel_rfl
  c138 := by kernel_rfl

theorem accept_eq : (Rows.laid_unicode_utf8_acceptRanges : DataW Unit) = Go.Lib.acceptData := by kernel_rfl

theorem tabs_of {W : World} {l : List (String × DataW Unit)} (h : laidMet Tryd.prog l W) (h1 : ("unicode/utf8.first", Rows.laid_unicode_utf8_first) ∈ l) (h2 : ("unicode/utf8.acceptRanges", (Rows.laid_unicode_utf8_acceptRanges : DataW Unit)) ∈ l) : Tabs W := by
  have r1 := Go.Lib.laidMet.reads h h1
  have r2 := Go.Lib.laidMet.reads h h2
  rw [show Rows.laid_unicode_utf8_first = Go.Lib.firstData from Pinned.utf8First_eq] at r1
  rw [accept_eq] at r2
  exact utf8Tabs_of_readsT (U8Types.of196 Tryd.lays196) extra r1 r2
end Go.Proofs.YtcbfbmidekmboaaDoor
