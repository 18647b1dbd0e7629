/- Whether a value is formed: what the document's answer is, where its own fields are as they must be; and so for every value. -/
import Derived.Test.YtijibjdgnaphiabDoorFormr
namespace Go.Proofs.YtijibjdgnaphiabDoor
open Go.ChangeShapes Go.WideShapes Go.Deep Go.RowKit Go.Lib

theorem keep3 {W : World} {f : FuncId} {args : Array Value} {r : Value} {A : World} {p0 p1 p2 : Addr} {c0 c1 c2 : Value} (hk : Below A.heap.size A W)
    (h0 : W.cell? p0 = some c0) (h1 : W.cell? p1 = some c1) (h2 : W.cell? p2 = some c2) (h : Calls Tryd.prog f args W fun e w' => e = .returned r ∧ Below W.heap.size W w') :
    Calls Tryd.prog f args W fun e W' => e = .returned r ∧ W'.cell? p0 = some c0 ∧ W'.cell? p1 = some c1 ∧ W'.cell? p2 = some c2 ∧ Below A.heap.size A W' :=
  h.mono fun _ _ ⟨he, hb⟩ => ⟨he, cell_later h0 hb, cell_later h1 hb, cell_later h2 hb, hk.trans (hb.mono hk.size)⟩

end Go.Proofs.YtijibjdgnaphiabDoor
