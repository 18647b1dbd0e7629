/- An element of a row written out, as the walk loads it; no condition. -/
import Derived.Test.YtcbfbmidekmboaaDoorDepth
namespace Go.Proofs.YtcbfbmidekmboaaDoor
open Go.ChangeShapes Go.WideShapes Go.Deep Go.RowKit

/-- An element written out. -/
theorem wpList_item_out {ops : Array Oper} {rest : List Oper} {a : Act} {w : World} {Q : Exit → Act → World → Prop} {dst : Option Tmp} {ty : TypeId} {ps : String} {af : Array Edge} {x : Operand} {b o : Nat}
    {k n : Int} {s : ByteArray} {na : Option Addr} {nc : Nat} {ns : List ByteArray} {xa : Option Addr} {xc : Nat} {xs : List AV}
    (hr : w.rangeAt b o (AV.mk k n s na nc ns xa xc xs).row) (hx : a.eval x = .pointer (some ⟨b, o, none⟩)) (h : wpList Tryd.prog ops Q rest (a.put dst (.agg #[.int .i64 k, .int .i64 n, .string s, .slice na ns.length nc, .slice xa xs.length xc])) w) :
    wpList Tryd.prog ops Q (⟨dst, .load 25 x, ty, ps, af, none⟩ :: rest) a w := wpList_item hr hx h

end Go.Proofs.YtcbfbmidekmboaaDoor
