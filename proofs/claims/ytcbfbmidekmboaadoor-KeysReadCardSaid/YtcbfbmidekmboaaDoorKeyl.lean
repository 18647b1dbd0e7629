/- Keys as plain lists of bytes: of numbers, of texts, of values; no condition. -/
import Derived.Test.YtcbfbmidekmboaaDoorTree
namespace Go.Proofs.YtcbfbmidekmboaaDoor
open Go.ChangeShapes Go.WideShapes Go.Deep Go.RowKit

/-- Eight bytes, the most significant first. -/
def bigL (n : Nat) : List UInt8 := [UInt8.ofNat (n / 72057594037927936), UInt8.ofNat (n / 281474976710656), UInt8.ofNat (n / 1099511627776), UInt8.ofNat (n / 4294967296), UInt8.ofNat (n / 16777216), UInt8.ofNat (n / 65536), UInt8.ofNat (n / 256), UInt8.ofNat n]

theorem bigL_length (n : Nat) : (bigL n).length = 8 := rfl

theorem bigL_get (n j : Nat) (h : j < 8) : (bigL n)[j]'(by rw [bigL_length]; exact h) = UInt8.ofNat (n / 256 ^ (7 - j)) := by
  match j, h with
  | 0, _ => rfl
  | 1, _ => rfl
  | 2, _ => rfl
  | 3, _ => rfl
  | 4, _ => rfl
  | 5, _ => rfl
  | 6, _ => rfl
  | 7, _ => simp [bigL]

/-- What stands for a byte of a text. -/
def escL (c : UInt8) : List UInt8 := if c = 0 then [0, 255] else [c]

/-- A text's bytes. -/
def textL (l : List UInt8) : List UInt8 := l.flatMap escL ++ [0, 0]

theorem textL_cons (c : UInt8) (l : List UInt8) : textL (c :: l) = escL c ++ textL l := by simp [textL]

theorem textL_drop {l : List UInt8} {j : Nat} (h : j < l.length) : textL (l.drop j) = escL l[j] ++ textL (l.drop (j + 1)) := by
  rw [List.drop_eq_getElem_cons h, textL_cons]

theorem textL_end {l : List UInt8} {j : Nat} (h : l.length ≤ j) : textL (l.drop j) = [0, 0] := by
  rw [List.drop_eq_nil_of_le h]; rfl

theorem escL_length (c : UInt8) : 1 ≤ (escL c).length ∧ (escL c).length ≤ 2 := by unfold escL; split <;> simp

theorem textL_length : ∀ l, l.length + 2 ≤ (textL l).length ∧ (textL l).length ≤ 2 * l.length + 2
  | [] => by simp [textL]
  | c :: l => by
    have h1 := textL_length l
    have h2 := escL_length c
    rw [textL_cons, List.length_append, List.length_cons]
    omega

namespace AV
mutual
/-- A value's key. -/
def key : AV → List UInt8
  | mk k n s _ _ ns _ _ xs => UInt8.ofNat (k + 1).toNat :: (if k = 3 then bigL (n + 9223372036854775808).toNat else if k = 4 then textL s.data.toList else if k = 5 ∨ k = 6 then keyAll (decide (k = 6)) ns xs ++ [0] else [])
/-- Members: with names, or without. -/
def keyAll (o : Bool) : List ByteArray → List AV → List UInt8
  | _, [] => []
  | ns, x :: xs => (if o then 1 :: textL (ns.headD ⟨#[]⟩).data.toList else []) ++ (key x ++ keyAll o ns.tail xs)
end

/-- What stands ahead of a member's key. -/
def nameL (o : Bool) (ns : List ByteArray) (j : Nat) : List UInt8 := if o then 1 :: textL (ns.getD j ⟨#[]⟩).data.toList else []

theorem keyAll_drop {o : Bool} {ns : List ByteArray} {xs : List AV} {j : Nat} (h : j < xs.length) : keyAll o (ns.drop j) (xs.drop j) = nameL o ns j ++ (key xs[j] ++ keyAll o (ns.drop (j + 1)) (xs.drop (j + 1))) := by
  have e : (ns.drop j).headD ⟨#[]⟩ = ns.getD j ⟨#[]⟩ := by simp [List.headD_eq_head?_getD, List.getD_eq_getElem?_getD, List.head?_drop]
  rw [List.drop_eq_getElem_cons h, keyAll, nameL, List.tail_drop, e]

theorem keyAll_end {o : Bool} {ns : List ByteArray} {xs : List AV} {j : Nat} (h : xs.length ≤ j) : keyAll o (ns.drop j) (xs.drop j) = [] := by
  rw [List.drop_eq_nil_of_le h, keyAll]

theorem key_length (t : AV) : 1 ≤ (key t).length := by
  cases t; rw [key]; simp
end AV
end Go.Proofs.YtcbfbmidekmboaaDoor
