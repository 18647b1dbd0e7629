/- Where nothing can be put: more answers ErrNone; and what put answers, as a plain function of trees. -/
import Derived.Test.YtijibjdgnaphiabDoorPmore
namespace Go.Proofs.YtijibjdgnaphiabDoor
open Go.ChangeShapes Go.WideShapes Go.Deep Go.RowKit Go.Lib

set_option maxHeartbeats 800000 in
set_option maxRecDepth 100000 in
theorem more_no (k n : Int) (s : ByteArray) (na : Option Addr) (nl nc : Nat) (xa : Option Addr) (xl xc : Nat) (k2 n2 : Int) (s2 : ByteArray) (na2 : Option Addr) (nl2 nc2 : Nat) (xa2 : Option Addr) (xl2 xc2 : Nat) (i : Int) (sa : Option Addr) (sl sc : Nat) (w : World) (h : k ≠ 6 ∨ 1 < sl) :
    Calls Tryd.prog 21 #[.agg #[.int .i64 k, .int .i64 n, .string s, .slice na nl nc, .slice xa xl xc], .int .i64 i, .slice sa sl sc, .agg #[.int .i64 k2, .int .i64 n2, .string s2, .slice na2 nl2 nc2, .slice xa2 xl2 xc2]] w fun e w' => Below w.heap.size w w' ∧ e = .returned (.tuple #[AV.zero.val, .int .i64 4]) := by
  have HW := Lib.hid ((((Below.refl w.heap.size w).alloc (Nat.le_refl _) (.cells #[.int .i64 k, .int .i64 n, .string s, .slice na nl nc, .slice xa xl xc] 25)).alloc (by simp) (.cells #[.int .i64 k2, .int .i64 n2, .string s2, .slice na2 nl2 nc2, .slice xa2 xl2 xc2] 25)).alloc (by simp; omega) (.cells #[.int .i64 0, .int .i64 0, .string ⟨#[]⟩, .slice none 0 0, .slice none 0 0] 25))
  by_cases h6 : k = 6
  · subst h6
    have hl : 1 < sl := h.resolve_left (fun h => h rfl)
    have hl1 : decide ((1 : Int) < (sl : Int)) = true := by rw [decide_eq_true_eq]; omega
    clear h
    go_enter Tryd.func21, Tryd.ntmps21
    go_wp2_with fail
    refine bodyPost_ret (v := .tuple #[AV.zero.val, .int .i64 4]) (by simp [results, Tryd.results21, go_sem, AV.zero, AV.val, AV.row]) rfl ⟨?_, rfl⟩
    exact HW.out
  · have hk : (k != 6) = true := by simpa using h6
    have hk2 : (k == 6) = false := by simpa using h6
    clear h
    go_enter Tryd.func21, Tryd.ntmps21
    go_wp2_with fail
    refine bodyPost_ret (v := .tuple #[AV.zero.val, .int .i64 4]) (by simp [results, Tryd.results21, go_sem, AV.zero, AV.val, AV.row]) rfl ⟨?_, rfl⟩
    exact HW.out

/-- What put answers: the value with x at the place. -/
def AV.putAt : List ByteArray → AV → AV → Option AV
  | [], _, x => some x
  | p :: r, .mk k n s na nc ns xa xc xs, x =>
    match (AV.mk k n s na nc ns xa xc xs).place p with
    | some i => match xs[i]? with
      | some y => match AV.putAt r y x with
        | some z => some (.mk k n s na nc ns xa xc (xs.set i z))
        | none => none
      | none => none
    | none => if k = 6 ∧ r = [] then some (.mk 6 n s na nc (ns.take (pos ns p) ++ p :: ns.drop (pos ns p)) xa xc (xs.take (pos ns p) ++ x :: xs.drop (pos ns p))) else none

/-- What a call of put leaves. -/
def PutEnd (r : Option AV) (B : Nat) (w : World) (e : Ending) (w' : World) : Prop :=
  Below w.heap.size w w' ∧ match r with
    | some z => ∃ z' : AV, e = .returned (.tuple #[z'.val, .int .i64 0]) ∧ z'.Apart B w.heap.size w' ∧ AV.eqv z' z = true
    | none => e = .returned (.tuple #[AV.zero.val, .int .i64 4])
end Go.Proofs.YtijibjdgnaphiabDoor
