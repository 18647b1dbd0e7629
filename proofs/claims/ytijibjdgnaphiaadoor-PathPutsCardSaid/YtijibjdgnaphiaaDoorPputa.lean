/- Where nothing can be put: more answers ErrNone; and what put answers, as a plain function of trees. -/
/- put: the end of the steps, and a step that leads nowhere. -/
import Derived.Test.YtijibjdgnaphiaaDoorPmore
import Derived.Lib.QuietBelow
import Derived.BigQuiet
namespace Go.Proofs.YtijibjdgnaphiaaDoor
open Go.ChangeShapes Go.WideShapes Go.Deep Go.RowKit Go.Lib

set_option maxHeartbeats 800000 in
set_option maxRecDepth 100000 in
theorem more_no (k n : Int) (s : ByteArray) (na : Option Addr) (nl nc : Nat) (xa : Option Addr) (xl xc : Nat) (k2 n2 : Int) (s2 : ByteArray) (na2 : Option Addr) (nl2 nc2 : Nat) (xa2 : Option Addr) (xl2 xc2 : Nat) (i : Int) (sa : Option Addr) (sl sc : Nat) (w : World) (h : k ≠ 6 ∨ 1 < sl) :
    Calls Tryd.prog 72 #[.agg #[.int .i64 k, .int .i64 n, .string s, .slice na nl nc, .slice xa xl xc], .int .i64 i, .slice sa sl sc, .agg #[.int .i64 k2, .int .i64 n2, .string s2, .slice na2 nl2 nc2, .slice xa2 xl2 xc2]] w fun e w' => Below w.heap.size w w' ∧ e = .returned (.tuple #[AV.zero.val, .int .i64 4]) := by
  have HW := Lib.hid ((((Below.refl w.heap.size w).alloc (Nat.le_refl _) (.cells #[.int .i64 k, .int .i64 n, .string s, .slice na nl nc, .slice xa xl xc] 25)).alloc (by simp) (.cells #[.int .i64 k2, .int .i64 n2, .string s2, .slice na2 nl2 nc2, .slice xa2 xl2 xc2] 25)).alloc (by simp; omega) (.cells #[.int .i64 0, .int .i64 0, .string ⟨#[]⟩, .slice none 0 0, .slice none 0 0] 25))
  by_cases h6 : k = 6
  · subst h6
    have hl : 1 < sl := h.resolve_left (fun h => h rfl)
    have hl1 : decide ((1 : Int) < (sl : Int)) = true := by rw [decide_eq_true_eq]; omega
    clear h
    go_enter Tryd.func72, Tryd.ntmps72
    go_wp2_with fail
    refine bodyPost_ret (v := .tuple #[AV.zero.val, .int .i64 4]) (by simp [results, Tryd.results72, go_sem, AV.zero, AV.val, AV.row]) rfl ⟨?_, rfl⟩
    exact HW.out
  · have hk : (k != 6) = true := by simpa using h6
    have hk2 : (k == 6) = false := by simpa using h6
    clear h
    go_enter Tryd.func72, Tryd.ntmps72
    go_wp2_with fail
    refine bodyPost_ret (v := .tuple #[AV.zero.val, .int .i64 4]) (by simp [results, Tryd.results72, go_sem, AV.zero, AV.val, AV.row]) rfl ⟨?_, rfl⟩
    exact HW.out

/-- What put answers: the value with x at the place. -/
def AV.putAt : List ByteArray → AV → AV → Option AV
  | [], _, x => some x
  | p :: r, .mk k n s na nc ns xa xc xs, x =>
    match (AV.mk k n s na nc ns xa xc xs).place p with
    | some i => match xs[i]? with
      | some y => match AV.putAt r y x with
        | some z => some (.mk k n s na nc ns xa xc (xs.set i z))
        | none => none
      | none => none
    | none => if k = 6 ∧ r = [] then some (.mk 6 n s na nc (ns.take (pos ns p) ++ p :: ns.drop (pos ns p)) xa xc (xs.take (pos ns p) ++ x :: xs.drop (pos ns p))) else none

/-- What a call of put leaves. -/
def PutEnd (r : Option AV) (B : Nat) (w : World) (e : Ending) (w' : World) : Prop :=
  Below w.heap.size w w' ∧ match r with
    | some z => ∃ z' : AV, e = .returned (.tuple #[z'.val, .int .i64 0]) ∧ z'.Apart B w.heap.size w' ∧ AV.eqv z' z = true
    | none => e = .returned (.tuple #[AV.zero.val, .int .i64 4])
end Go.Proofs.YtijibjdgnaphiaaDoor

namespace Go.Proofs.YtijibjdgnaphiaaDoor
open Go.ChangeShapes Go.WideShapes Go.Deep Go.RowKit Go.Lib

set_option maxHeartbeats 800000 in
set_option maxRecDepth 100000 in
theorem put_nil (t x : AV) (sa : Option Addr) (sc : Nat) (w0 w : World) (hxin : x.In w0) (hb0 : Below w0.heap.size w0 w) : Calls Tryd.prog 48 #[t.val, .slice sa 0 sc, x.val] w (PutEnd (some x) w0.heap.size w) := by
  have HB0 := Lib.hid hb0
  clear hb0
  have HXIN := Lib.hid hxin
  obtain ⟨X, hX⟩ : ∃ X, X = x := ⟨_, rfl⟩
  rw [← hX] at HXIN
  have HX := Lib.hid hX
  rw [show PutEnd (some x) w0.heap.size w = PutEnd (some X) w0.heap.size w by rw [hX]]
  obtain ⟨k, n, s, na, nc, ns, xa, xc, xs⟩ := t
  obtain ⟨k2, n2, s2, na2, nc2, ns2, xa2, xc2, xs2⟩ := x
  simp only [AV.val, AV.row]
  clear hxin hX
  have HB3 : Hid (Below w.heap.size w (((w.alloc (.cells #[.int .i64 k, .int .i64 n, .string s, .slice na ns.length nc, .slice xa xs.length xc] 25)).alloc (.cells #[.int .i64 k2, .int .i64 n2, .string s2, .slice na2 ns2.length nc2, .slice xa2 xs2.length xc2] 25)).alloc (.cells #[.int .i64 0, .int .i64 0, .string ⟨#[]⟩, .slice none 0 0, .slice none 0 0] 25))) :=
    Lib.hid ((((Below.refl _ _).alloc (Nat.le_refl _) _).alloc (by simp) _).alloc (by simp; omega) _)
  have HT := Lib.hid (three_new w #[.int .i64 k, .int .i64 n, .string s, .slice na ns.length nc, .slice xa xs.length xc] #[.int .i64 k2, .int .i64 n2, .string s2, .slice na2 ns2.length nc2, .slice xa2 xs2.length xc2] #[.int .i64 0, .int .i64 0, .string ⟨#[]⟩, .slice none 0 0, .slice none 0 0])
  go_enter Tryd.func48, Tryd.ntmps48
  go_upto_region 1 with fail
  generalize (((w.alloc (.cells #[.int .i64 k, .int .i64 n, .string s, .slice na ns.length nc, .slice xa xs.length xc] 25)).alloc (.cells #[.int .i64 k2, .int .i64 n2, .string s2, .slice na2 ns2.length nc2, .slice xa2 xs2.length xc2] 25)).alloc (.cells #[.int .i64 0, .int .i64 0, .string ⟨#[]⟩, .slice none 0 0, .slice none 0 0] 25)) = W3 at *
  obtain ⟨b0, b1, b2, b3, b4⟩ := bx5 HT.out.h1
  obtain ⟨c0, c1, c2, c3, c4⟩ := bx5 HT.out.h2
  obtain ⟨f0, f1, f2, f3, f4⟩ := fz5 HT.out.h2
  go_wp2_with fail
  have hfin := below_five HB3.out (b := w.heap.size + 1 + 1) (by omega) (.int .i64 k2) (.int .i64 n2) (.string s2) (.slice na2 ns2.length nc2) (.slice xa2 xs2.length xc2)
  refine bodyPost_ret (v := .tuple #[.agg #[.int .i64 k2, .int .i64 n2, .string s2, .slice na2 ns2.length nc2, .slice xa2 xs2.length xc2], .int .i64 0]) (by simp [results, Tryd.results48, go_sem, c0, c1, c2, c3, c4]) rfl ⟨hfin, X, by rw [HX.out]; rfl, HXIN.out.apart (HB0.out.trans (hfin.mono HB0.out.size)) _, AV.eqv_refl _⟩

set_option maxHeartbeats 1600000 in
set_option maxRecDepth 100000 in
theorem put_no (t x : AV) (p : ByteArray) (r : List ByteArray) (sb so sc : Nat) (w0 w : World) (lv : Nat) (hin0 : t.In w0) (hxin0 : x.In w0) (hb0 : Below w0.heap.size w0 w) (hf : AV.formedJ t lv = true) (hp : w.cell? ⟨sb, so, none⟩ = some (.string p)) (h1 : 0 < p.size) (h2 : p.size ≤ 60) (hE : ErrV w) (hpl : t.place p = none) :
    Calls Tryd.prog 48 #[t.val, .slice (some ⟨sb, so, none⟩) (r.length + 1) sc, x.val] w (PutEnd (t.putAt (p :: r) x) w0.heap.size w) := by
  have hin := hin0.below hb0 (Nat.le_refl _)
  have hxin := hxin0.below hb0 (Nat.le_refl _)
  have FI := Lib.hid (fun W (h : Below w.heap.size w W) => find_any t p W (hin.below h (Nat.le_refl _)) h1 h2 (hE.later h) lv hf)
  obtain ⟨R, hR⟩ : ∃ R, t.putAt (p :: r) x = R := ⟨_, rfl⟩
  rw [hR]
  have MORE : Hid (∀ W, Below w.heap.size w W → Calls Tryd.prog 72 #[t.val, .int .i64 (t.findI p), .slice (some ⟨sb, so, none⟩) (r.length + 1) sc, x.val] W (PutEnd R w0.heap.size W)) := by
    refine Lib.hid fun W hW => ?_
    have hin2 := hin.below hW (Nat.le_refl _)
    have hxin2 := hxin.below hW (Nat.le_refl _)
    have hp2 := cell_later hp hW
    obtain ⟨k, n, s, na, nc, ns, xa, xc, xs⟩ := t
    by_cases h : k = 6 ∧ r = []
    · obtain ⟨rfl, rfl⟩ := h
      obtain ⟨hr, hln⟩ := formed_names hf
      have hx := formed_len hf
      have hfi : (AV.mk 6 n s na nc ns xa xc xs).findI p = (pos ns p : Nat) := by rw [AV.findI, if_pos rfl]
      rw [hfi]
      refine (more_yes n (pos ns p) s na nc ns xa xc xs x p sb so sc w0 W hin0 hxin0 (hb0.trans (hW.mono hb0.size)) hp2 h2 (by omega) hln.symm (pos_le ns p)).mono ?_
      rintro e w' ⟨hb, na1, nc1, xa1, xc1, rfl, hzin⟩
      refine ⟨hb, ?_⟩
      subst hR
      rw [AV.putAt]
      simp only [hpl, and_self, if_true]
      refine ⟨_, rfl, hzin, ?_⟩
      have := AV.eqv_refl (AV.mk 6 n s na1 nc1 (ns.take (pos ns p) ++ p :: ns.drop (pos ns p)) xa1 xc1 (xs.take (pos ns p) ++ x :: xs.drop (pos ns p)))
      rw [AV.eqv] at this ⊢
      exact this
    · have hno : R = none := by
        rw [← hR, AV.putAt]
        simp only [hpl]
        rw [if_neg h]
      obtain ⟨k2, n2, s2, na2, nc2, ns2, xa2, xc2, xs2⟩ := x
      refine (more_no k n s na ns.length nc xa xs.length xc k2 n2 s2 na2 ns2.length nc2 xa2 xs2.length xc2 _ _ _ sc W ?_).mono ?_
      · by_cases h6 : k = 6
        · right
          have : r ≠ [] := fun e => h ⟨h6, e⟩
          have := List.length_pos_iff.2 this
          omega
        · exact .inl h6
      · rintro e w' ⟨hb, rfl⟩
        exact ⟨hb, by rw [hno]⟩
  unfold FindEnd at FI
  rw [hpl] at FI
  obtain ⟨fi, hfi⟩ : ∃ fi, t.findI p = fi := ⟨_, rfl⟩
  rw [hfi] at FI MORE
  have HPL := Lib.hid hpl
  have HS0 : Hid (w0.heap.size ≤ w.heap.size) := Lib.hid hb0.size
  clear hR hfi hpl hf hE hin hxin h1 h2 hin0 hxin0 hb0
  obtain ⟨k, n, s, na, nc, ns, xa, xc, xs⟩ := t
  obtain ⟨k2, n2, s2, na2, nc2, ns2, xa2, xc2, xs2⟩ := x
  simp only [AV.val, AV.row] at FI MORE ⊢
  have HB3 : Hid (Below w.heap.size w (((w.alloc (.cells #[.int .i64 k, .int .i64 n, .string s, .slice na ns.length nc, .slice xa xs.length xc] 25)).alloc (.cells #[.int .i64 k2, .int .i64 n2, .string s2, .slice na2 ns2.length nc2, .slice xa2 xs2.length xc2] 25)).alloc (.cells #[.int .i64 0, .int .i64 0, .string ⟨#[]⟩, .slice none 0 0, .slice none 0 0] 25))) :=
    Lib.hid ((((Below.refl _ _).alloc (Nat.le_refl _) _).alloc (by simp) _).alloc (by simp; omega) _)
  have HT := Lib.hid (three_new w #[.int .i64 k, .int .i64 n, .string s, .slice na ns.length nc, .slice xa xs.length xc] #[.int .i64 k2, .int .i64 n2, .string s2, .slice na2 ns2.length nc2, .slice xa2 xs2.length xc2] #[.int .i64 0, .int .i64 0, .string ⟨#[]⟩, .slice none 0 0, .slice none 0 0])
  have hrl : decide ((r.length : Int) + 1 = 0) = false := by rw [decide_eq_false_iff_not]; omega
  have hrl2 : (0 : Int) < (r.length : Int) + 1 := by omega
  go_enter Tryd.func48, Tryd.ntmps48
  go_upto_region 1 with fail
  generalize (((w.alloc (.cells #[.int .i64 k, .int .i64 n, .string s, .slice na ns.length nc, .slice xa xs.length xc] 25)).alloc (.cells #[.int .i64 k2, .int .i64 n2, .string s2, .slice na2 ns2.length nc2, .slice xa2 xs2.length xc2] 25)).alloc (.cells #[.int .i64 0, .int .i64 0, .string ⟨#[]⟩, .slice none 0 0, .slice none 0 0] 25)) = W3 at *
  have hp3 := cell_later hp HB3.out
  obtain ⟨a0, a1, a2, a3, a4⟩ := bx5 HT.out.h0
  have hq0 := fun d os => cell_regrown a0 d os
  have hq1 := fun d os => cell_regrown a1 d os
  have hq2 := fun d os => cell_regrown a2 d os
  have hq3 := fun d os => cell_regrown a3 d os
  have hq4 := fun d os => cell_regrown a4 d os
  have hq5 := fun d os => cell_regrown hp3 d os
  go_upto_region 3 with fail
  refine wp_region_quiet_below (by kernel_rfl) (by kernel_rfl) ?_
  repeat (go_big_quiet_step (exact Calls.regrown_of (FI.out _ (HB3.out.trans ((below_regrown _ _ _).mono HB3.out.size)))))
  refine wpQuiet_nil ?_
  intro _ hw'
  obtain ⟨⟨dq, osq⟩, hw''⟩ := hw'
  subst hw''
  have hbq := below_regrown W3 dq osq
  clear hq0 hq1 hq2 hq3 hq4 hq5
  generalize Go.Sort.grow (redrawn W3 dq) osq = w3 at *
  have HT3 := Lib.hid (HT.out.later (B := W3.heap.size) hbq (by have := block_lt HT.out.h2; omega))
  have HB4 := Lib.hid (HB3.out.trans (hbq.mono HB3.out.size))
  clear a0 a1 a2 a3 a4 hbq HB3 HT hp3
  obtain ⟨a0, a1, a2, a3, a4⟩ := bx5 HT3.out.h0
  obtain ⟨b0, b1, b2, b3, b4⟩ := bx5 HT3.out.h1
  go_wp2_with fail
  refine (MORE.out _ HB4.out).mono ?_
  rintro e w4 ⟨hb5, hend⟩
  have HT4 := Lib.hid (HT3.out.later (B := w3.heap.size) hb5 (by have := block_lt HT3.out.h2; omega))
  have HB5 := Lib.hid (HB4.out.trans (hb5.mono HB4.out.size))
  clear a0 a1 a2 a3 a4 b0 b1 b2 b3 b4 hb5
  obtain ⟨c0, c1, c2, c3, c4⟩ := bx5 HT4.out.h2
  obtain ⟨f0, f1, f2, f3, f4⟩ := fz5 HT4.out.h2
  cases R with
  | none =>
    simp only [AV.zero, AV.val, AV.row] at hend
    subst hend
    go_wp2_with fail
    have hfin := below_five HB5.out (b := w.heap.size + 1 + 1) (by omega) (.int .i64 0) (.int .i64 0) (.string ⟨#[]⟩) (.slice none 0 0) (.slice none 0 0)
    refine bodyPost_ret (v := .tuple #[.agg #[.int .i64 0, .int .i64 0, .string ⟨#[]⟩, .slice none 0 0, .slice none 0 0], .int .i64 4]) (by simp [results, Tryd.results48, go_sem, c0, c1, c2, c3, c4]) rfl ⟨hfin, rfl⟩
  | some z =>
    obtain ⟨z', rfl, hzin, hze⟩ := hend
    have HZIN := Lib.hid hzin
    have HZE := Lib.hid hze
    clear hzin hze
    obtain ⟨k3, n3, s3, na3, nc3, ns3, xa3, xc3, xs3⟩ := z'
    simp only [AV.val, AV.row]
    go_wp2_with fail
    have hB : Below w4.heap.size w4 w4 := Below.refl _ _
    have hfin := below_five HB5.out (b := w.heap.size + 1 + 1) (by omega) (.int .i64 k3) (.int .i64 n3) (.string s3) (.slice na3 ns3.length nc3) (.slice xa3 xs3.length xc3)
    refine bodyPost_ret (v := .tuple #[.agg #[.int .i64 k3, .int .i64 n3, .string s3, .slice na3 ns3.length nc3, .slice xa3 xs3.length xc3], .int .i64 0]) (by simp [results, Tryd.results48, go_sem, c0, c1, c2, c3, c4]) rfl ⟨hfin, _, rfl, ?_, HZE.out⟩
    refine (HZIN.out.mono (C' := w3.heap.size) (Nat.le_refl _)).kept (fun a h1 h2 => ?_) (Nat.le_of_eq (by simp)) |>.mono HB4.out.size
    have h3 := HS0.out
    have h4 := block_lt HT3.out.h2
    rw [World.cell?_setCell_far _ _ _ _ (by simp; omega), World.cell?_setCell_far _ _ _ _ (by simp; omega), World.cell?_setCell_far _ _ _ _ (by simp; omega), World.cell?_setCell_far _ _ _ _ (by simp; omega), World.cell?_setCell_far _ _ _ _ (by simp; omega)]
end Go.Proofs.YtijibjdgnaphiaaDoor
