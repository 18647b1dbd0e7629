/- A value's key by the program: what Key answers, formed or not; no condition of ours. -/
/- The program is awake: what the statements' own call answers; no condition of ours. -/
import Derived.Test.YtcbfbmidekmboaaDoorAppv
import Derived.Test.YtcbfbmidekmboaaDoorKeyn
import Derived.Test.YtcbfbmidekmboaaDoorRtext
namespace Go.Proofs.YtcbfbmidekmboaaDoor
open Go.ChangeShapes Go.WideShapes Go.Deep Go.RowKit Go.Lib

/-- What Key answers: bytes, and how it ended. -/
def keyR (t : AV) : List UInt8 := if AV.formedJ t 6 then AV.key t else []
def keyE (t : AV) : Int := if AV.formedJ t 6 then 0 else 2

theorem key_max {t : AV} (h : AV.formedJ t 6 = true) : (AV.key t).length ≤ 819200000000 := key_bound t 6 h

/-- Bytes, and how it ended. -/
def KeyGave (t : AV) (w : World) : Ending → World → Prop := fun e w' => ∃ na cap, e = .returned (.tuple #[.slice na (keyR t).length cap, .int .i64 (keyE t)]) ∧ BytesIn w' na (keyR t) ∧ Below w.heap.size w w'

theorem bytesRow_cap {w : World} {B : Nat} {na : Option Addr} {n cap : Nat} {xs : List Value} (h : w.ownsRow B 5 1 (.slice na n cap) n xs) : n ≤ cap := by
  rcases h.2 with ⟨hv, h0⟩ | ⟨g, cap', cur, hv, _, _, hc, _⟩
  · omega
  · simp only [Value.slice.injEq, true_and] at hv
    omega

set_option maxHeartbeats 4000000 in
set_option maxRecDepth 100000 in
theorem Key_full (t : AV) (w : World) (hin : t.In w) (hT : Tabs w) : Calls Tryd.prog 11 #[t.val] w fun e w' => ∃ na cap, e = .returned (.tuple #[.slice na (keyR t).length cap, .int .i64 (keyE t)]) ∧ BytesIn w' na (keyR t) ∧ Below w.heap.size w w' ∧ (keyR t).length ≤ cap := by
  have FORM := Lib.hid (fun W (hW : Below w.heap.size w W) => Formed_any t W (hin.below hW (Nat.le_refl _)) (hT.later hW))
  unfold keyR keyE
  by_cases hf : AV.formedJ t 6 = true
  · rw [if_pos hf, if_pos hf]
    simp only [hf] at FORM
    have CALL := Lib.hid (fun W (hW : Below w.heap.size w W) => app_any t w W W.heap.size none 0 [] 6 hin hW hW.size (Nat.le_refl _) (World.ownsRow_nil _ _ _ _) hf (by have := key_max hf; simp; omega))
    obtain ⟨R, hR⟩ : ∃ R, AV.key t = R := ⟨_, rfl⟩
    rw [hR]
    simp only [hR, List.nil_append, List.length_nil] at CALL
    clear hin hT hf hR
    obtain ⟨k, n, s, na, nc, ns, xa, xc, xs⟩ := t
    simp only [AV.val, AV.row] at CALL FORM ⊢
    have hb0 : Below w.heap.size w (w.alloc (.cells #[.int .i64 k, .int .i64 n, .string s, .slice na ns.length nc, .slice xa xs.length xc] 25)) := (Below.refl _ _).alloc (Nat.le_refl _) _
    have hbx : (w.alloc (.cells #[.int .i64 k, .int .i64 n, .string s, .slice na ns.length nc, .slice xa xs.length xc] 25)).heap[w.heap.size]? = some (.cells #[.int .i64 k, .int .i64 n, .string s, .slice na ns.length nc, .slice xa xs.length xc] 25 (0, 0)) := heap_alloc_new w _
    have HBX := Lib.hid hbx
    clear hbx
    go_enter Tryd.func11, Tryd.ntmps11
    go_wp2_with fail
    generalize w.alloc (.cells #[.int .i64 k, .int .i64 n, .string s, .slice na ns.length nc, .slice xa xs.length xc] 25) = W0 at *
    refine (FORM.out _ hb0).mono ?_
    rintro e W1 ⟨rfl, hb1⟩
    obtain ⟨c0, c1, c2, c3, c4⟩ := box_cells (box_later HBX.out hb1)
    have hb2 := hb0.trans (hb1.mono hb0.size)
    go_wp2_with fail
    refine (CALL.out _ hb2).mono ?_
    rintro e W2 ⟨nb, cb, rfl, hW2⟩
    have HO := Lib.hid (BytesIn.of hW2.own)
    have HC := Lib.hid (bytesRow_cap hW2.own)
    have hb3 := hb2.trans (hW2.below.mono hb2.size)
    clear hW2
    go_wp2_with fail
    go_ret2
    exact ⟨nb, cb, rfl, HO.out, hb3, HC.out⟩
  · have hf' : AV.formedJ t 6 = false := by simpa using hf
    rw [if_neg hf, if_neg hf]
    simp only [hf'] at FORM
    clear hin hT hf hf'
    obtain ⟨k, n, s, na, nc, ns, xa, xc, xs⟩ := t
    simp only [AV.val, AV.row] at FORM ⊢
    have hb0 : Below w.heap.size w (w.alloc (.cells #[.int .i64 k, .int .i64 n, .string s, .slice na ns.length nc, .slice xa xs.length xc] 25)) := (Below.refl _ _).alloc (Nat.le_refl _) _
    go_enter Tryd.func11, Tryd.ntmps11
    go_wp2_with fail
    refine (FORM.out _ hb0).mono ?_
    rintro e W1 ⟨rfl, hb1⟩
    go_wp2_with fail
    go_ret2
    exact ⟨none, 0, rfl, .inl rfl, hb0.trans (hb1.mono hb0.size), Nat.le_refl _⟩

theorem Key_any (t : AV) (w : World) (hin : t.In w) (hT : Tabs w) : Calls Tryd.prog 11 #[t.val] w (KeyGave t w) :=
  (Key_full t w hin hT).mono fun _ _ ⟨na, cap, h1, h2, h3, _⟩ => ⟨na, cap, h1, h2, h3⟩
end Go.Proofs.YtcbfbmidekmboaaDoor

namespace Go.Proofs.YtcbfbmidekmboaaDoor
open Go.ChangeShapes Go.WideShapes Go.Deep Go.RowKit Go.Lib

/-- The text of one letter. -/
def AV.letA : AV := .mk 4 0 ⟨#[97]⟩ none 0 [] none 0 []

theorem letA_in (w : World) : AV.letA.In w := by
  rw [AV.letA, AV.In]
  exact ⟨by decide, by decide, by unfold maxLen; decide, by simp, by simp [maxLen], by simp, by simp [maxLen], by simp, .inl rfl, (fun b o e => by cases e), .inl rfl⟩

theorem letA_formed : AV.formedJ AV.letA 6 = true := by
  have h : textOk ⟨#[97]⟩ = true := by unfold textOk; decide
  simp [AV.letA, AV.formedJ, h]

theorem letA_key : AV.key AV.letA = [5, 97, 0, 0] := by
  simp [AV.letA, AV.key, textL, escL]

set_option maxHeartbeats 2000000 in
set_option maxRecDepth 100000 in
theorem awake_any (w : World) (hT : Tabs w) : Calls Tryd.prog 9 #[] w fun e w' => e = .returned (.bool true) ∧ Below w.heap.size w w' := by
  have CALL := Key_any AV.letA w (letA_in w) hT
  unfold KeyGave keyR keyE at CALL
  rw [if_pos letA_formed, if_pos letA_formed, letA_key] at CALL
  simp only [AV.letA, AV.val, AV.row] at CALL
  have CALL2 := Lib.hid CALL
  clear CALL hT
  go_enter Tryd.func9, Tryd.ntmps9
  go_wp2_with fail
  refine (CALL2.out).mono ?_
  rintro e w1 ⟨na, cap, rfl, hin, hb⟩
  obtain ⟨b, o, rfl, h⟩ := hin.resolve_left (by simp)
  have c0 : w1.cell? ⟨b, o, none⟩ = some (.int .u8 5) := h 0 (by simp)
  clear hin h
  go_wp2_with fail
  go_ret
  exact ⟨rfl, hb⟩
end Go.Proofs.YtcbfbmidekmboaaDoor
