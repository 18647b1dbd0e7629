/- The members of an array read, whatever the bytes are: what the program's call answers; no condition of ours. -/
import Derived.Test.YtcbfbmidekmboaaDoorRno
import Derived.Test.YtcbfbmidekmboaaDoorGrow
namespace Go.Proofs.YtcbfbmidekmboaaDoor
open Go.ChangeShapes Go.WideShapes Go.Deep Go.RowKit Go.Lib

/-- What the call that reads a value answers: none, or one whose key the bytes begin with. -/
def ValueSome (p : Nat) (bs b : List UInt8) (w : World) : Ending → World → Prop := fun e w' => Kept p w w' ∧ ((∃ u : AV, e = .returned (.tuple #[u.val, .bool false]) ∧ ∃ r, At p bs r w') ∨
  (∃ (u : AV) (r : List UInt8), e = .returned (.tuple #[u.val, .bool true]) ∧ b = AV.key u ++ r ∧ At p bs r w' ∧ u.Lies w.heap.size w'.heap.size w'))

/-- What is asked of the call at so many levels. -/
def RdAll (lv : Nat) : Prop := ∀ (w0 w : World) (p : Nat) (nb : Option Addr) (cb : Nat) (bs b : List UInt8), Src w0 p nb bs w → At p bs b w →
  Calls Tryd.prog 42 #[.slice nb bs.length cb, .pointer (some ⟨p, 0, none⟩), .int .i64 (lv : Int)] w (ValueSome p bs b w)

/-- What the call that reads the members of an array answers. -/
def ItemsSome (p : Nat) (bs b : List UInt8) (w : World) : Ending → World → Prop := fun e w' => Kept p w w' ∧ ((∃ ya n yc, e = .returned (.tuple #[.slice ya n yc, .bool false]) ∧ ∃ r, At p bs r w') ∨
  (∃ ya yc ys u r, e = .returned (.tuple #[.slice ya ys.length yc, .bool true]) ∧ b = AV.keyAll false [] ys ++ ([0] ++ r) ∧ Row w.heap.size u ya yc ys w' ∧ At p bs r w'))

theorem keyAll_snoc (x : AV) : ∀ ys : List AV, AV.keyAll false [] (ys ++ [x]) = AV.keyAll false [] ys ++ AV.key x
  | [] => by simp [AV.keyAll]
  | y :: ys => by
    rw [List.cons_append, AV.keyAll, AV.keyAll, List.tail_nil, keyAll_snoc x ys]
    simp

set_option maxHeartbeats 4000000 in
set_option maxRecDepth 100000 in
theorem items_gen (w0 w : World) (p : Nat) (nb : Option Addr) (cb : Nat) (bs b : List UInt8) (lv : Nat) (hS : Src w0 p nb bs w) (hat : At p bs b w) (IH : RdAll lv) :
    Calls Tryd.prog 57 #[.slice nb bs.length cb, .pointer (some ⟨p, 0, none⟩), .int .i64 (lv : Int)] w (ItemsSome p bs b w) := by
  have HS := Lib.hid hS
  have HPL := Lib.hid hat.lt
  have HAT := Lib.hid hat
  have HIH := Lib.hid IH
  clear hS hat IH
  go_enter Tryd.func57, Tryd.ntmps57
  go_wp2_with fail
  go_loopg [8] 25 (fun g v wr => ∃ (ya : Option Addr) (yc : Nat) (ys : List AV) (rest : List UInt8), ys.length + g = 25 ∧ ys.length ≤ 24 ∧ v = .slice ya ys.length yc ∧ Row w.heap.size (.slice none 0 0) ya yc ys wr ∧ b = AV.keyAll false [] ys ++ rest ∧ At p bs rest wr ∧ Kept p w wr)
  case atStart => exact ⟨none, 0, [], b, by simp, by simp, rfl, Row.nil _ _ _, by simp [AV.keyAll], HAT.out, Kept.refl _ _⟩
  case round =>
    obtain ⟨ya, yc, ys, rest, hg, h24, rfl, hrow, hb, hat, hk⟩ := hrel
    have HG := Lib.hid hg
    have H24 := Lib.hid h24
    have HROW := Lib.hid hrow
    have HB := Lib.hid hb
    have HK := Lib.hid hk
    clear hg h24 hrow hb
    cases rest with
    | nil =>
      have ENDS := Lib.hid (ends_none wr p nb cb bs ys.length hat)
      have HA := Lib.hid hat
      clear hat hk
      go_wp2_with fail
      refine (ENDS.out).mono ?_
      rintro e w1 ⟨rfl, rfl⟩
      go_wp2_with fail
      go_ret2
      exact ⟨HK.out, .inl ⟨_, _, _, rfl, _, HA.out⟩⟩
    | cons c rest =>
      by_cases h0 : c = 0
      · subst h0
        have ENDS := Lib.hid (ends_over w0 wr p nb cb bs rest ys.length (HS.out.kept hk) hat)
        clear hat hk
        go_wp2_with fail
        refine (ENDS.out).mono ?_
        rintro e w1 ⟨rfl, hat1, hk1⟩
        have HA1 := Lib.hid hat1
        have HR1 := Lib.hid (HROW.out.step hk1 HPL.out)
        have HK1 := Lib.hid (HK.out.trans hk1)
        clear hat1 hk1
        go_wp2_with fail
        go_ret2
        exact ⟨HK1.out, .inr ⟨ya, yc, ys, _, rest, rfl, HB.out, HR1.out, HA1.out⟩⟩
      by_cases hn : ys.length < 24
      rotate_left
      · have ENDS := Lib.hid (ends_stop w0 wr p nb cb bs rest c ys.length (HS.out.kept hk) hat h0 hn)
        have HA := Lib.hid hat
        clear hat hk h0 hn
        go_wp2_with fail
        refine (ENDS.out).mono ?_
        rintro e w1 ⟨rfl, rfl⟩
        go_wp2_with fail
        go_ret2
        exact ⟨HK.out, .inl ⟨_, _, _, rfl, _, HA.out⟩⟩
      have ENDS := Lib.hid (ends_more w0 wr p nb cb bs rest c ys.length (HS.out.kept hk) hat h0 hn)
      have CALL := Lib.hid (fun W (h1 : Kept p wr W) (h2 : At p bs (c :: rest) W) => HIH.out w0 W p nb cb bs _ ((HS.out.kept hk).kept h1) h2)
      have HY24 := Lib.hid hn
      clear hat hk h0 hn
      go_wp2_with fail
      refine (ENDS.out).mono ?_
      rintro e w1 ⟨rfl, hat1, hk1⟩
      have HA1 := Lib.hid hat1
      have HQ1 := Lib.hid hk1
      have HR1 := Lib.hid (HROW.out.step hk1 HPL.out)
      have HK1 := Lib.hid (HK.out.trans hk1)
      clear hat1 hk1
      go_wp2_with fail
      refine (CALL.out w1 HQ1.out HA1.out).mono ?_
      rintro e w2 ⟨hk2, hcase⟩
      rcases hcase with ⟨u, rfl, r, hat2⟩ | ⟨u, r, rfl, hkey, hat2, hlies⟩
      · have HA2 := Lib.hid (hat2.later (w' := w2.alloc (.cells u.row.toArray 25)) ((Below.refl _ _).alloc (Nat.le_refl _) _))
        have HK2 := Lib.hid ((HK1.out.trans hk2).alloc (.cells u.row.toArray 25))
        obtain ⟨k', n', s', na', nc', ns', xa', xc', xs'⟩ := u
        clear hat2 hk2
        simp only [AV.val, AV.row] at HA2 HK2 ⊢
        go_wp2_with fail
        go_ret2
        exact ⟨HK2.out, .inl ⟨_, _, _, rfl, _, HA2.out⟩⟩
      · have HR2 := Lib.hid (HR1.out.step hk2 HPL.out)
        have HF := Lib.hid (own_lt (C := w1.heap.size) (D := w2.heap.size) HR1.out.own (Nat.le_refl _))
        have HBN : Hid (b = AV.keyAll false [] (ys ++ [u]) ++ r) := Lib.hid (by rw [HB.out, keyAll_snoc, List.append_assoc, ← hkey])
        have HA2 := Lib.hid hat2
        have HK2 := Lib.hid (HK1.out.trans hk2)
        have hz1 : w.heap.size ≤ w1.heap.size := HK1.out.size
        have HZ2 := Lib.hid hk2.size
        obtain ⟨k', n', s', na', nc', ns', xa', xc', xs'⟩ := u
        have HLI := Lib.hid hlies
        clear hat2 hk2 hlies hkey
        simp only [AV.val, AV.row]
        go_wp2_with (at_builtin; refine wpList_val2 rfl _ _ rfl HR2.out (Nat.le_trans hz1 HZ2.out) rfl (AV.mk k' n' s' na' nc' ns' xa' xc' xs') _ rfl rfl HLI.out hz1 (Nat.le_refl _) HF.out (fun g hg => by cases hg) HY24.out ?_)
        intro ya3 yc3 W3 hR3 hb3
        have HR3 : Hid (Row w.heap.size (.slice none 0 0) ya3 yc3 (ys ++ [AV.mk k' n' s' na' nc' ns' xa' xc' xs']) W3) := Lib.hid hR3
        have HA3 := Lib.hid (HA2.out.through hb3 HPL.out)
        have HK3 := Lib.hid (HK2.out.grow hb3)
        clear hR3 hb3
        go_wp2_with fail
        go_roundg (gk - 1)
        case measure => have := HG.out; have := HY24.out; omega
        case rel => exact ⟨ya3, yc3, _, r, by have := HG.out; have := HY24.out; simp; omega, by have := HY24.out; simp; omega, by simp, HR3.out, HBN.out, HA3.out, HK3.out⟩
end Go.Proofs.YtcbfbmidekmboaaDoor
