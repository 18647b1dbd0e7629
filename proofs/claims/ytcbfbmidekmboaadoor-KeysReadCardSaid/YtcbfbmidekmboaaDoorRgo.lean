/- The members of an object read, whatever the bytes are: what the program's call answers; no condition of ours. -/
import Derived.Test.YtcbfbmidekmboaaDoorRgm
import Derived.Test.YtcbfbmidekmboaaDoorRdo
namespace Go.Proofs.YtcbfbmidekmboaaDoor
open Go.ChangeShapes Go.WideShapes Go.Deep Go.RowKit Go.Lib

/-- What the call that reads the members of an object answers. -/
def MembersSome (p : Nat) (bs b : List UInt8) (w : World) : Ending → World → Prop := fun e w' => Kept p w w' ∧ ((∃ ma m mc ya n yc, e = .returned (.tuple #[.slice ma m mc, .slice ya n yc, .bool false]) ∧ ∃ r, At p bs r w') ∨
  (∃ ma mc ya yc, ∃ (ns : List ByteArray) (ys : List AV) (r : List UInt8), e = .returned (.tuple #[.slice ma ns.length mc, .slice ya ys.length yc, .bool true]) ∧ ns.length = ys.length ∧ (∀ y ∈ ns, y.size ≤ 60) ∧ b = AV.keyAll true ns ys ++ ([0] ++ r) ∧
    w'.ownsRow w.heap.size 9 1 (.slice ma ns.length mc) ns.length (ns.map Value.string) ∧ Row w.heap.size (.slice ma ns.length mc) ya yc ys w' ∧ At p bs r w'))

theorem keyAll_snoc2 (y : ByteArray) (x : AV) : ∀ (ns : List ByteArray) (ys : List AV), ns.length = ys.length → AV.keyAll true (ns ++ [y]) (ys ++ [x]) = AV.keyAll true ns ys ++ (1 :: textL y.data.toList ++ AV.key x)
  | [], [], _ => by simp [AV.keyAll]
  | n :: ns, z :: ys, h => by
    rw [List.cons_append, List.cons_append, AV.keyAll, AV.keyAll]
    simp only [List.headD_cons, List.tail_cons]
    rw [keyAll_snoc2 y x ns ys (by simpa using h)]
    simp

set_option maxHeartbeats 4000000 in
set_option maxRecDepth 100000 in
theorem members_gen (w0 w : World) (p : Nat) (nb : Option Addr) (cb : Nat) (bs b : List UInt8) (lv : Nat) (hS : Src w0 p nb bs w) (hat : At p bs b w) (IH : RdAll lv) :
    Calls Tryd.prog 58 #[.slice nb bs.length cb, .pointer (some ⟨p, 0, none⟩), .int .i64 (lv : Int)] w (MembersSome p bs b w) := by
  have HS := Lib.hid hS
  have HPL := Lib.hid hat.lt
  have HAT := Lib.hid hat
  have HIH := Lib.hid IH
  clear hS hat IH
  go_enter Tryd.func58, Tryd.ntmps58
  go_wp2_with fail
  go_loopg [9, 10] 25 (fun g m v wr => ∃ (ma : Option Addr) (mc : Nat) (ms : List ByteArray) (ya : Option Addr) (yc : Nat) (ys : List AV) (rest : List UInt8), ys.length + g = 25 ∧ ys.length ≤ 24 ∧ ms.length = ys.length ∧ (∀ y ∈ ms, y.size ≤ 60) ∧ m = .slice ma ms.length mc ∧ v = .slice ya ys.length yc ∧
    wr.ownsRow w.heap.size 9 1 (.slice ma ms.length mc) ms.length (ms.map Value.string) ∧ Row w.heap.size (.slice ma ms.length mc) ya yc ys wr ∧ b = AV.keyAll true ms ys ++ rest ∧ At p bs rest wr ∧ Kept p w wr)
  case atStart => exact ⟨none, 0, [], none, 0, [], b, by simp, by simp, rfl, by simp, rfl, rfl, World.ownsRow_nil _ _ _ _, Row.nil _ _ _, by simp [AV.keyAll], HAT.out, Kept.refl _ _⟩
  case round =>
    obtain ⟨ma, mc, ms, ya, yc, ys, rest, hg, h24, hml, hms, rfl, rfl, hown, hrow, hb, hat, hk⟩ := hrel
    have HG := Lib.hid hg
    have H24 := Lib.hid h24
    have HML := Lib.hid hml
    have HMS := Lib.hid hms
    have HOWN := Lib.hid hown
    have HROW := Lib.hid hrow
    have HB := Lib.hid hb
    have HK := Lib.hid hk
    clear hg h24 hrow hb hml hms hown
    cases rest with
    | nil =>
      have ENDS := Lib.hid (ends_none wr p nb cb bs ys.length hat)
      have HA := Lib.hid hat
      clear hat hk
      go_wp2_with fail
      refine (ENDS.out).mono ?_
      rintro e w1 ⟨rfl, rfl⟩
      go_wp2_with fail
      refine bodyPost_ret (v := .tuple #[.slice ma ms.length mc, .slice ya ys.length yc, .bool false]) (by simp [results, Tryd.results58, go_sem]) rfl ⟨HK.out, .inl ⟨_, _, _, _, _, _, rfl, _, HA.out⟩⟩
    | cons c rest =>
      by_cases h0 : c = 0
      · subst h0
        have ENDS := Lib.hid (ends_over w0 wr p nb cb bs rest ys.length (HS.out.kept hk) hat)
        clear hat hk
        go_wp2_with fail
        refine (ENDS.out).mono ?_
        rintro e w1 ⟨rfl, hat1, hk1⟩
        have HA1 := Lib.hid hat1
        have HR1 := Lib.hid (HROW.out.step hk1 HPL.out)
        have HO1 := Lib.hid (row_step HOWN.out hk1 HPL.out)
        have HK1 := Lib.hid (HK.out.trans hk1)
        clear hat1 hk1
        go_wp2_with fail
        refine bodyPost_ret (v := .tuple #[.slice ma ms.length mc, .slice ya ys.length yc, .bool true]) (by simp [results, Tryd.results58, go_sem]) rfl ⟨HK1.out, .inr ⟨ma, mc, ya, yc, ms, ys, rest, rfl, HML.out, HMS.out, HB.out, HO1.out, HR1.out, HA1.out⟩⟩
      by_cases hn : ys.length < 24
      rotate_left
      · have ENDS := Lib.hid (ends_stop w0 wr p nb cb bs rest c ys.length (HS.out.kept hk) hat h0 hn)
        have HA := Lib.hid hat
        clear hat hk h0 hn
        go_wp2_with fail
        refine (ENDS.out).mono ?_
        rintro e w1 ⟨rfl, rfl⟩
        go_wp2_with fail
        refine bodyPost_ret (v := .tuple #[.slice ma ms.length mc, .slice ya ys.length yc, .bool false]) (by simp [results, Tryd.results58, go_sem]) rfl ⟨HK.out, .inl ⟨_, _, _, _, _, _, rfl, _, HA.out⟩⟩
      have ENDS := Lib.hid (ends_more w0 wr p nb cb bs rest c ys.length (HS.out.kept hk) hat h0 hn)
      have CALL := Lib.hid (fun W (h1 : Kept p wr W) (h2 : At p bs (c :: rest) W) => member_gen w0 W p nb cb bs _ lv ((HS.out.kept hk).kept h1) h2 HIH.out)
      have HY24 := Lib.hid hn
      have HM24 : Hid (ms.length < 24) := Lib.hid (by have := HML.out; omega)
      clear hat hk h0 hn
      go_wp2_with fail
      refine (ENDS.out).mono ?_
      rintro e w1 ⟨rfl, hat1, hk1⟩
      have HA1 := Lib.hid hat1
      have HQ1 := Lib.hid hk1
      have HR1 := Lib.hid (HROW.out.step hk1 HPL.out)
      have HO1 := Lib.hid (row_step HOWN.out hk1 HPL.out)
      have HK1 := Lib.hid (HK.out.trans hk1)
      clear hat1 hk1
      go_wp2_with fail
      refine (CALL.out w1 HQ1.out HA1.out).mono ?_
      rintro e w2 ⟨hk2, hcase⟩
      rcases hcase with ⟨y, u, rfl, r, hat2⟩ | ⟨y, u, r, rfl, hy60, hkey, hat2, hlies⟩
      · have HA2 := Lib.hid (hat2.later (w' := w2.alloc (.cells u.row.toArray 25)) ((Below.refl _ _).alloc (Nat.le_refl _) _))
        have HK2 := Lib.hid ((HK1.out.trans hk2).alloc (.cells u.row.toArray 25))
        obtain ⟨k', n', s', na', nc', ns', xa', xc', xs'⟩ := u
        clear hat2 hk2
        simp only [AV.val, AV.row] at HA2 HK2 ⊢
        go_wp2_with fail
        refine bodyPost_ret (v := .tuple #[.slice none 0 0, .slice none 0 0, .bool false]) (by simp [results, Tryd.results58, go_sem]) rfl ⟨HK2.out, .inl ⟨_, _, _, _, _, _, rfl, _, HA2.out⟩⟩
      · have HR2 := Lib.hid (HR1.out.step hk2 HPL.out)
        have HO2 := Lib.hid (row_step HO1.out hk2 HPL.out)
        have HF := Lib.hid (own_lt (C := w1.heap.size) (D := w2.heap.size) HR1.out.own (Nat.le_refl _))
        have HFM := Lib.hid (own_lt (C := w1.heap.size) (D := w2.heap.size) HO1.out (Nat.le_refl _))
        have HBN : Hid (b = AV.keyAll true (ms ++ [y]) (ys ++ [u]) ++ r) := Lib.hid (by rw [HB.out, keyAll_snoc2 y u ms ys HML.out, hkey]; simp)
        have HMN : Hid (∀ z ∈ ms ++ [y], z.size ≤ 60) := Lib.hid (fun z hz => by
          rcases List.mem_append.1 hz with hz | hz
          · exact HMS.out z hz
          · obtain rfl : z = y := by simpa using hz
            exact hy60)
        have HA2 := Lib.hid hat2
        have HK2 := Lib.hid (HK1.out.trans hk2)
        have hz1 : w.heap.size ≤ w1.heap.size := HK1.out.size
        have HZ2 := Lib.hid hk2.size
        obtain ⟨k', n', s', na', nc', ns', xa', xc', xs'⟩ := u
        have HLI := Lib.hid hlies
        clear hat2 hk2 hlies hkey hy60
        simp only [AV.val, AV.row]
        go_wp2_with (at_builtin; refine wpList_name rfl _ _ rfl HO2.out HR2.out (Nat.le_trans hz1 HZ2.out) rfl y rfl HM24.out ?_)
        intro ma3 mc3 W3 hown3 hrow3 hb3 hkeep hnext
        have hnb : ∀ k, w1.heap.size ≤ k → some k ≠ (Value.slice ma ms.length mc).ownBlock := fun k hk e => by
          have := (HO1.out.lt k e.symm).2
          omega
        have hz2 := HZ2.out
        have HB3 := Lib.hid ((hkeep w2.heap.size (by simp) (hnb _ hz2)).trans (heap_alloc_new w2 _))
        have hl3 := HLI.out.later (w' := W3) fun k hC hD => (hkeep k (by omega) (hnb _ hC)).trans (Lib.alloc_old w2 _ k hD)
        have hf3 : Free w1.heap.size w2.heap.size (.slice ma3 (ms.length + 1) mc3) := fun g e => by
          rcases hnext with hnext | hnext
          · exact HFM.out g (by rw [← hnext]; exact e)
          · exact .inr (hnext g e)
        have HL3 := Lib.hid hl3
        have HF3 := Lib.hid hf3
        have HO3 := Lib.hid hown3
        have HR3 := Lib.hid hrow3
        have HA3 := Lib.hid (HA2.out.through hb3 HPL.out)
        have HK3 := Lib.hid (HK2.out.grow hb3)
        have HZ3 := Lib.hid hb3.size
        obtain ⟨a0, a1, a2, a3, a4⟩ := box_cells HB3.out
        clear hown3 hrow3 hb3 hkeep hnext hnb hl3 hf3
        go_wp2_with (at_builtin; refine wpList_val1 rfl _ _ rfl HR3.out (Nat.le_trans hz1 (Nat.le_trans HZ2.out HZ3.out)) HO3.out rfl (AV.mk k' n' s' na' nc' ns' xa' xc' xs') _ rfl rfl HL3.out hz1 HZ3.out HF.out HF3.out HY24.out ?_)
        intro ya4 yc4 W4 hR4 hb4 hO4
        have HR4 : Hid (Row w.heap.size (.slice ma3 (ms.length + 1) mc3) ya4 yc4 (ys ++ [AV.mk k' n' s' na' nc' ns' xa' xc' xs']) W4) := Lib.hid hR4
        have HO4 := Lib.hid hO4
        have HA4 := Lib.hid (HA3.out.through hb4 HPL.out)
        have HK4 := Lib.hid (HK3.out.grow hb4)
        clear hR4 hb4 hO4 a0 a1 a2 a3 a4
        go_wp2_with fail
        go_roundg (gk - 1)
        case measure => have := HG.out; have := HY24.out; omega
        case rel => exact ⟨ma3, mc3, ms ++ [y], ya4, yc4, _, r, by have := HG.out; have := HY24.out; simp; omega, by have := HY24.out; simp; omega, by have := HML.out; simp; omega, HMN.out, by simp, by simp, by have := HO4.out; simpa using this, by have := HR4.out; simpa using this, HBN.out, HA4.out, HK4.out⟩
end Go.Proofs.YtcbfbmidekmboaaDoor
