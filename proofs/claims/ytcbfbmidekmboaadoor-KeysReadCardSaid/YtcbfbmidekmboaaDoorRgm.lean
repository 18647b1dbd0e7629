/- A member of an object read, whatever the bytes are: what the program's call answers; no condition of ours. -/
import Derived.Test.YtcbfbmidekmboaaDoorRgi
import Derived.Test.YtcbfbmidekmboaaDoorFewl
import Derived.RegionTactic
import Derived.BigRegion
namespace Go.Proofs.YtcbfbmidekmboaaDoor
open Go.ChangeShapes Go.WideShapes Go.Deep Go.RowKit Go.Lib

/-- What the call that reads a member answers. -/
def MemberSome (p : Nat) (bs b : List UInt8) (w : World) : Ending → World → Prop := fun e w' => Kept p w w' ∧ ((∃ (y : ByteArray) (u : AV), e = .returned (.tuple #[.string y, u.val, .bool false]) ∧ ∃ r, At p bs r w') ∨
  (∃ (y : ByteArray) (u : AV) (r : List UInt8), e = .returned (.tuple #[.string y, u.val, .bool true]) ∧ y.size ≤ 60 ∧ b = 1 :: (textL y.data.toList ++ (AV.key u ++ r)) ∧ At p bs r w' ∧ u.Lies w.heap.size w'.heap.size w'))

set_option maxHeartbeats 4000000 in
set_option maxRecDepth 100000 in
theorem member_gen (w0 w : World) (p : Nat) (nb : Option Addr) (cb : Nat) (bs b : List UInt8) (lv : Nat) (hS : Src w0 p nb bs w) (hat : At p bs b w) (IH : RdAll lv) :
    Calls Tryd.prog 66 #[.slice nb bs.length cb, .pointer (some ⟨p, 0, none⟩), .int .i64 (lv : Int)] w (MemberSome p bs b w) := by
  have HPL := Lib.hid hat.lt
  have hbz : Below w.heap.size w (w.alloc (.cells #[.int .i64 0, .int .i64 0, .string ⟨#[]⟩, .slice none 0 0, .slice none 0 0] 25)) := (Below.refl _ _).alloc (Nat.le_refl _) _
  have hkz : Kept p w (w.alloc (.cells #[.int .i64 0, .int .i64 0, .string ⟨#[]⟩, .slice none 0 0, .slice none 0 0] 25)) := Kept.of hbz
  have HKZ := Lib.hid hkz
  have HBX := Lib.hid (heap_alloc_new w (.cells #[.int .i64 0, .int .i64 0, .string ⟨#[]⟩, .slice none 0 0, .slice none 0 0] 25))
  have HIH := Lib.hid IH
  have HS := Lib.hid hS
  have HATZ := Lib.hid (hat.later hbz)
  clear hS hat IH hbz hkz
  cases b with
  | nil =>
    have CALL := Lib.hid (next_none _ p nb cb bs HATZ.out)
    obtain ⟨d0, d1, d2, d3, d4⟩ := box_cells HBX.out
    obtain ⟨f0, f1, f2, f3, f4⟩ := fz5 HBX.out
    go_enter Tryd.func66, Tryd.ntmps66
    go_wp2_with fail
    generalize w.alloc (.cells #[.int .i64 0, .int .i64 0, .string ⟨#[]⟩, .slice none 0 0, .slice none 0 0] 25) = W1 at *
    refine (CALL.out).mono ?_
    rintro e w1 ⟨rfl, rfl⟩
    go_wp2_with fail
    have hkf := (Kept.refl w.heap.size w1).five (.int .i64 0) (.int .i64 0) (.string ⟨#[]⟩) (.slice none 0 0) (.slice none 0 0)
    have hfb : (((((w1.setCell ⟨w.heap.size, 0, none⟩ (.int .i64 0)).setCell ⟨w.heap.size, 1, none⟩ (.int .i64 0)).setCell ⟨w.heap.size, 2, none⟩ (.string ⟨#[]⟩)).setCell ⟨w.heap.size, 3, none⟩ (.slice none 0 0)).setCell ⟨w.heap.size, 4, none⟩ (.slice none 0 0)).heap[w.heap.size]? = some (.cells #[.int .i64 0, .int .i64 0, .string ⟨#[]⟩, .slice none 0 0, .slice none 0 0] 25 (0, 0)) := five_box HBX.out (.int .i64 0) (.int .i64 0) (.string ⟨#[]⟩) (.slice none 0 0) (.slice none 0 0)
    obtain ⟨g0, g1, g2, g3, g4⟩ := box_cells hfb
    refine bodyPost_ret (v := .tuple #[.string ⟨#[]⟩, .agg #[.int .i64 0, .int .i64 0, .string ⟨#[]⟩, .slice none 0 0, .slice none 0 0], .bool false]) (by simp [results, Tryd.results66, go_sem, g0, g1, g2, g3, g4]) rfl ⟨HKZ.out.fresh hkf (Nat.le_refl _), .inl ⟨_, AV.num 0 0, rfl, _, HATZ.out.other hkf (by have := HPL.out; omega)⟩⟩
  | cons c b =>
    have NEXT := Lib.hid (next_any w0 _ p nb cb bs c _ (HS.out.kept HKZ.out) HATZ.out)
    by_cases h1 : c = 1
    rotate_left
    · have hz : ((c.toNat : Int) == 1) = false := by rw [beq_eq_false_iff_ne]; intro e; exact h1 (UInt8.toNat_inj.1 (by show c.toNat = 1; omega))
      have hz2 : ¬ (c.toNat : Int) = 1 := by simpa using hz
      have hz3 : ((c.toNat : Int) != 1) = true := by simpa using hz2
      clear h1
      go_enter Tryd.func66, Tryd.ntmps66
      go_wp2_with fail
      refine (NEXT.out).mono ?_
      rintro e w1 ⟨rfl, hat1, hk1⟩
      have HA1 := Lib.hid hat1
      have HB1 := Lib.hid (hk1.box HBX.out (by have := HPL.out; omega))
      have HK1 := Lib.hid (HKZ.out.trans hk1)
      obtain ⟨d0, d1, d2, d3, d4⟩ := box_cells HB1.out
      obtain ⟨f0, f1, f2, f3, f4⟩ := fz5 HB1.out
      clear hat1 hk1
      go_wp2_with fail
      have hkf := (Kept.refl w.heap.size w1).five (.int .i64 0) (.int .i64 0) (.string ⟨#[]⟩) (.slice none 0 0) (.slice none 0 0)
      have hfb : (((((w1.setCell ⟨w.heap.size, 0, none⟩ (.int .i64 0)).setCell ⟨w.heap.size, 1, none⟩ (.int .i64 0)).setCell ⟨w.heap.size, 2, none⟩ (.string ⟨#[]⟩)).setCell ⟨w.heap.size, 3, none⟩ (.slice none 0 0)).setCell ⟨w.heap.size, 4, none⟩ (.slice none 0 0)).heap[w.heap.size]? = some (.cells #[.int .i64 0, .int .i64 0, .string ⟨#[]⟩, .slice none 0 0, .slice none 0 0] 25 (0, 0)) := five_box HB1.out (.int .i64 0) (.int .i64 0) (.string ⟨#[]⟩) (.slice none 0 0) (.slice none 0 0)
      obtain ⟨g0, g1, g2, g3, g4⟩ := box_cells hfb
      refine bodyPost_ret (v := .tuple #[.string ⟨#[]⟩, .agg #[.int .i64 0, .int .i64 0, .string ⟨#[]⟩, .slice none 0 0, .slice none 0 0], .bool false]) (by simp [results, Tryd.results66, go_sem, g0, g1, g2, g3, g4]) rfl ⟨HK1.out.fresh hkf (Nat.le_refl _), .inl ⟨_, AV.num 0 0, rfl, _, HA1.out.other hkf (by have := HPL.out; omega)⟩⟩
    subst h1
    simp only [show (((1 : UInt8).toNat : Nat) : Int) = 1 from rfl] at NEXT
    by_cases ht : ∃ s r : List UInt8, s.length ≤ 60 ∧ b = textL s ++ r
    rotate_left
    · have TEXT := Lib.hid (fun W (h1 : Kept p w W) (h2 : At p bs b W) => readText_no w0 W p nb cb bs b (fun s r hl e => ht ⟨s, r, hl, e⟩) (HS.out.kept h1) h2)
      clear ht
      go_enter Tryd.func66, Tryd.ntmps66
      go_wp2_with fail
      refine (NEXT.out).mono ?_
      rintro e w1 ⟨rfl, hat1, hk1⟩
      have HA1 := Lib.hid hat1
      have HB1 := Lib.hid (hk1.box HBX.out (by have := HPL.out; omega))
      have HK1 := Lib.hid (HKZ.out.trans hk1)
      clear hat1 hk1
      go_wp2_with fail
      refine (TEXT.out w1 HK1.out HA1.out).mono ?_
      rintro e w2 ⟨rfl, ⟨r2, hat2⟩, hk2⟩
      have HA2 := Lib.hid hat2
      have HB2 := Lib.hid (hk2.box HB1.out (by have := HPL.out; omega))
      have HK2 := Lib.hid (HK1.out.trans hk2)
      obtain ⟨d0, d1, d2, d3, d4⟩ := box_cells HB2.out
      obtain ⟨f0, f1, f2, f3, f4⟩ := fz5 HB2.out
      clear hat2 hk2
      go_wp2_with fail
      have hkf := (Kept.refl w.heap.size w2).five (.int .i64 0) (.int .i64 0) (.string ⟨#[]⟩) (.slice none 0 0) (.slice none 0 0)
      have hfb : (((((w2.setCell ⟨w.heap.size, 0, none⟩ (.int .i64 0)).setCell ⟨w.heap.size, 1, none⟩ (.int .i64 0)).setCell ⟨w.heap.size, 2, none⟩ (.string ⟨#[]⟩)).setCell ⟨w.heap.size, 3, none⟩ (.slice none 0 0)).setCell ⟨w.heap.size, 4, none⟩ (.slice none 0 0)).heap[w.heap.size]? = some (.cells #[.int .i64 0, .int .i64 0, .string ⟨#[]⟩, .slice none 0 0, .slice none 0 0] 25 (0, 0)) := five_box HB2.out (.int .i64 0) (.int .i64 0) (.string ⟨#[]⟩) (.slice none 0 0) (.slice none 0 0)
      obtain ⟨g0, g1, g2, g3, g4⟩ := box_cells hfb
      refine bodyPost_ret (v := .tuple #[.string ⟨#[]⟩, .agg #[.int .i64 0, .int .i64 0, .string ⟨#[]⟩, .slice none 0 0, .slice none 0 0], .bool false]) (by simp [results, Tryd.results66, go_sem, g0, g1, g2, g3, g4]) rfl ⟨HK2.out.fresh hkf (Nat.le_refl _), .inl ⟨_, AV.num 0 0, rfl, _, HA2.out.other hkf (by have := HPL.out; omega)⟩⟩
    obtain ⟨s, r, hs, rfl⟩ := ht
    obtain ⟨y, hy, hy60⟩ : ∃ y : ByteArray, y.data.toList = s ∧ y.size ≤ 60 := ⟨⟨s.toArray⟩, rfl, hs⟩
    subst hy
    have TEXT := Lib.hid (fun W (h1 : Kept p w W) (h2 : At p bs (textL y.data.toList ++ r) W) => readText_any w0 W p nb cb bs r y hy60 (HS.out.kept h1) h2)
    have CALL := Lib.hid (fun W (h1 : Kept p w W) (h2 : At p bs r W) => HIH.out w0 W p nb cb bs r (HS.out.kept h1) h2)
    have HY := Lib.hid hy60
    clear hs hy60
    go_enter Tryd.func66, Tryd.ntmps66
    go_wp2_with fail
    refine (NEXT.out).mono ?_
    rintro e w1 ⟨rfl, hat1, hk1⟩
    have HA1 := Lib.hid hat1
    have HB1 := Lib.hid (hk1.box HBX.out (by have := HPL.out; omega))
    have HK1 := Lib.hid (HKZ.out.trans hk1)
    clear hat1 hk1
    go_wp2_with fail
    refine (TEXT.out w1 HK1.out HA1.out).mono ?_
    rintro e w2 ⟨rfl, hat2, hk2⟩
    have HA2 := Lib.hid hat2
    have HB2 := Lib.hid (hk2.box HB1.out (by have := HPL.out; omega))
    have HK2 := Lib.hid (HK1.out.trans hk2)
    clear hat2 hk2
    go_wp2_with fail
    refine (CALL.out w2 HK2.out HA2.out).mono ?_
    rintro e w3 ⟨hk3, hcase⟩
    have HB3 := Lib.hid (hk3.box HB2.out (by have := HPL.out; omega))
    have HK3 := Lib.hid (HK2.out.trans hk3)
    have hz2 : w.heap.size < w2.heap.size := (Array.getElem?_eq_some_iff.1 HB2.out).1
    have hz3 : w.heap.size < w3.heap.size := (Array.getElem?_eq_some_iff.1 HB3.out).1
    rcases hcase with ⟨u, rfl, r3, hat3⟩ | ⟨u, r3, rfl, hkey, hat3, hlies⟩
    · have HA3 := Lib.hid hat3
      clear hat3 hk3
      obtain ⟨k', n', s', na', nc', ns', xa', xc', xs'⟩ := u
      obtain ⟨d0, d1, d2, d3, d4⟩ := box_cells HB3.out
      obtain ⟨f0, f1, f2, f3, f4⟩ := fz5 HB3.out
      simp only [AV.val, AV.row]
      go_wp2_with fail
      go_region
      have hkf := (((Kept.refl w.heap.size w3).five (.int .i64 k') (.int .i64 n') (.string s') (.slice na' ns'.length nc') (.slice xa' xs'.length xc')).alloc (.cells #[.int .i64 k', .int .i64 n', .string s', .slice na' ns'.length nc', .slice xa' xs'.length xc'] 25)).drew
      have hpl := HPL.out
      have hfb : ((((((w3.setCell ⟨w.heap.size, 0, none⟩ (.int .i64 k')).setCell ⟨w.heap.size, 1, none⟩ (.int .i64 n')).setCell ⟨w.heap.size, 2, none⟩ (.string s')).setCell ⟨w.heap.size, 3, none⟩ (.slice na' ns'.length nc')).setCell ⟨w.heap.size, 4, none⟩ (.slice xa' xs'.length xc')).alloc (.cells #[.int .i64 k', .int .i64 n', .string s', .slice na' ns'.length nc', .slice xa' xs'.length xc'] 25)).drew.heap[w.heap.size]? = _ :=
        ((Lib.alloc_old _ _ _ (by simp [World.setCell]; omega)).trans (five_box HB3.out (.int .i64 k') (.int .i64 n') (.string s') (.slice na' ns'.length nc') (.slice xa' xs'.length xc')))
      obtain ⟨g0, g1, g2, g3, g4⟩ := box_cells hfb
      go_wp2_with fail
      refine bodyPost_ret (v := .tuple #[.string y, .agg #[.int .i64 k', .int .i64 n', .string s', .slice na' ns'.length nc', .slice xa' xs'.length xc'], .bool false]) (by simp [results, Tryd.results66, go_sem, g0, g1, g2, g3, g4]) rfl ⟨HK3.out.fresh hkf (Nat.le_refl _), .inl ⟨y, AV.mk k' n' s' na' nc' ns' xa' xc' xs', rfl, _, HA3.out.other hkf (by omega)⟩⟩
    · have HA3 := Lib.hid hat3
      have HL := Lib.hid hlies
      have HKEY := Lib.hid hkey
      clear hat3 hk3 hlies hkey
      obtain ⟨k', n', s', na', nc', ns', xa', xc', xs'⟩ := u
      obtain ⟨d0, d1, d2, d3, d4⟩ := box_cells HB3.out
      obtain ⟨f0, f1, f2, f3, f4⟩ := fz5 HB3.out
      simp only [AV.val, AV.row]
      go_wp2_with fail
      go_region
      have hkf := (((Kept.refl w.heap.size w3).five (.int .i64 k') (.int .i64 n') (.string s') (.slice na' ns'.length nc') (.slice xa' xs'.length xc')).alloc (.cells #[.int .i64 k', .int .i64 n', .string s', .slice na' ns'.length nc', .slice xa' xs'.length xc'] 25)).drew
      have hpl := HPL.out
      have hfb : ((((((w3.setCell ⟨w.heap.size, 0, none⟩ (.int .i64 k')).setCell ⟨w.heap.size, 1, none⟩ (.int .i64 n')).setCell ⟨w.heap.size, 2, none⟩ (.string s')).setCell ⟨w.heap.size, 3, none⟩ (.slice na' ns'.length nc')).setCell ⟨w.heap.size, 4, none⟩ (.slice xa' xs'.length xc')).alloc (.cells #[.int .i64 k', .int .i64 n', .string s', .slice na' ns'.length nc', .slice xa' xs'.length xc'] 25)).drew.heap[w.heap.size]? = _ :=
        ((Lib.alloc_old _ _ _ (by simp [World.setCell]; omega)).trans (five_box HB3.out (.int .i64 k') (.int .i64 n') (.string s') (.slice na' ns'.length nc') (.slice xa' xs'.length xc')))
      obtain ⟨g0, g1, g2, g3, g4⟩ := box_cells hfb
      go_wp2_with fail
      refine bodyPost_ret (v := .tuple #[.string y, .agg #[.int .i64 k', .int .i64 n', .string s', .slice na' ns'.length nc', .slice xa' xs'.length xc'], .bool true]) (by simp [results, Tryd.results66, go_sem, g0, g1, g2, g3, g4]) rfl ⟨HK3.out.fresh hkf (Nat.le_refl _), .inr ⟨_, _, r3, rfl, HY.out, by rw [HKEY.out], HA3.out.other hkf (by omega), (HL.out.later fun k hC hD => hkf.block k hD (by omega)).wider (by omega) hkf.size⟩⟩
end Go.Proofs.YtcbfbmidekmboaaDoor
