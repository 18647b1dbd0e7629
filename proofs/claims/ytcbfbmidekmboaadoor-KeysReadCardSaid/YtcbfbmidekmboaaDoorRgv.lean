/- A value read, whatever the bytes are: what the program's call answers where there is no list; no condition of ours. -/
import Derived.Test.YtcbfbmidekmboaaDoorRgi
import Derived.Test.YtcbfbmidekmboaaDoorRdv
import Derived.Test.YtcbfbmidekmboaaDoorFewl
namespace Go.Proofs.YtcbfbmidekmboaaDoor
open Go.ChangeShapes Go.WideShapes Go.Deep Go.RowKit Go.Lib

theorem some_of_gave {p : Nat} {bs b r : List UInt8} {t : AV} {w : World} {f : FuncId} {args : Array Value} (hleaf : t.items = []) (hb : b = AV.key t ++ r) (h : Calls Tryd.prog f args w (ValueGave p bs r t w)) : Calls Tryd.prog f args w (ValueSome p bs b w) := by
  refine h.mono ?_
  rintro e w' ⟨u, he, hu, hl, hat, hk⟩
  refine ⟨hk, .inr ⟨u, r, he, ?_, hat, hl⟩⟩
  rw [hb]
  congr 1
  obtain ⟨k, n, s, na, nc, ns, xa, xc, xs⟩ := t
  obtain ⟨k', n', s', na', nc', ns', xa', xc', xs'⟩ := u
  obtain rfl : xs = [] := hleaf
  obtain ⟨rfl, rfl, rfl, rfl, hl2, _⟩ := AV.eqv_parts hu
  obtain rfl : xs' = [] := List.length_eq_zero_iff.1 (by rw [← hl2]; rfl)
  rw [AV.key, AV.key]

theorem big_of : ∀ l : List UInt8, l.length = 8 → ∃ m : Nat, m < 18446744073709551616 ∧ l = bigL m := by
  intro l hl
  match l, hl with
  | [a, b, c, d, e, f, g, h], _ =>
    have ha := a.toNat_lt; have hb := b.toNat_lt; have hc := c.toNat_lt; have hd := d.toNat_lt; have he := e.toNat_lt; have hf := f.toNat_lt; have hg := g.toNat_lt; have hh := h.toNat_lt
    refine ⟨((((((a.toNat * 256 + b.toNat) * 256 + c.toNat) * 256 + d.toNat) * 256 + e.toNat) * 256 + f.toNat) * 256 + g.toNat) * 256 + h.toNat, by omega, ?_⟩
    unfold bigL
    simp only [List.cons.injEq, and_true]
    refine ⟨?_, ?_, ?_, ?_, ?_, ?_, ?_, ?_⟩ <;> (apply UInt8.toNat_inj.1; rw [toNat_byte]; omega)

set_option maxHeartbeats 4000000 in
set_option maxRecDepth 100000 in
theorem value_none (w : World) (p : Nat) (nb : Option Addr) (cb : Nat) (bs : List UInt8) (lv : Nat) (hat : At p bs [] w) :
    Calls Tryd.prog 42 #[.slice nb bs.length cb, .pointer (some ⟨p, 0, none⟩), .int .i64 (lv : Int)] w (ValueSome p bs [] w) := by
  have HPL := Lib.hid hat.lt
  have hbz : Below w.heap.size w (w.alloc (.cells #[.int .i64 0, .int .i64 0, .string ⟨#[]⟩, .slice none 0 0, .slice none 0 0] 25)) := (Below.refl _ _).alloc (Nat.le_refl _) _
  have HKZ : Hid (Kept p w (w.alloc (.cells #[.int .i64 0, .int .i64 0, .string ⟨#[]⟩, .slice none 0 0, .slice none 0 0] 25))) := Lib.hid (Kept.of hbz)
  have HBX := Lib.hid (heap_alloc_new w (.cells #[.int .i64 0, .int .i64 0, .string ⟨#[]⟩, .slice none 0 0, .slice none 0 0] 25))
  have HATZ := Lib.hid (hat.later hbz)
  have CALL := Lib.hid (next_none _ p nb cb bs HATZ.out)
  clear hat hbz
  obtain ⟨d0, d1, d2, d3, d4⟩ := box_cells HBX.out
  obtain ⟨f0, f1, f2, f3, f4⟩ := fz5 HBX.out
  go_enter Tryd.func42, Tryd.ntmps42
  go_wp2_with fail
  generalize w.alloc (.cells #[.int .i64 0, .int .i64 0, .string ⟨#[]⟩, .slice none 0 0, .slice none 0 0] 25) = W1 at *
  refine (CALL.out).mono ?_
  rintro e w1 ⟨rfl, rfl⟩
  go_wp2_with fail
  have hkf := (Kept.refl w.heap.size w1).five (.int .i64 0) (.int .i64 0) (.string ⟨#[]⟩) (.slice none 0 0) (.slice none 0 0)
  have hfb : (((((w1.setCell ⟨w.heap.size, 0, none⟩ (.int .i64 0)).setCell ⟨w.heap.size, 1, none⟩ (.int .i64 0)).setCell ⟨w.heap.size, 2, none⟩ (.string ⟨#[]⟩)).setCell ⟨w.heap.size, 3, none⟩ (.slice none 0 0)).setCell ⟨w.heap.size, 4, none⟩ (.slice none 0 0)).heap[w.heap.size]? = some (.cells #[.int .i64 0, .int .i64 0, .string ⟨#[]⟩, .slice none 0 0, .slice none 0 0] 25 (0, 0)) := five_box HBX.out (.int .i64 0) (.int .i64 0) (.string ⟨#[]⟩) (.slice none 0 0) (.slice none 0 0)
  obtain ⟨g0, g1, g2, g3, g4⟩ := box_cells hfb
  refine bodyPost_ret (v := .tuple #[.agg #[.int .i64 0, .int .i64 0, .string ⟨#[]⟩, .slice none 0 0, .slice none 0 0], .bool false]) (by simp [results, Tryd.results42, go_sem, g0, g1, g2, g3, g4]) rfl ⟨HKZ.out.fresh hkf (Nat.le_refl _), .inl ⟨AV.num 0 0, rfl, _, HATZ.out.other hkf (by have := HPL.out; omega)⟩⟩

set_option maxHeartbeats 4000000 in
set_option maxRecDepth 100000 in
theorem value_deep (w0 w : World) (p : Nat) (nb : Option Addr) (cb : Nat) (bs : List UInt8) (c : UInt8) (b : List UInt8) (hS : Src w0 p nb bs w) (hat : At p bs (c :: b) w) :
    Calls Tryd.prog 42 #[.slice nb bs.length cb, .pointer (some ⟨p, 0, none⟩), .int .i64 ((0 : Nat) : Int)] w (ValueSome p bs (c :: b) w) := by
  have HPL := Lib.hid hat.lt
  have hbz : Below w.heap.size w (w.alloc (.cells #[.int .i64 0, .int .i64 0, .string ⟨#[]⟩, .slice none 0 0, .slice none 0 0] 25)) := (Below.refl _ _).alloc (Nat.le_refl _) _
  have HKZ : Hid (Kept p w (w.alloc (.cells #[.int .i64 0, .int .i64 0, .string ⟨#[]⟩, .slice none 0 0, .slice none 0 0] 25))) := Lib.hid (Kept.of hbz)
  have HBX := Lib.hid (heap_alloc_new w (.cells #[.int .i64 0, .int .i64 0, .string ⟨#[]⟩, .slice none 0 0, .slice none 0 0] 25))
  have NEXT := Lib.hid (next_any w0 _ p nb cb bs c _ (hS.kept HKZ.out) (hat.later hbz))
  clear hat hbz hS
  go_enter Tryd.func42, Tryd.ntmps42
  go_wp2_with fail
  refine (NEXT.out).mono ?_
  rintro e w1 ⟨rfl, hat1, hk1⟩
  have HA1 := Lib.hid hat1
  have HB1 := Lib.hid (hk1.box HBX.out (by have := HPL.out; omega))
  have HK1 := Lib.hid (HKZ.out.trans hk1)
  obtain ⟨d0, d1, d2, d3, d4⟩ := box_cells HB1.out
  obtain ⟨f0, f1, f2, f3, f4⟩ := fz5 HB1.out
  clear hat1 hk1
  go_wp2_with fail
  have hkf := (Kept.refl w.heap.size w1).five (.int .i64 0) (.int .i64 0) (.string ⟨#[]⟩) (.slice none 0 0) (.slice none 0 0)
  have hfb : (((((w1.setCell ⟨w.heap.size, 0, none⟩ (.int .i64 0)).setCell ⟨w.heap.size, 1, none⟩ (.int .i64 0)).setCell ⟨w.heap.size, 2, none⟩ (.string ⟨#[]⟩)).setCell ⟨w.heap.size, 3, none⟩ (.slice none 0 0)).setCell ⟨w.heap.size, 4, none⟩ (.slice none 0 0)).heap[w.heap.size]? = some (.cells #[.int .i64 0, .int .i64 0, .string ⟨#[]⟩, .slice none 0 0, .slice none 0 0] 25 (0, 0)) := five_box HB1.out (.int .i64 0) (.int .i64 0) (.string ⟨#[]⟩) (.slice none 0 0) (.slice none 0 0)
  obtain ⟨g0, g1, g2, g3, g4⟩ := box_cells hfb
  refine bodyPost_ret (v := .tuple #[.agg #[.int .i64 0, .int .i64 0, .string ⟨#[]⟩, .slice none 0 0, .slice none 0 0], .bool false]) (by simp [results, Tryd.results42, go_sem, g0, g1, g2, g3, g4]) rfl ⟨HK1.out.fresh hkf (Nat.le_refl _), .inl ⟨AV.num 0 0, rfl, _, HA1.out.other hkf (by have := HPL.out; omega)⟩⟩

set_option maxHeartbeats 4000000 in
set_option maxRecDepth 100000 in
theorem value_other (w0 w : World) (p : Nat) (nb : Option Addr) (cb : Nat) (bs : List UInt8) (c : UInt8) (b : List UInt8) (lv : Nat) (hlv : 0 < lv) (hlv6 : lv ≤ 6) (hc : c = 0 ∨ 7 < c.toNat) (hS : Src w0 p nb bs w) (hat : At p bs (c :: b) w) :
    Calls Tryd.prog 42 #[.slice nb bs.length cb, .pointer (some ⟨p, 0, none⟩), .int .i64 (lv : Int)] w (ValueSome p bs (c :: b) w) := by
  have HPL := Lib.hid hat.lt
  have hbz : Below w.heap.size w (w.alloc (.cells #[.int .i64 0, .int .i64 0, .string ⟨#[]⟩, .slice none 0 0, .slice none 0 0] 25)) := (Below.refl _ _).alloc (Nat.le_refl _) _
  have HKZ : Hid (Kept p w (w.alloc (.cells #[.int .i64 0, .int .i64 0, .string ⟨#[]⟩, .slice none 0 0, .slice none 0 0] 25))) := Lib.hid (Kept.of hbz)
  have HBX := Lib.hid (heap_alloc_new w (.cells #[.int .i64 0, .int .i64 0, .string ⟨#[]⟩, .slice none 0 0, .slice none 0 0] 25))
  have NEXT := Lib.hid (next_any w0 _ p nb cb bs c _ (hS.kept HKZ.out) (hat.later hbz))
  have e0 : ((lv : Int) == 0) = false := by rw [beq_eq_false_iff_ne]; omega
  have hlv' : ¬ (lv : Int) = 0 := by omega
  obtain ⟨x, hx⟩ : ∃ x : Int, (c.toNat : Int) = x := ⟨_, rfl⟩
  have hcl := c.toNat_lt
  have hxr : x = 0 ∨ 7 < x := by
    rcases hc with h | h
    · left; rw [← hx, h]; rfl
    · right; omega
  simp only [hx] at NEXT
  have k0 : (x - 1 == 0) = false := by rw [beq_eq_false_iff_ne]; omega
  have k1 : (x - 1 == 1) = false := by rw [beq_eq_false_iff_ne]; omega
  have k2 : (x - 1 == 2) = false := by rw [beq_eq_false_iff_ne]; omega
  have k3 : (x - 1 == 3) = false := by rw [beq_eq_false_iff_ne]; omega
  have k4 : (x - 1 == 4) = false := by rw [beq_eq_false_iff_ne]; omega
  have k5 : (x - 1 == 5) = false := by rw [beq_eq_false_iff_ne]; omega
  have k6 : (x - 1 == 6) = false := by rw [beq_eq_false_iff_ne]; omega
  have hx0 : 0 ≤ x := by omega
  have hx255 : x ≤ 255 := by omega
  have ewr : IntKind.i64.wrap x = x := by unfold IntKind.wrap; simp [IntKind.bits, IntKind.signed]; omega
  clear hat hbz hS hlv hlv6 hc hx hcl hxr
  go_enter Tryd.func42, Tryd.ntmps42
  go_wp2_with fail
  refine (NEXT.out).mono ?_
  rintro e w1 ⟨rfl, hat1, hk1⟩
  have HA1 := Lib.hid hat1
  have HB1 := Lib.hid (hk1.box HBX.out (by have := HPL.out; omega))
  have HK1 := Lib.hid (HKZ.out.trans hk1)
  have hz1 : w.heap.size < w1.heap.size := (Array.getElem?_eq_some_iff.1 HB1.out).1
  obtain ⟨d0, d1, d2, d3, d4⟩ := box_cells HB1.out
  obtain ⟨f0, f1, f2, f3, f4⟩ := fz5 HB1.out
  clear hat1 hk1
  go_wp2_with fail
  have hkf := ((Kept.refl w.heap.size w1).five (.int .i64 0) (.int .i64 0) (.string ⟨#[]⟩) (.slice none 0 0) (.slice none 0 0)).alloc (.cells #[.int .i64 (x - 1), .int .i64 0, .string ⟨#[]⟩, .slice none 0 0, .slice none 0 0] 25)
  have hfb : ((((((w1.setCell ⟨w.heap.size, 0, none⟩ (.int .i64 0)).setCell ⟨w.heap.size, 1, none⟩ (.int .i64 0)).setCell ⟨w.heap.size, 2, none⟩ (.string ⟨#[]⟩)).setCell ⟨w.heap.size, 3, none⟩ (.slice none 0 0)).setCell ⟨w.heap.size, 4, none⟩ (.slice none 0 0)).alloc (.cells #[.int .i64 (x - 1), .int .i64 0, .string ⟨#[]⟩, .slice none 0 0, .slice none 0 0] 25)).heap[w.heap.size]? = some (.cells #[.int .i64 0, .int .i64 0, .string ⟨#[]⟩, .slice none 0 0, .slice none 0 0] 25 (0, 0)) := (Lib.alloc_old _ _ _ (by simp [World.setCell]; omega)).trans (five_box HB1.out (.int .i64 0) (.int .i64 0) (.string ⟨#[]⟩) (.slice none 0 0) (.slice none 0 0))
  obtain ⟨g0, g1, g2, g3, g4⟩ := box_cells hfb
  refine bodyPost_ret (v := .tuple #[.agg #[.int .i64 0, .int .i64 0, .string ⟨#[]⟩, .slice none 0 0, .slice none 0 0], .bool false]) (by simp [results, Tryd.results42, go_sem, g0, g1, g2, g3, g4]) rfl ⟨HK1.out.fresh hkf (Nat.le_refl _), .inl ⟨AV.num 0 0, rfl, _, HA1.out.other hkf (by have := HPL.out; omega)⟩⟩
end Go.Proofs.YtcbfbmidekmboaaDoor
