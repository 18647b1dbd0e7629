/- One byte read, and whether a list ends: what the program's calls answer; no condition of ours. -/
import Derived.Test.YtcbfbmidekmboaaDoorAlike
namespace Go.Proofs.YtcbfbmidekmboaaDoor
open Go.ChangeShapes Go.WideShapes Go.Deep Go.RowKit Go.Lib

/-- A step of the reader: the place has gone on, all else is as it was. -/
def Stepped (p : Nat) (bs r : List UInt8) (w w' : World) : Prop := At p bs r w' ∧ Kept p w w'

theorem place_cell {w : World} {p : Nat} {v : Value} (h : w.heap[p]? = some (.cells #[v] 3 (0, 0))) : w.cell? ⟨p, 0, none⟩ = some v ∧ w.frozen? ⟨p, 0, none⟩ = false := by
  refine ⟨?_, ?_⟩
  · rw [Lib.cell_of_heap h]; rfl
  · exact frozen_of_row w p 0 #[v] 3 h

theorem At.gone {p : Nat} {bs r : List UInt8} {w : World} {a : Nat} (ha : a < bs.length) (hd : bs.drop (a + 1) = r) (h : w.heap[p]? = some (.cells #[.int .i64 (a : Int)] 3 (0, 0))) :
    At p bs r (w.setCell ⟨p, 0, none⟩ (.int .i64 ((a : Int) + 1))) := by
  refine ⟨a + 1, ha, hd, ?_⟩
  have := heap_setCell_same w p 0 _ 3 (.int .i64 ((a : Int) + 1)) h
  rw [this]
  rfl

set_option maxHeartbeats 2000000 in
set_option maxRecDepth 100000 in
theorem next_any (w0 w : World) (p : Nat) (nb : Option Addr) (cb : Nat) (bs : List UInt8) (c : UInt8) (r : List UInt8) (hS : Src w0 p nb bs w) (hat : At p bs (c :: r) w) :
    Calls Tryd.prog 54 #[.slice nb bs.length cb, .pointer (some ⟨p, 0, none⟩)] w fun e w' => e = .returned (.tuple #[.int .u8 (c.toNat : Int), .bool true]) ∧ Stepped p bs r w w' := by
  obtain ⟨a, ha, hd, hbox⟩ := hat
  obtain ⟨hlt, hd1, b, o, rfl, hc, hbp⟩ := hS.byte hd
  obtain ⟨c0, f0⟩ := place_cell hbox
  have HG := Lib.hid (At.gone hlt hd1 hbox)
  have hc2 : (w.setCell ⟨p, 0, none⟩ (.int .i64 ((a : Int) + 1))).cell? ⟨b, o + a, none⟩ = some (.int .u8 (c.toNat : Int)) := by
    rw [((Below.refl p w).setCell (p := ⟨p, 0, none⟩) (Nat.le_refl _) _).cell hbp]; exact hc
  have hc3 : (w.setCell ⟨p, 0, none⟩ (.int .i64 ((a : Int) + 1))).cell? ⟨p, 0, none⟩ = some (.int .i64 ((a : Int) + 1)) := by
    obtain ⟨a', h1, h2, h3⟩ := HG.out
    have h4 := heap_setCell_same w p 0 _ 3 (.int .i64 ((a : Int) + 1)) hbox
    rw [Lib.cell_of_heap h4]; rfl
  have hln := hS.len
  have e1 : ((a : Int) == (bs.length : Int)) = false := by rw [beq_eq_false_iff_ne]; omega
  have HK := Lib.hid ((Kept.refl p w).set (.int .i64 ((a : Int) + 1)))
  clear hS hd hd1 hbox ha hc
  go_enter Tryd.func54, Tryd.ntmps54
  go_wp2_with fail
  go_ret2

  exact ⟨rfl, HG.out, HK.out⟩

set_option maxHeartbeats 2000000 in
set_option maxRecDepth 100000 in
theorem ends_over (w0 w : World) (p : Nat) (nb : Option Addr) (cb : Nat) (bs r : List UInt8) (n : Nat) (hS : Src w0 p nb bs w) (hat : At p bs (0 :: r) w) :
    Calls Tryd.prog 65 #[.slice nb bs.length cb, .pointer (some ⟨p, 0, none⟩), .int .i64 (n : Int)] w fun e w' => e = .returned (.tuple #[.bool true, .bool true]) ∧ Stepped p bs r w w' := by
  obtain ⟨a, ha, hd, hbox⟩ := hat
  obtain ⟨hlt, hd1, b, o, rfl, hc, hbp⟩ := hS.byte hd
  obtain ⟨c0, f0⟩ := place_cell hbox
  have HG := Lib.hid (At.gone hlt hd1 hbox)
  have hln := hS.len
  have e1 : ((a : Int) == (bs.length : Int)) = false := by rw [beq_eq_false_iff_ne]; omega
  have hc0 : w.cell? ⟨b, o + a, none⟩ = some (.int .u8 0) := hc
  have HK := Lib.hid ((Kept.refl p w).set (.int .i64 ((a : Int) + 1)))
  clear hS hd hd1 hbox ha hc
  go_enter Tryd.func65, Tryd.ntmps65
  go_wp2_with fail
  go_ret2
  exact ⟨rfl, HG.out, HK.out⟩

set_option maxHeartbeats 2000000 in
set_option maxRecDepth 100000 in
theorem ends_more (w0 w : World) (p : Nat) (nb : Option Addr) (cb : Nat) (bs r : List UInt8) (c : UInt8) (n : Nat) (hS : Src w0 p nb bs w) (hat : At p bs (c :: r) w) (hc0 : c ≠ 0) (hn : n < 24) :
    Calls Tryd.prog 65 #[.slice nb bs.length cb, .pointer (some ⟨p, 0, none⟩), .int .i64 (n : Int)] w fun e w' => e = .returned (.tuple #[.bool false, .bool true]) ∧ Stepped p bs (c :: r) w w' := by
  have HAT := Lib.hid hat
  obtain ⟨a, ha, hd, hbox⟩ := hat
  obtain ⟨hlt, hd1, b, o, rfl, hc, hbp⟩ := hS.byte hd
  obtain ⟨c0, f0⟩ := place_cell hbox
  have hln := hS.len
  have e1 : ((a : Int) == (bs.length : Int)) = false := by rw [beq_eq_false_iff_ne]; omega
  have hz : ((c.toNat : Int) == 0) = false := by rw [beq_eq_false_iff_ne]; have := zero_lt_byte hc0; omega
  have hn2 : (n : Int) < 24 := by omega
  clear hS hd hd1 hbox ha hc0
  go_enter Tryd.func65, Tryd.ntmps65
  go_wp2_with fail
  go_ret2
  exact ⟨by simp, HAT.out, Kept.refl _ _⟩
end Go.Proofs.YtcbfbmidekmboaaDoor
