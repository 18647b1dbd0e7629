/- What the program reads as a name: the name and what stands behind, or that there is none; at most 3000 bytes. -/
import Derived.Test.YtfakpgfbpngfpaaAppn
namespace Go.Proofs.Ytfakpgfbpngfpaa
open Go.ChangeShapes Go.WideShapes Go.Deep Go.RowKit Go.Lib

/-- Bytes in a slice. -/
def Sl (w : World) (v : Value) (l : List UInt8) : Prop := ∃ na cap, v = .slice na l.length cap ∧ BytesIn w na l ∧ l.length ≤ cap ∧ cap ≤ 9223372036854775807

theorem Sl.below {w w' : World} {v : Value} {l : List UInt8} (h : Sl w v l) (hb : Below w.heap.size w w') : Sl w' v l := by
  obtain ⟨na, cap, h1, h2, h3, h4⟩ := h
  exact ⟨na, cap, h1, h2.below hb, h3, h4⟩

theorem BytesIn.tail {w : World} {b o : Nat} {c : UInt8} {l : List UInt8} (h : BytesIn w (some ⟨b, o, none⟩) (c :: l)) : BytesIn w (some ⟨b, o + 1, none⟩) l := by
  rcases h with h | ⟨b', o', e, h⟩
  · cases h
  · simp only [Option.some.injEq, Addr.mk.injEq, and_true] at e
    obtain ⟨rfl, rfl⟩ := e
    refine .inr ⟨b, o + 1, rfl, fun j hj => ?_⟩
    have := h (j + 1) (by simp; omega)
    rw [show o + 1 + j = o + (j + 1) by omega]
    simpa using this

theorem slice_one (W : World) (b o n cap : Nat) (hn : 1 ≤ n) (_hc : n ≤ cap) (_hc2 : cap ≤ 9223372036854775807) :
    (Instr.slice 22 (.slice (some ⟨b, o, none⟩) n cap) (some (.int .i64 1)) none none).run Try.prog W = .ok (.slice (some (if cap = 1 then ⟨b, o, none⟩ else ⟨b, o + 1, none⟩)) (n - 1) (cap - 1)) W := by
  have ht' : Try.prog.underlying 22 = some (.slice (Try.prog.elem 22)) := by kernel_rfl
  have he : Try.prog.elem 22 = 5 := by kernel_rfl
  have hz : (Go.sizeOf 5).run Try.prog W = .ok 1 W := by
    obtain ⟨i0, hi, hz0, hz1, hz2⟩ := info_parts infoByte
    simp [sizeOf, typeInfo, hi, hz1]
  rw [run_slice_l W 22 _ _ _ ht' .i64 1 (by omega) (by omega), he, hz]
  by_cases h0 : cap = 1
  · simp [Result.andThen, sliced, h0]
  · simp [Result.andThen, sliced, Addr.add, h0]

/-- One byte off. -/
theorem Sl.next {w : World} {v : Value} {c : UInt8} {l : List UInt8} (h : Sl w v (c :: l)) : ∃ b o cap, v = .slice (some ⟨b, o, none⟩) (l.length + 1) cap ∧ w.cell? ⟨b, o, none⟩ = some (.int .u8 (c.toNat : Int)) ∧ l.length + 1 ≤ cap ∧ cap ≤ 9223372036854775807 ∧
    ∃ na, (∀ W, (Instr.slice 22 (.slice (some ⟨b, o, none⟩) (l.length + 1) cap) (some (.int .i64 1)) none none).run Try.prog W = .ok (.slice (some na) l.length (cap - 1)) W) ∧ Sl w (.slice (some na) l.length (cap - 1)) l := by
  obtain ⟨na, cap, rfl, hin, hl, hc⟩ := h
  obtain ⟨b, o, rfl, hat⟩ := hin.resolve_left (by simp)
  have h0 := hat 0 (by simp)
  rw [List.length_cons] at hl
  refine ⟨b, o, cap, rfl, by simpa using h0, hl, hc, _, fun W => slice_one W b o (l.length + 1) cap (by omega) hl hc, _, _, rfl, ?_, by omega, by omega⟩
  by_cases hz : cap = 1
  · exact .inl (List.length_eq_zero_iff.1 (by omega))
  · rw [if_neg hz]
    exact BytesIn.tail hin

/-- The name that bytes begin with, and what stands behind. -/
def nameR (l : List UInt8) : Option (List UInt8 × List UInt8) := match unesc l with
  | none => none
  | some (n, r) => if n.length ≤ 200 then some (n, r) else none

theorem nameR_none {l : List UInt8} (h : unesc l = none) : nameR l = none := by unfold nameR; rw [h]
theorem nameR_long {l N : List UInt8} {x : Option (List UInt8 × List UInt8)} (h : unesc l = x.map (fun p => (N ++ p.1, p.2))) (hN : 200 < N.length) : nameR l = none := by
  unfold nameR
  rw [h]
  cases x with
  | none => rfl
  | some p =>
    show (if (N ++ p.1).length ≤ 200 then _ else none) = none
    rw [if_neg (by rw [List.length_append]; omega)]
theorem nameR_some {l n r : List UInt8} (h : unesc l = some (n, r)) (hn : n.length ≤ 200) : nameR l = some (n, r) := by
  unfold nameR; rw [h]; exact if_pos hn

theorem map_snoc (x : Option (List UInt8 × List UInt8)) (N : List UInt8) (c : UInt8) : ((x.map (fun p => (c :: p.1, p.2))).map (fun p => (N ++ p.1, p.2))) = x.map (fun p => ((N ++ [c]) ++ p.1, p.2)) := by
  cases x <;> simp

/-- What is answered. -/
def NameGave (l : List UInt8) (w : World) : Ending → World → Prop := fun e w' => Below w.heap.size w w' ∧
  ((nameR l = none ∧ e = .returned (.tuple #[.slice none 0 0, .slice none 0 0, .bool false])) ∨
   ∃ n r na ca v, nameR l = some (n, r) ∧ e = .returned (.tuple #[.slice na n.length ca, v, .bool true]) ∧ BytesIn w' na n ∧ (∀ b o, na = some ⟨b, o, none⟩ → w.heap.size ≤ b) ∧ Sl w' v r)

theorem name_no {l : List UInt8} {w w' : World} (h : nameR l = none) (hb : Below w.heap.size w w') : NameGave l w (.returned (.tuple #[.slice none 0 0, .slice none 0 0, .bool false])) w' := ⟨hb, .inl ⟨h, rfl⟩⟩

set_option maxHeartbeats 4000000 in
set_option maxRecDepth 100000 in
theorem readName_any (v0 : Value) (l : List UInt8) (w : World) (hs : Sl w v0 l) (hl : l.length ≤ 3000) : Calls Try.prog 27 #[v0] w (NameGave l w) := by
  have HS := Lib.hid hs
  have HL := Lib.hid hl
  clear hs hl
  go_enter Try.func27, Try.ntmps27
  go_wp2_with fail
  go_loopg [0, 2] l.length (fun g v b wr => ∃ (N rest : List UInt8), rest.length = g ∧ Sl w v rest ∧ Took w.heap.size b N w wr ∧ N.length ≤ 201 ∧ g ≤ 3000 ∧ unesc l = (unesc rest).map (fun p => (N ++ p.1, p.2)))
  case atStart => exact ⟨[], l, rfl, HS.out, Took.nil _ _, by simp, HL.out, by cases unesc l <;> rfl⟩
  case round =>
    obtain ⟨N, rest, hg, hsl, hw, hN, hg3, hun⟩ := hrel
    obtain ⟨nb, cb, rfl⟩ := hw.slice
    have HUN := Lib.hid hun
    have HW := Lib.hid hw
    have HBW := Lib.hid hw.below
    have hBr := hw.size (Nat.le_refl _)
    clear hun hw
    by_cases hN2 : N.length ≤ 200
    · have hN3 : (N.length : Int) ≤ 200 := by omega
      cases rest with
      | nil =>
        have HR := Lib.hid (nameR_none (HUN.out.trans (by rw [unesc]; rfl)))
        obtain ⟨na, cap, rfl, -, -⟩ := hsl
        clear hg
        go_wp2_with fail
        go_ret3
        exact name_no HR.out HBW.out
      | cons c rest =>
        obtain ⟨b, o, cap, rfl, hc0, hlc, hcap, nt, hrun, hsl2⟩ := hsl.next
        have hc := cell_kept2 HBW.out hc0
        have HG := Lib.hid hg
        have HS2 := Lib.hid hsl2
        clear hg hsl hsl2 hc0
        by_cases hz : c = 0
        · subst hz
          have hcz : wr.cell? ⟨b, o, none⟩ = some (.int .u8 0) := hc
          clear hc
          cases rest with
          | nil =>
            have HR := Lib.hid (nameR_none (HUN.out.trans (by rw [unesc_short (by simp)]; rfl)))
            simp only [List.length_nil] at hrun hlc ⊢
            go_wp2_with fail
            go_ret3
            exact name_no HR.out HBW.out
          | cons d rest =>
            obtain ⟨b2, o2, cap2, hv2, hd0, hlc2, hcap2, nt2, hrun2, hsl3⟩ := HS2.out.next
            simp only [List.length_cons] at hv2 hrun hlc ⊢
            simp only [Value.slice.injEq, Option.some.injEq] at hv2
            obtain ⟨rfl, -, rfl⟩ := hv2
            have hd := cell_kept2 HBW.out hd0
            have HS3 := Lib.hid hsl3
            clear hsl3 hd0 HS2
            have f1 : ((rest.length : Int) + 1 == 0) = false := by rw [beq_eq_false_iff_ne]; omega
            by_cases hd1 : d = 0
            · subst hd1
              have hdz : wr.cell? ⟨b2, o2, none⟩ = some (.int .u8 0) := hd
              clear hd
              have HR := Lib.hid (nameR_some (n := N) (r := rest) (HUN.out.trans (by rw [unesc_end]; simp)) hN2)
              go_wp2_with fail
              go_ret3
              exact ⟨HBW.out, .inr ⟨N, rest, _, _, _, HR.out, rfl, BytesIn.of HW.out.own, (fun b o e => (HW.out.own.lt b (by rw [e]; rfl)).1), HS3.out.below HBW.out⟩⟩
            · by_cases hd2 : d = 255
              · subst hd2
                have hdz : wr.cell? ⟨b2, o2, none⟩ = some (.int .u8 255) := hd
                clear hd
                have HU2 := Lib.hid (HUN.out.trans (by rw [unesc_zero, map_snoc]))
                clear hd1
                go_wp2_with (at_builtin; refine wpList_lit rfl _ _ rfl HW.out hBr rfl [0] _ 1 rfl rfl rfl (by simp; omega) ?_)
                intro nc cc W2 hW2
                have HW2 := Lib.hid hW2
                clear hW2
                go_wp2_with fail
                go_roundg (gk - 2)
                case measure => have := HG.out; simp only [List.length_cons] at this; omega
                case rel => exact ⟨_, rest, by have := HG.out; simp only [List.length_cons] at this; omega, HS3.out, HW2.out, by simp; omega, by omega, HU2.out⟩
              · have e1 : ((d.toNat : Int) == 0) = false := by rw [beq_eq_false_iff_ne]; have := zero_byte hd1; omega
                have e2 : ((d.toNat : Int) == 255) = false := by rw [beq_eq_false_iff_ne]; intro e; exact hd2 (UInt8.toNat_inj.1 (by rw [show (255 : UInt8).toNat = 255 from rfl]; omega))
                have e3 : ((d.toNat : Int) != 0) = true := by rw [bne, e1]; rfl
                have e4 : ((d.toNat : Int) != 255) = true := by rw [bne, e2]; rfl
                have HR := Lib.hid (nameR_none (HUN.out.trans (by rw [unesc_bad hd1 hd2]; rfl)))
                clear hd1 hd2
                go_wp2_with fail
                go_ret3
                exact name_no HR.out HBW.out
        · have e1 : ((c.toNat : Int) == 0) = false := by rw [beq_eq_false_iff_ne]; have := zero_byte hz; omega
          have HU2 := Lib.hid (HUN.out.trans (by rw [unesc_byte hz, map_snoc]))
          clear hz
          go_wp2_with (at_builtin; refine wpList_lit rfl _ _ rfl HW.out hBr rfl [c] _ 1 rfl rfl (byte_of c) (by simp; omega) ?_)
          intro nc cc W2 hW2
          have HW2 := Lib.hid hW2
          clear hW2
          go_wp2_with fail
          go_roundg (gk - 1)
          case measure => have := HG.out; simp only [List.length_cons] at this; omega
          case rel => exact ⟨_, rest, by have := HG.out; simp only [List.length_cons] at this; omega, HS2.out, HW2.out, by simp; omega, by omega, HU2.out⟩
    · have hN3 : (200 : Int) < (N.length : Int) := by omega
      have HR := Lib.hid (nameR_long HUN.out (by omega))
      clear hN2 hg hsl
      go_wp2_with fail
      go_ret3
      exact name_no HR.out HBW.out
end Go.Proofs.Ytfakpgfbpngfpaa
