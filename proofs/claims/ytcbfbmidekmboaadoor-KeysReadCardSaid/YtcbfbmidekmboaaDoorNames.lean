/- The library's contracts, laid at this program's numbers: ValidString; no condition of ours. -/
/- Whether names may be: each a text that may be, rising; what the program's calls answer. -/
import Derived.Shelf.Small.Strs
import Derived.Shelf.Unicode.ValidAny
import Derived.Test.YtcbfbmidekmboaaDoorProg
import Derived.Test.YtcbfbmidekmboaaDoorText
namespace Go.Proofs
open Go.Shelf
def Tryd.lays196_ren : Go.Shelf.Ren := ⟨fun | 196 => 59 | 259 => 67 | n => n, fun | 9 => 9 | 4 => 4 | 3 => 3 | 5 => 5 | 12 => 12 | 119 => 94 | 0 => 0 | 46 => 88 | 139 => 97 | 138 => 96 | 53 => 61 | n => n, fun | 3 => 0 | 4 => 1 | n => n⟩
theorem Tryd.lays196 : Go.Proofs.Lays.n196 Tryd.prog Tryd.lays196_ren := {
  mixed := by kernel_rfl
  f196 := Tryd.func59.trans (congrArg some (by kernel_rfl))
  f259 := Tryd.func67.trans (congrArg some (by kernel_rfl))
  t0 := Tryd.underlying0
  a0 := Tryd.isAgg0
  z0 := Tryd.sizeOf0
  v0 := Tryd.zeroValue0
  t3 := Tryd.underlying3
  a3 := Tryd.isAgg3
  z3 := Tryd.sizeOf3
  v3 := Tryd.zeroValue3
  t4 := Tryd.underlying4
  a4 := Tryd.isAgg4
  z4 := Tryd.sizeOf4
  v4 := Tryd.zeroValue4
  t5 := Tryd.underlying5
  a5 := Tryd.isAgg5
  z5 := Tryd.sizeOf5
  v5 := Tryd.zeroValue5
  t9 := Tryd.underlying9
  a9 := Tryd.isAgg9
  z9 := Tryd.sizeOf9
  v9 := Tryd.zeroValue9
  t12 := Tryd.underlying12
  a12 := Tryd.isAgg12
  z12 := Tryd.sizeOf12
  v12 := Tryd.zeroValue12
  t46 := Tryd.underlying88
  a46 := Tryd.isAgg88
  z46 := Tryd.sizeOf88
  v46 := Tryd.zeroValue88
  t53 := Tryd.underlying61
  a53 := Tryd.isAgg61
  z53 := Tryd.sizeOf61
  v53 := Tryd.zeroValue61
  t119 := Tryd.underlying94
  a119 := Tryd.isAgg94
  z119 := Tryd.sizeOf94
  t138 := Tryd.underlying96
  a138 := Tryd.isAgg96
  z138 := Tryd.sizeOf96
  v138 := Tryd.zeroValue96
  t139 := Tryd.underlying97
  a139 := Tryd.isAgg97
  z139 := Tryd.sizeOf97
  v139 := Tryd.zeroValue97
  g3 := by kernel_rfl
  g4 := by kernel_rfl }
open Go.RowKit Go.Lib in
/-- unicode/utf8.ValidString -/
theorem Tryd.utf8_ValidString (s : ByteArray) (w : World) (hs : s.size ≤ 9223372036854775807) (hT : Lib.Utf8Tabs 0 1 w) :
    Calls Tryd.prog 59 #[.string s] w fun e w' => e = .returned (.bool (Lib.validD s.data.toList)) ∧ Below w.heap.size w w' := Any.utf8_ValidString Tryd.lays196 s w hs hT
end Go.Proofs

namespace Go.Proofs.YtcbfbmidekmboaaDoor
open Go.ChangeShapes Go.WideShapes Go.Deep Go.RowKit Go.Lib

/-- The library's tables lie there. -/
def Tabs (w : World) : Prop := Lib.Utf8Tabs 0 1 w

theorem Tabs.later {w w' : World} (h : Tabs w) (hb : Below w.heap.size w w') : Tabs w' := ⟨fun c hc => cell_later (h.1 c hc) hb, fun i hi => ⟨cell_later (h.2 i hi).1 hb, cell_later (h.2 i hi).2 hb⟩⟩

theorem formedText_any (s : ByteArray) (w : World) (hs : s.size ≤ maxLen) (hT : Tabs w) : Calls Tryd.prog 45 #[.string s] w fun e w' => e = .returned (.bool (textOk s)) ∧ Below w.heap.size w w' := by
  unfold maxLen at hs
  unfold textOk
  by_cases h : s.size ≤ 60
  · have CALL := Lib.hid (Tryd.utf8_ValidString s w (by omega) hT)
    obtain ⟨V, hV⟩ : ∃ V, validD s.data.toList = V := ⟨_, rfl⟩
    rw [hV] at CALL ⊢
    clear hV hs hT
    go_enter Tryd.func45, Tryd.ntmps45
    go_wp2_with (go_at_call 59; refine CALL.out.mono ?_; rintro e w2 ⟨rfl, hb2⟩)
    go_ret
    exact ⟨by simp [h], hb2⟩
  · rw [decide_eq_false h, Bool.false_and]
    clear hT
    go_enter Tryd.func45, Tryd.ntmps45
    go_wp2_with fail
    go_ret
    exact ⟨rfl, Below.refl _ _⟩

/-- Ahead of the other, byte by byte. -/
def ltB (a b : ByteArray) : Bool := Op.bytesLess a.toList b.toList

def aheadOf : Option ByteArray → ByteArray → Bool
  | none, _ => true
  | some a, b => ltB a b

def namesOk : Option ByteArray → List ByteArray → Bool
  | _, [] => true
  | p, n :: r => textOk n && (aheadOf p n && namesOk (some n) r)

def prev (ns : List ByteArray) (j : Nat) : Option ByteArray := if j = 0 then none else ns[j - 1]?

theorem namesOk_drop {ns : List ByteArray} {j : Nat} {y : ByteArray} (hlt : j < ns.length) (hy : ns[j] = y) :
    namesOk (prev ns j) (ns.drop j) = (textOk y && (aheadOf (prev ns j) y && namesOk (prev ns (j + 1)) (ns.drop (j + 1)))) := by
  rw [List.drop_eq_getElem_cons hlt, namesOk, hy]
  have : prev ns (j + 1) = some y := by simp [prev, hlt, hy]
  rw [this]

set_option maxHeartbeats 800000 in
set_option maxRecDepth 100000 in
theorem formedNames_any (na : Option Addr) (nc : Nat) (ns : List ByteArray) (w : World) (hin : AV.NamesIn w na ns) (hsz : ∀ x ∈ ns, x.size ≤ maxLen) (hl : ns.length ≤ 9223372036854775807) (hT : Tabs w) :
    Calls Tryd.prog 47 #[.slice na ns.length nc] w fun e w' => e = .returned (.bool (namesOk none ns)) ∧ Below w.heap.size w w' := by
  obtain ⟨B, hB⟩ : ∃ B, namesOk none ns = B := ⟨_, rfl⟩
  rw [hB]
  have HB := Lib.hid hB
  have HSZ := Lib.hid hsz
  have HIN := Lib.hid hin
  have HT := Lib.hid hT
  clear hB hsz hin hT
  go_enter Tryd.func47, Tryd.ntmps47
  go_wp2_with fail
  go_loopg [7] ns.length (fun g i wr => ∃ j : Nat, j + g = ns.length ∧ i = .int .i64 (j : Int) ∧ namesOk (prev ns j) (ns.drop j) = B ∧ Below w.heap.size w wr)
  case atStart => exact ⟨0, by omega, rfl, HB.out, Below.refl _ _⟩
  case round =>
    obtain ⟨j, hj, rfl, hrest, hb⟩ := hrel
    have HJ := Lib.hid hj
    have HREST := Lib.hid hrest
    clear hj hrest
    by_cases hlt : j < ns.length
    · have hne : ns ≠ [] := by intro e; rw [e] at hlt; simp at hlt
      obtain ⟨b, o, rfl, hit⟩ := (HIN.out).resolve_left hne
      have hc1 : wr.cell? ⟨b, o + j, none⟩ = some (.string ns[j]) := by rw [hb.cell (World.block_lt_of_cell? w _ (hit j hlt))]; exact hit j hlt
      obtain ⟨y, hy⟩ : ∃ y, ns[j] = y := ⟨_, rfl⟩
      have hd := namesOk_drop hlt hy
      rw [HREST.out] at hd
      have hys := HSZ.out ns[j] (List.getElem_mem hlt)
      rw [hy] at hc1 hys
      have CALL := Lib.hid (formedText_any y wr hys (HT.out.later hb))
      cases hty : textOk y
      · rw [hty] at hd CALL
        have hB : B = false := by rw [hd]; simp
        subst hB
        clear hit hy hd hty hys
        go_wp2_with (go_at_call 45; refine CALL.out.mono ?_; rintro e w2 ⟨rfl, hb2⟩)
        go_ret
        exact ⟨rfl, hb.trans (hb2.mono hb.size)⟩
      · rw [hty] at hd CALL
        by_cases hj0 : j = 0
        · subst hj0
          have hd2 : namesOk (prev ns 1) (ns.drop 1) = B := by rw [hd]; simp [prev, aheadOf]
          have HD := Lib.hid hd2
          have hcz : wr.cell? ⟨b, o, none⟩ = some (.string y) := by simpa using hc1
          clear hit hy hd hty hys hd2
          go_wp2_with (go_at_call 45; refine CALL.out.mono ?_; rintro e w2 ⟨rfl, hb2⟩)
          go_roundg (gk - 1)
          case measure => have := HJ.out; omega
          case rel => exact ⟨1, by have := HJ.out; omega, by go_num, HD.out, hb.trans (hb2.mono hb.size)⟩
        · obtain ⟨i, rfl⟩ : ∃ i, j = i + 1 := ⟨j - 1, by omega⟩
          have hc2 : wr.cell? ⟨b, o + i, none⟩ = some (.string ns[i]) := by rw [hb.cell (World.block_lt_of_cell? w _ (hit i (by omega)))]; exact hit i (by omega)
          obtain ⟨z, hz⟩ : ∃ z, ns[i] = z := ⟨_, rfl⟩
          have hp : prev ns (i + 1) = some z := by simp [prev, show i < ns.length by omega, hz]
          rw [hp, aheadOf] at hd
          rw [hz] at hc2
          clear hit hy hz hp hty hys
          cases hlt2 : ltB z y
          · rw [hlt2] at hd
            have hB : B = false := by rw [hd]; simp
            subst hB
            have hq : Op.bytesLess z.toList y.toList = false := hlt2
            clear hd hlt2
            go_wp2_with (go_at_call 45; refine CALL.out.mono ?_; rintro e w2 ⟨rfl, hb2⟩; have hc3 := cell_later hc2 hb2)
            go_ret
            exact ⟨rfl, hb.trans (hb2.mono hb.size)⟩
          · rw [hlt2] at hd
            have hd2 : namesOk (prev ns (i + 1 + 1)) (ns.drop (i + 1 + 1)) = B := by rw [hd]; simp
            have HD := Lib.hid hd2
            have hq : Op.bytesLess z.toList y.toList = true := hlt2
            clear hd hlt2 hd2
            go_wp2_with (go_at_call 45; refine CALL.out.mono ?_; rintro e w2 ⟨rfl, hb2⟩; have hc3 := cell_later hc2 hb2)
            go_roundg (gk - 1)
            case measure => have := HJ.out; omega
            case rel => exact ⟨i + 1 + 1, by have := HJ.out; omega, by go_num, HD.out, hb.trans (hb2.mono hb.size)⟩
    · have hB : B = true := by rw [← HREST.out, List.drop_eq_nil_of_le (by omega)]; rfl
      subst hB
      go_wp2_with fail
      go_ret
      exact ⟨rfl, hb⟩
end Go.Proofs.YtcbfbmidekmboaaDoor
