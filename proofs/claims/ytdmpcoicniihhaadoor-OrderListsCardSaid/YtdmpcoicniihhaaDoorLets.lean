/- A text of up to three letters: what the statement's own call answers; no condition but that the three are bytes. -/
import Derived.Test.YtdmpcoicniihhaaDoorFewl
import Derived.OwnWalk
import Derived.Laws.AppendOwn
import Derived.Laws.IdiomStrings
import Derived.Lib.UnsafeStr
namespace Go.Proofs.YtdmpcoicniihhaaDoor
open Go.ChangeShapes Go.WideShapes Go.Deep Go.RowKit Go.Lib

theorem ownsRow_later {w w' : World} {base : Nat} {e : TypeId} {size : Nat} {v : Value} {n : Nat} {xs : List Value} (h : w.ownsRow base e size v n xs) (hb : Below w.heap.size w w') : w'.ownsRow base e size v n xs := by
  refine ⟨h.1, ?_⟩
  rcases h.2 with hn | ⟨g, cap, cur, rfl, hb1, hgg, rest⟩
  · exact .inl hn
  · refine .inr ⟨g, cap, cur, rfl, hb1, ?_, rest⟩
    rw [hb.block g (Array.getElem?_eq_some_iff.1 hgg).1]
    exact hgg

theorem ownsRow_slice {w : World} {base : Nat} {e : TypeId} {size : Nat} {v : Value} {n : Nat} {xs : List Value} (h : w.ownsRow base e size v n xs) : ∃ na cap, v = .slice na n cap := by
  rcases h.2 with ⟨hv, h0⟩ | ⟨g, cap, cur, hv, _⟩
  · exact ⟨_, _, by rw [hv, h0]⟩
  · exact ⟨_, _, hv⟩

/-- The letter that a byte stands for, or none. -/
def letL (a : Nat) : List UInt8 := if a % 5 = 0 then [] else [UInt8.ofNat (97 + a % 5)]
def letsL (l : List Nat) : List UInt8 := l.flatMap letL

theorem letsL_len : ∀ l, (letsL l).length ≤ l.length
  | [] => Nat.le_refl _
  | a :: l => by
    have := letsL_len l
    unfold letsL at *
    simp only [List.flatMap_cons, List.length_append, List.length_cons]
    have : (letL a).length ≤ 1 := by unfold letL; split <;> simp
    omega

theorem infoByte : (Tryd.prog.info? 5).map (fun i => (i.zero, i.size, i.bytes)) = some (some (.int .u8 0), 1, 1) := by kernel_rfl

theorem back_any {w : World} {base : Nat} {na : Option Addr} {cap : Nat} {l : List UInt8} (h : w.ownsRow base 5 1 (.slice na l.length cap) l.length (Lib.byteCells l)) : (convert 45 9 (.slice na l.length cap)).run Tryd.prog w = .ok (.string ⟨l.toArray⟩) w := by
  cases na with
  | none =>
    have h0 : l = [] := by
      rcases h.2 with ⟨_, h0⟩ | ⟨g, cap', cur, hv, _⟩
      · exact List.length_eq_zero_iff.1 h0
      · cases hv
    subst h0
    rw [run_convert_bytes_string w 45 9 5 none _ cap Tryd.underlying45 Tryd.underlying5 Tryd.underlying9]
    simp [Conv.bytesToString]
    rfl
  | some a =>
    obtain ⟨g, rfl⟩ : ∃ g, a = ⟨g, 0, none⟩ := by
      rcases h.2 with ⟨hv, _⟩ | ⟨g, cap', cur, hv, _⟩
      · cases hv
      · exact ⟨g, by cases hv; rfl⟩
    refine run_convert_bytes_back w 45 9 5 _ cap l Tryd.underlying45 Tryd.underlying5 Tryd.underlying9 fun j hj => ?_
    refine h.cells (g := g) rfl j _ ?_
    rw [Lib.byteCells, List.getElem?_map, List.getElem?_eq_getElem hj]
    rfl

set_option maxHeartbeats 4000000 in
set_option maxRecDepth 100000 in
theorem letters_any (a b c : Nat) (w : World) (ha : a < 256) (hb : b < 256) (hc : c < 256) :
    Calls Tryd.prog 20 #[.agg #[.int .u8 (a : Int), .int .u8 (b : Int), .int .u8 (c : Int)]] w fun e w' => e = .returned (.string ⟨(letsL [a, b, c]).toArray⟩) ∧ Below w.heap.size w w' := by
  obtain ⟨i0, hi, hz0, hz1, hz2⟩ := info_parts infoByte
  obtain ⟨L, hL⟩ : ∃ L, L = [a, b, c] := ⟨_, rfl⟩
  rw [← hL]
  have hlen : L.length = 3 := by rw [hL]; rfl
  have hsm : ∀ x ∈ L, x < 256 := by rw [hL]; simp; omega
  have hb1 : Below w.heap.size w (w.alloc (.cells #[.int .u8 (a : Int), .int .u8 (b : Int), .int .u8 (c : Int)] 36)) := (Below.refl _ _).alloc (Nat.le_refl _) _
  have hcell : ∀ j (h : j < L.length), (w.alloc (.cells #[.int .u8 (a : Int), .int .u8 (b : Int), .int .u8 (c : Int)] 36)).cell? ⟨w.heap.size, j, none⟩ = some (.int .u8 (L[j] : Int)) := fun j h => by
    rw [Lib.cell_of_heap (heap_alloc_new w _)]
    subst hL
    match j, h with
    | 0, _ => rfl
    | 1, _ => rfl
    | 2, _ => rfl
  have hsz : (w.alloc (.cells #[.int .u8 (a : Int), .int .u8 (b : Int), .int .u8 (c : Int)] 36)).heap.size = w.heap.size + 1 := by simp
  have HLEN := Lib.hid hlen
  have HSM := Lib.hid hsm
  have HCELL := Lib.hid hcell
  have HSZ := Lib.hid hsz
  clear hL hlen hsm hcell hsz
  go_enter Tryd.func20, Tryd.ntmps20
  go_wp2_with fail
  generalize w.alloc (.cells #[.int .u8 (a : Int), .int .u8 (b : Int), .int .u8 (c : Int)] 36) = W1 at *
  go_loopg [3, 4] 3 (fun g v i wr => ∃ j : Nat, j + g = 3 ∧ i = .int .i64 (j : Int) ∧ wr.ownsRow W1.heap.size 5 1 v (letsL (L.take j)).length (Lib.byteCells (letsL (L.take j))) ∧ Below W1.heap.size W1 wr)
  case atStart => exact ⟨0, by omega, rfl, by simpa [letsL, Lib.byteCells] using World.ownsRow_nil W1 W1.heap.size 5 1, Below.refl _ _⟩
  case round =>
    obtain ⟨j, hj, rfl, hown, hbr⟩ := hrel
    have HJ := Lib.hid hj
    clear hj
    obtain ⟨na, cap, rfl⟩ := ownsRow_slice hown
    by_cases hlt : j < 3
    · have hjl : j < L.length := by rw [HLEN.out]; exact hlt
      have hc0 := HCELL.out j hjl
      have hcw : wr.cell? ⟨w.heap.size, j, none⟩ = some (.int .u8 (L[j] : Int)) := by rw [hbr.cell (World.block_lt_of_cell? W1 _ hc0)]; exact hc0
      have hx := HSM.out _ (List.getElem_mem hjl)
      obtain ⟨x, hxe⟩ : ∃ x, L[j] = x := ⟨_, rfl⟩
      have htake : letsL (L.take (j + 1)) = letsL (L.take j) ++ letL x := by
        rw [← hxe, List.take_succ_eq_append_getElem hjl, letsL, letsL, List.flatMap_append]
        simp
      rw [hxe] at hcw hx
      have HT := Lib.hid htake
      have HOWN := Lib.hid hown
      have hmax : (letsL (L.take j)).length ≤ 3 := by have := letsL_len (L.take j); rw [List.length_take] at this; omega
      have HMAX := Lib.hid hmax
      clear hxe htake hown hmax hc0
      by_cases h5 : x % 5 = 0
      · have HE : Hid (letL x = []) := Lib.hid (by unfold letL; rw [if_pos h5])
        have q1 : (x : Int) % 5 = 0 := by omega
        go_wp2_with fail
        go_roundg (gk - 1)
        case measure => have := HJ.out; omega
        case rel => exact ⟨j + 1, by have := HJ.out; omega, by go_num, by rw [HT.out, HE.out, List.append_nil]; exact HOWN.out, hbr⟩
      · have HE : Hid (letL x = [UInt8.ofNat (97 + x % 5)]) := Lib.hid (by unfold letL; rw [if_neg h5])
        have q1 : 0 < (x : Int) % 5 := by omega
        have q2 : (97 + x % 5) < 256 := by omega
        have e1 : [Value.int .u8 (97 + (x : Int) % 5)] = Lib.byteCells (letL x) := by
          rw [HE.out]
          simp only [Lib.byteCells, List.map_cons, List.map_nil, UInt8.toNat_ofNat_of_lt' (show 97 + x % 5 < 2 ^ 8 by omega)]
          congr 2
        have E1 := Lib.hid e1
        have q3 : 97 + (x : Int) % 5 ≤ 255 := by omega
        have hbs := hbr.size
        have hmx := HMAX.out
        clear e1 h5
        go_wp2_with (at_builtin; refine wpList_append_own _ rfl _ _ 45 rfl W1.heap.size 5 i0 (.int .u8 0) 1 1 Tryd.underlying45 hi hz0 hz1 hz2 rfl (by decide) _ _ _ rfl (HOWN.out.alloc _) ⟨wr.heap.size, 0, none⟩ 1 1 [.int .u8 (97 + (x : Int) % 5)] rfl rfl ?c1 ?c2 ?c3 ?c4 ?c5 ?_)
        case c1 =>
          intro j u hj
          match j, hj with
          | 0, hj => simp at hj; subst hj; simp [Addr.add]
        case c2 => intro u hu; simp at hu; subst hu; rfl
        case c3 => unfold maxLen; omega
        case c4 => omega
        case c5 => simp; omega
        intro v' w3 hown3 hgrow _
        have hb3 : Below W1.heap.size W1 w3 := (hbr.alloc hbs _).grown hgrow (by simp; omega) (fun k hk => (HOWN.out.lt k hk).1)
        obtain ⟨na3, cap3, rfl⟩ := ownsRow_slice hown3
        have hl1 : (letL x).length = 1 := by rw [HE.out]; rfl
        rw [E1.out, ← Lib.byteCells_append, ← HT.out] at hown3
        have hlen3 : (letsL (L.take j)).length + 1 = (letsL (L.take (j + 1))).length := by rw [HT.out, List.length_append, hl1]
        rw [hlen3] at hown3
        have HL3 := Lib.hid hlen3
        have HO3 := Lib.hid hown3
        clear hgrow hbr hlen3 hown3 hl1
        go_wp2_with fail
        go_roundg (gk - 1)
        case measure => have := HJ.out; omega
        case rel => exact ⟨j + 1, by have := HJ.out; omega, by go_num, by rw [HL3.out]; exact HO3.out, hb3⟩
    · have hj3 : L.take j = L := List.take_of_length_le (by rw [HLEN.out]; omega)
      rw [hj3] at hown
      rw [hj3]
      have hbk := back_any hown
      have HBK := Lib.hid hbk
      have hbr2 := hb1.trans (hbr.mono hb1.size)
      clear hj3 hown hbk
      have hbk := HBK.out
      go_wp2_with fail
      go_ret
      exact ⟨rfl, hbr2⟩
end Go.Proofs.YtdmpcoicniihhaaDoor
