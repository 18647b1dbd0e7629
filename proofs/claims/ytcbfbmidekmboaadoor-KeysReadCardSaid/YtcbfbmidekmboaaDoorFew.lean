/- How many values a value has, and whether it is of a size that is looked at: what these two of the document's functions answer, for every value. -/
import Derived.Test.YtcbfbmidekmboaaDoorJdepth
namespace Go.Proofs.YtcbfbmidekmboaaDoor
open Go.ChangeShapes Go.WideShapes Go.Deep Go.RowKit

namespace AV
mutual
def nodes : AV → Nat → Nat
  | mk _ _ _ _ _ _ _ _ xs, left => if left = 0 then 1001 else min (nodesAll xs (left - 1) 1) 1001
def nodesAll : List AV → Nat → Nat → Nat
  | [], _, acc => acc
  | t :: ts, left, acc => if acc ≤ 1000 then nodesAll ts left (acc + nodes t left) else acc
end

theorem nodes_le (t : AV) (left : Nat) : nodes t left ≤ 1001 := by
  cases t
  rw [nodes]
  split <;> omega

theorem nodesAll_big {l : List AV} {left acc : Nat} (h : 1000 < acc) : nodesAll l left acc = acc := by
  cases l with
  | nil => rfl
  | cons t ts => rw [nodesAll, if_neg (by omega)]

theorem nodesAll_drop {xs : List AV} {j left acc : Nat} {x : AV} (hlt : j < xs.length) (hx : xs[j] = x) (h : acc ≤ 1000) : nodesAll (xs.drop j) left acc = nodesAll (xs.drop (j + 1)) left (acc + nodes x left) := by
  rw [List.drop_eq_getElem_cons hlt, nodesAll, if_pos h, hx]
end AV

theorem nodes_zero (t : AV) (w : World) : Calls Tryd.prog 34 #[t.val, .int .i64 0] w fun e w' => e = .returned (.int .i64 (1001 : Nat)) ∧ Below w.heap.size w w' := by
  obtain ⟨k, n, s, na, nc, ns, xa, xc, xs⟩ := t
  simp only [AV.val, AV.row]
  go_enter Tryd.func34, Tryd.ntmps34
  go_wp2_with fail
  go_ret
  exact ⟨rfl, (Below.refl _ _).alloc (Nat.le_refl _) _⟩

set_option maxHeartbeats 400000 in
set_option maxRecDepth 100000 in
theorem nodes_many (k n m : Int) (s : ByteArray) (na : Option Addr) (nc : Nat) (ns : List ByteArray) (xa : Option Addr) (xc : Nat) (xs : List AV) (w : World) (hin : (AV.mk k n s na nc ns xa xc xs).In w)
    (h1 : 1 ≤ m) (h2 : m ≤ 1000)
    (IH : Hid (∀ x ∈ xs, ∀ (m : Int) (w : World), x.In w → 0 ≤ m → m ≤ 1000 → Calls Tryd.prog 34 #[x.val, .int .i64 m] w fun e w' => e = .returned (.int .i64 (AV.nodes x m.toNat : Nat)) ∧ Below w.heap.size w w')) :
    Calls Tryd.prog 34 #[(AV.mk k n s na nc ns xa xc xs).val, .int .i64 m] w fun e w' => e = .returned (.int .i64 ((min (AV.nodesAll xs (m.toNat - 1) 1) 1001 : Nat) : Int)) ∧ Below w.heap.size w w' := by
  have hm1 : (m == 0) = false := by simp; omega
  have hlen : xs.length ≤ 9223372036854775807 := by
    rw [AV.In] at hin
    have h6 := hin.2.2.2.2.2.1
    have h7 := hin.2.2.2.2.2.2.1
    unfold maxLen at h7
    omega
  have HIN := Lib.hid hin
  clear hin
  obtain ⟨R, hR⟩ : ∃ R, AV.nodesAll xs (m.toNat - 1) 1 = R := ⟨_, rfl⟩
  rw [hR]
  have HR := Lib.hid hR
  clear hR
  simp only [AV.val, AV.row]
  go_enter Tryd.func34, Tryd.ntmps34
  go_wp2_with fail
  go_loopg [5, 6] xs.length (fun g v i wr => ∃ j c : Nat, j + g = xs.length ∧ i = .int .i64 (j : Int) ∧ v = .int .i64 (c : Int) ∧ c ≤ 2001 ∧ AV.nodesAll (xs.drop j) (m.toNat - 1) c = R ∧ Below w.heap.size w wr ∧ w.heap.size < wr.heap.size ∧ wr.cell? ⟨w.heap.size, 4, none⟩ = some (.slice xa xs.length xc))
  case atStart => exact ⟨0, 1, by omega, rfl, rfl, by omega, HR.out, (Below.refl _ _).alloc (Nat.le_refl _) _, by simp, by simp⟩
  case round =>
    obtain ⟨j, c, hj, rfl, rfl, hcc, hrest, hb, hz, hc⟩ := hrel
    have HJ := Lib.hid hj
    have HREST := Lib.hid hrest
    clear hj hrest
    by_cases hlt : j < xs.length
    · by_cases hle : c ≤ 1000
      · obtain ⟨b, o, rfl, hit⟩ := HIN.out.item (by intro e; rw [e] at hlt; simp at hlt)
        have hxin : AV.In wr xs[j] := (hit j hlt).2.below hb (Nat.le_refl _)
        have hr : wr.rangeAt b (o + j * 5) xs[j].row := AV.rangeAt_old (fun a ha => hb.cell ha) (hit j hlt).1
        have hmem : xs[j] ∈ xs := List.getElem_mem hlt
        obtain ⟨x, hx⟩ : ∃ x, xs[j] = x := ⟨_, rfl⟩
        rw [hx] at hxin hr hmem
        have HX := Lib.hid hx
        have hnl := AV.nodes_le x (m.toNat - 1)
        have CALL := Lib.hid (IH.out x hmem (m - 1) wr hxin (by omega) (by omega))
        rw [show (m - 1).toNat = m.toNat - 1 by omega] at CALL
        have HRR := Lib.hid hr
        clear hx hit hr
        go_wp2_with (first | ((with_reducible refine wpList_item HRR.out ?_ ?_); rfl) | (go_at_call 34; refine CALL.out.mono ?_; rintro e w1 ⟨rfl, hb1⟩))
        go_roundg (gk - 1)
        case measure => have := HJ.out; omega
        case rel =>
          have hx := HX.out
          have hj := HJ.out
          refine ⟨j + 1, c + AV.nodes x (m.toNat - 1), by omega, by go_num, by go_num, by omega, ?_, hb.trans (hb1.mono (by omega)), by have := hb1.size; omega, cell_later hc hb1⟩
          rw [← AV.nodesAll_drop hlt hx hle]
          exact HREST.out
      · have hr : AV.nodesAll (xs.drop j) (m.toNat - 1) c = c := AV.nodesAll_big (by omega)
        have hRc : R = c := HREST.out.symm.trans hr
        subst hRc
        clear hr
        go_wp2_with fail
        all_goals
          go_ret
          refine ⟨ret_int ?_, hb⟩
          omega
    · have hr : AV.nodesAll (xs.drop j) (m.toNat - 1) c = c := by rw [List.drop_eq_nil_of_le (by omega)]; rfl
      have hRc : R = c := HREST.out.symm.trans hr
      subst hRc
      clear hr
      go_wp2_with fail
      all_goals
        go_ret
        refine ⟨ret_int ?_, hb⟩
        omega

theorem nodes_any : ∀ (t : AV) (m : Int) (w : World), t.In w → 0 ≤ m → m ≤ 1000 →
    Calls Tryd.prog 34 #[t.val, .int .i64 m] w fun e w' => e = .returned (.int .i64 (AV.nodes t m.toNat : Nat)) ∧ Below w.heap.size w w' := by
  intro t
  induction t using AV.ind with
  | h k n s na nc ns xa xc xs ih =>
    intro m w hin h1 h2
    by_cases hm : m = 0
    · subst hm
      have e : AV.nodes (.mk k n s na nc ns xa xc xs) (0 : Int).toNat = 1001 := by simp [AV.nodes]
      rw [e]
      exact nodes_zero _ w
    · have e : AV.nodes (.mk k n s na nc ns xa xc xs) m.toNat = min (AV.nodesAll xs (m.toNat - 1) 1) 1001 := by
        rw [AV.nodes, if_neg (by omega)]
      rw [e]
      exact nodes_many k n m s na nc ns xa xc xs w hin (by omega) h2 ih

/-- Nodes. -/
theorem Nodes_any (t : AV) (w : World) (hin : t.In w) : Calls Tryd.prog 22 #[t.val] w fun e w' => e = .returned (.int .i64 (AV.nodes t 40 : Nat)) ∧ Below w.heap.size w w' := by
  have CALL := Lib.hid (fun W hW => nodes_any t 40 W hW (by omega) (by omega))
  obtain ⟨k, n, s, na, nc, ns, xa, xc, xs⟩ := t
  simp only [AV.val, AV.row] at CALL ⊢
  go_enter Tryd.func22, Tryd.ntmps22
  go_wp2_with fail
  refine (CALL.out _ (hin.below ((Below.refl w.heap.size w).alloc (Nat.le_refl _) _) (Nat.le_refl _))).mono ?_
  rintro e w1 ⟨rfl, hb1⟩
  have hb2 : Below w.heap.size w w1 := ((Below.refl w.heap.size w).alloc (Nat.le_refl _) _).trans (hb1.mono (by simp))
  go_wp2_with fail
  go_ret
  exact ⟨rfl, hb2⟩

namespace AV
mutual
def few : AV → Bool
  | mk k n s na nc ns xa xc xs => decide (nodes (mk k n s na nc ns xa xc xs) 40 ≤ 300) && (decide (ns.length ≤ 100) && (decide (s.size ≤ 1000) && ((ns.all fun x => decide (x.size ≤ 1000)) && fewAll xs)))
def fewAll : List AV → Bool
  | [] => true
  | t :: ts => few t && fewAll ts
end

theorem fewAll_drop {xs : List AV} {j : Nat} {x : AV} (hlt : j < xs.length) (hx : xs[j] = x) : fewAll (xs.drop j) = (few x && fewAll (xs.drop (j + 1))) := by
  rw [List.drop_eq_getElem_cons hlt, fewAll, hx]
end AV

theorem ret_bool {a b : Bool} (h : a = b) : Ending.returned (.bool a) = .returned (.bool b) := by rw [h]

/-- What is asked of a name, from a value that lies there. -/
theorem AV.In.name {w : World} {k n : Int} {s : ByteArray} {na : Option Addr} {nc : Nat} {ns : List ByteArray} {xa : Option Addr} {xc : Nat} {xs : List AV} (h : In w (mk k n s na nc ns xa xc xs)) (hne : ns ≠ []) :
    ∃ b o, na = some ⟨b, o, none⟩ ∧ ∀ i (h : i < ns.length), w.cell? ⟨b, o + i, none⟩ = some (.string ns[i]) := by
  rw [In] at h
  obtain ⟨_, _, _, _, _, _, _, _, h9, _⟩ := h
  rcases h9 with h9 | h9
  · exact absurd h9 hne
  · exact h9

theorem AV.In.lens {w : World} {k n : Int} {s : ByteArray} {na : Option Addr} {nc : Nat} {ns : List ByteArray} {xa : Option Addr} {xc : Nat} {xs : List AV} (h : In w (mk k n s na nc ns xa xc xs)) :
    s.size ≤ 9223372036854775807 ∧ ns.length ≤ 9223372036854775807 ∧ xs.length ≤ 9223372036854775807 := by
  rw [In] at h
  obtain ⟨_, _, h3, h4, h5, h6, h7, _⟩ := h
  unfold maxLen at h3 h5 h7
  omega

theorem all_snoc_of {ns : List ByteArray} {j : Nat} (hlt : j < ns.length) (h : (ns.take j).all (fun x => decide (x.size ≤ 1000)) = true) (hy : ns[j].size ≤ 1000) : (ns.take (j + 1)).all (fun x => decide (x.size ≤ 1000)) = true := by
  rw [List.take_succ_eq_append_getElem hlt, List.all_append, h]
  simp [hy]

theorem all_false_of {ns : List ByteArray} {j : Nat} (hlt : j < ns.length) (hy : ¬ ns[j].size ≤ 1000) : ns.all (fun x => decide (x.size ≤ 1000)) = false := by
  rw [List.all_eq_false]
  exact ⟨ns[j], List.getElem_mem hlt, by simpa using hy⟩

set_option maxHeartbeats 800000 in
set_option maxRecDepth 100000 in
theorem few_step (k n : Int) (s : ByteArray) (na : Option Addr) (nc : Nat) (ns : List ByteArray) (xa : Option Addr) (xc : Nat) (xs : List AV) (w : World) (hin : (AV.mk k n s na nc ns xa xc xs).In w)
    (IH : Hid (∀ x ∈ xs, ∀ (w : World), x.In w → Calls Tryd.prog 23 #[x.val] w fun e w' => e = .returned (.bool (AV.few x)) ∧ Below w.heap.size w w')) :
    Calls Tryd.prog 23 #[(AV.mk k n s na nc ns xa xc xs).val] w fun e w' => e = .returned (.bool (AV.few (AV.mk k n s na nc ns xa xc xs))) ∧ Below w.heap.size w w' := by
  have CALL := Lib.hid (fun W hW => Nodes_any (AV.mk k n s na nc ns xa xc xs) W hW)
  obtain ⟨N, hN⟩ : ∃ N, AV.nodes (AV.mk k n s na nc ns xa xc xs) 40 = N := ⟨_, rfl⟩
  obtain ⟨B, hB⟩ : ∃ B, AV.few (AV.mk k n s na nc ns xa xc xs) = B := ⟨_, rfl⟩
  rw [hB]
  rw [AV.few, hN] at hB
  rw [hN] at CALL
  clear hN
  have HB := Lib.hid hB
  clear hB
  have HIN := Lib.hid hin
  obtain ⟨hl1, hl2, hl3⟩ := hin.lens
  clear hin
  simp only [AV.val, AV.row] at CALL ⊢
  by_cases hbad : N ≤ 300 ∧ ns.length ≤ 100 ∧ s.size ≤ 1000
  · obtain ⟨hN, hns, hs⟩ := hbad
    go_enter Tryd.func23, Tryd.ntmps23
    go_wp2_with fail
    refine (CALL.out _ (HIN.out.below ((Below.refl w.heap.size w).alloc (Nat.le_refl _) _) (Nat.le_refl _))).mono ?_
    rintro e w1 ⟨rfl, hb1⟩
    have hb2 : Below w.heap.size w w1 := ((Below.refl w.heap.size w).alloc (Nat.le_refl _) _).trans (hb1.mono (by simp))
    have hz2 : w.heap.size < w1.heap.size := by have := hb1.size; simp at this; omega
    have hc2 : w1.cell? ⟨w.heap.size, 2, none⟩ = some (.string s) := cell_later (by simp) hb1
    have hc3 : w1.cell? ⟨w.heap.size, 3, none⟩ = some (.slice na ns.length nc) := cell_later (by simp) hb1
    have hc4 : w1.cell? ⟨w.heap.size, 4, none⟩ = some (.slice xa xs.length xc) := cell_later (by simp) hb1
    go_wp2_with fail
    go_loopg [3] ns.length (fun g i wr => ∃ j : Nat, j + g = ns.length ∧ i = .int .i64 (j : Int) ∧ (ns.take j).all (fun x => decide (x.size ≤ 1000)) = true ∧ w1 = wr)
    case atStart => exact ⟨0, by omega, rfl, by simp, rfl⟩
    case round =>
      obtain ⟨j, hj, rfl, hall, rfl⟩ := hrel
      have HJ := Lib.hid hj
      have HALL := Lib.hid hall
      clear hj hall
      by_cases hlt : j < ns.length
      · obtain ⟨b, o, rfl, hit⟩ := HIN.out.name (by intro e; rw [e] at hlt; simp at hlt)
        have hcell : w1.cell? ⟨b, o + j, none⟩ = some (.string ns[j]) := by
          rw [hb2.cell (World.block_lt_of_cell? w _ (hit j hlt))]; exact hit j hlt
        obtain ⟨y, hy⟩ : ∃ y, ns[j] = y := ⟨_, rfl⟩
        rw [hy] at hcell
        have HY := Lib.hid hy
        clear hy hit
        by_cases hys : y.size ≤ 1000
        · go_wp2_with fail
          go_roundg (gk - 1)
          case measure => have := HJ.out; omega
          case rel =>
            have hj := HJ.out
            exact ⟨j + 1, by omega, by go_num, all_snoc_of hlt HALL.out (by rw [HY.out]; exact hys), rfl⟩
        · go_wp2_with fail
          go_ret
          refine ⟨ret_bool ?_, hb2⟩
          rw [← HB.out, all_false_of hlt (by rw [HY.out]; exact hys)]
          simp
      · have hall : ns.all (fun x => decide (x.size ≤ 1000)) = true := by
          have := HALL.out
          rwa [List.take_of_length_le (by omega)] at this
        have HALL' := Lib.hid hall
        clear hall
        go_wp2_with fail
        go_loopg [4] xs.length (fun g i wr => ∃ j : Nat, j + g = xs.length ∧ i = .int .i64 (j : Int) ∧ AV.fewAll (xs.drop j) = AV.fewAll xs ∧ Below w.heap.size w wr ∧ w.heap.size < wr.heap.size ∧ wr.cell? ⟨w.heap.size, 4, none⟩ = some (.slice xa xs.length xc))
        case atStart => exact ⟨0, by omega, rfl, by simp, hb2, hz2, hc4⟩
        case round =>
          obtain ⟨i, hi, rfl, hrest, hb, hz, hc⟩ := hrel
          have HI := Lib.hid hi
          have HREST := Lib.hid hrest
          clear hi hrest
          by_cases hilt : i < xs.length
          · obtain ⟨b, o, rfl, hit⟩ := HIN.out.item (by intro e; rw [e] at hilt; simp at hilt)
            have hxin : AV.In wr xs[i] := (hit i hilt).2.below hb (Nat.le_refl _)
            have hr : wr.rangeAt b (o + i * 5) xs[i].row := AV.rangeAt_old (fun a ha => hb.cell ha) (hit i hilt).1
            have hmem : xs[i] ∈ xs := List.getElem_mem hilt
            obtain ⟨x, hx⟩ : ∃ x, xs[i] = x := ⟨_, rfl⟩
            rw [hx] at hxin hr hmem
            have HX := Lib.hid hx
            have CALL2 := Lib.hid (IH.out x hmem wr hxin)
            have HRR := Lib.hid hr
            have hdrop := AV.fewAll_drop hilt hx
            cases hf : AV.few x
            · rw [hf] at CALL2 hdrop
              rw [HREST.out] at hdrop
              have HD := Lib.hid hdrop
              clear hx hit hr hdrop hf
              go_wp2_with (first | ((with_reducible refine wpList_item HRR.out ?_ ?_); rfl) | (go_at_call 23; refine CALL2.out.mono ?_; rintro e w2 ⟨rfl, hb3⟩))
              go_ret
              refine ⟨ret_bool ?_, hb.trans (hb3.mono hb.size)⟩
              rw [← HB.out, HD.out]
              simp
            · rw [hf] at CALL2 hdrop
              rw [HREST.out] at hdrop
              have HD := Lib.hid hdrop
              clear hx hit hr hdrop hf
              go_wp2_with (first | ((with_reducible refine wpList_item HRR.out ?_ ?_); rfl) | (go_at_call 23; refine CALL2.out.mono ?_; rintro e w2 ⟨rfl, hb3⟩))
              go_roundg (gk - 1)
              case measure => have := HI.out; omega
              case rel =>
                have hi := HI.out
                refine ⟨i + 1, by omega, by go_num, ?_, hb.trans (hb3.mono hb.size), by have := hb3.size; omega, cell_later hc hb3⟩
                rw [HD.out]
                simp
          · have hr : AV.fewAll xs = true := by
              rw [← HREST.out, List.drop_eq_nil_of_le (by omega)]; rfl
            have HR := Lib.hid hr
            clear hr
            go_wp2_with fail
            go_ret
            refine ⟨ret_bool ?_, hb⟩
            rw [← HB.out, HR.out, HALL'.out]
            simp [hN, hns, hs]
  · have hB : B = false := by
      rw [← HB.out]
      by_cases h1 : N ≤ 300
      · by_cases h2 : ns.length ≤ 100
        · have h3 : ¬ s.size ≤ 1000 := fun h3 => hbad ⟨h1, h2, h3⟩
          simp [h3]
        · simp [h2]
      · simp [h1]
    subst hB
    go_enter Tryd.func23, Tryd.ntmps23
    go_wp2_with fail
    refine (CALL.out _ (HIN.out.below ((Below.refl w.heap.size w).alloc (Nat.le_refl _) _) (Nat.le_refl _))).mono ?_
    rintro e w1 ⟨rfl, hb1⟩
    have hb2 : Below w.heap.size w w1 := ((Below.refl w.heap.size w).alloc (Nat.le_refl _) _).trans (hb1.mono (by simp))
    have hc3 : w1.cell? ⟨w.heap.size, 3, none⟩ = some (.slice na ns.length nc) := cell_later (by simp) hb1
    have hc2 : w1.cell? ⟨w.heap.size, 2, none⟩ = some (.string s) := cell_later (by simp) hb1
    go_wp2_with fail
    all_goals
      go_ret
      exact ⟨rfl, hb2⟩

theorem few_any : ∀ (t : AV) (w : World), t.In w → Calls Tryd.prog 23 #[t.val] w fun e w' => e = .returned (.bool (AV.few t)) ∧ Below w.heap.size w w' := by
  intro t
  induction t using AV.ind with
  | h k n s na nc ns xa xc xs ih => exact fun w hin => few_step k n s na nc ns xa xc xs w hin ih
end Go.Proofs.YtcbfbmidekmboaaDoor
