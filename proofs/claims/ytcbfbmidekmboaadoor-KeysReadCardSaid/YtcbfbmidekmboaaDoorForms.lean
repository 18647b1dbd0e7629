/- Whether a value is formed: what the program answers, for arrays and objects, and so for every value. -/
import Derived.Test.YtcbfbmidekmboaaDoorFormj
namespace Go.Proofs.YtcbfbmidekmboaaDoor
open Go.ChangeShapes Go.WideShapes Go.Deep Go.RowKit Go.Lib

/-- Items lie there. -/
def AV.Its (w : World) (xa : Option Addr) (xs : List AV) : Prop := xs = [] ∨ ∃ b o, xa = some ⟨b, o, none⟩ ∧ ∀ i (h : i < xs.length), w.rangeAt b (o + i * 5) xs[i].row ∧ xs[i].In w

theorem AV.In.its {w : World} {k n : Int} {s : ByteArray} {na : Option Addr} {nc : Nat} {ns : List ByteArray} {xa : Option Addr} {xc : Nat} {xs : List AV} (h : In w (mk k n s na nc ns xa xc xs)) : AV.Its w xa xs := by
  by_cases hne : xs = []
  · exact .inl hne
  · exact .inr (h.item hne)

theorem AV.Its.below {w w' : World} {xa : Option Addr} {xs : List AV} (h : AV.Its w xa xs) (hb : Below w.heap.size w w') : AV.Its w' xa xs := by
  rcases h with h | ⟨b, o, e, h⟩
  · exact .inl h
  · exact .inr ⟨b, o, e, fun i hi => ⟨AV.rangeAt_old (fun a ha => hb.cell ha) (h i hi).1, (h i hi).2.below hb (Nat.le_refl _)⟩⟩

/-- What is asked of the call for each item. -/
def FormedAt (x : AV) : Prop := ∀ (m : Int) (w : World), x.In w → 0 ≤ m → m ≤ 1000 → Tabs w → Calls Tryd.prog 29 #[x.val, .int .i64 m] w fun e w' => e = .returned (.bool (AV.formedJ x m.toNat)) ∧ Below w.heap.size w w'

set_option maxHeartbeats 800000 in
set_option maxRecDepth 100000 in
theorem formedItems_any (m : Int) (xa : Option Addr) (xc : Nat) (xs : List AV) (w : World) (hin : AV.Its w xa xs) (hl : xs.length ≤ 9223372036854775807) (h1 : 0 ≤ m) (h2 : m ≤ 1000) (hT : Tabs w) (IH : Hid (∀ x ∈ xs, FormedAt x)) :
    Calls Tryd.prog 46 #[.slice xa xs.length xc, .int .i64 m] w fun e w' => e = .returned (.bool (decide (xs.length ≤ 24) && AV.allJ xs m.toNat)) ∧ Below w.heap.size w w' := by
  have HIN := Lib.hid hin
  have HT := Lib.hid hT
  clear hin hT
  by_cases h24 : xs.length ≤ 24
  · rw [decide_eq_true h24, Bool.true_and]
    obtain ⟨B, hB⟩ : ∃ B, AV.allJ xs m.toNat = B := ⟨_, rfl⟩
    rw [hB]
    have HB := Lib.hid hB
    clear hB
    go_enter Tryd.func46, Tryd.ntmps46
    go_wp2_with fail
    go_loopg [12] xs.length (fun g i wr => ∃ j : Nat, j + g = xs.length ∧ i = .int .i64 (j : Int) ∧ AV.allJ (xs.drop j) m.toNat = B ∧ Below w.heap.size w wr)
    case atStart => exact ⟨0, by omega, rfl, HB.out, Below.refl _ _⟩
    case round =>
      obtain ⟨j, hj, rfl, hrest, hb⟩ := hrel
      have HJ := Lib.hid hj
      have HREST := Lib.hid hrest
      clear hj hrest
      by_cases hlt : j < xs.length
      · obtain ⟨b, o, rfl, hit⟩ := (HIN.out).resolve_left (by intro e; rw [e] at hlt; simp at hlt)
        have hxin : AV.In wr xs[j] := (hit j hlt).2.below hb (Nat.le_refl _)
        have hr : wr.rangeAt b (o + j * 5) xs[j].row := AV.rangeAt_old (fun a ha => hb.cell ha) (hit j hlt).1
        have hmem : xs[j] ∈ xs := List.getElem_mem hlt
        obtain ⟨x, hx⟩ : ∃ x, xs[j] = x := ⟨_, rfl⟩
        have hd := AV.allJ_drop (lv := m.toNat) hlt hx
        rw [HREST.out] at hd
        rw [hx] at hxin hr hmem
        have HX := Lib.hid hx
        have hTr := HT.out.later hb
        have CALL := Lib.hid (fun W hW hT => IH.out _ hmem m W hW h1 h2 hT)
        cases hf : AV.formedJ x m.toNat
        · rw [hf] at hd CALL
          have hB : B = false := by rw [hd]; simp
          subst hB
          obtain ⟨k', n', s', na', nc', ns', xa', xc', xs'⟩ := x
          have HR := Lib.hid hr
          have HTR := Lib.hid hTr
          clear hx hit hr hd hTr hf
          go_wp2_with (first | ((with_reducible refine wpList_item_out HR.out ?_ ?_); rfl))
          have hb0 := (Below.refl wr.heap.size wr).alloc (Nat.le_refl _) (.cells #[.int .i64 k', .int .i64 n', .string s', .slice na' ns'.length nc', .slice xa' xs'.length xc'] 25)
          refine (CALL.out _ (hxin.below hb0 (Nat.le_refl _)) (HTR.out.later hb0)).mono ?_
          rintro e w1 ⟨rfl, hb1⟩
          have hb2 : Below wr.heap.size wr w1 := hb0.trans (hb1.mono (by simp))
          clear hb0
          go_wp2_with fail
          go_ret
          exact ⟨rfl, hb.trans (hb2.mono hb.size)⟩
        · rw [hf] at hd CALL
          have hd2 : AV.allJ (xs.drop (j + 1)) m.toNat = B := by rw [hd]; simp
          have HD := Lib.hid hd2
          obtain ⟨k', n', s', na', nc', ns', xa', xc', xs'⟩ := x
          have HR := Lib.hid hr
          have HTR := Lib.hid hTr
          clear hx hit hr hd hTr hf hd2
          go_wp2_with (first | ((with_reducible refine wpList_item_out HR.out ?_ ?_); rfl))
          have hb0 := (Below.refl wr.heap.size wr).alloc (Nat.le_refl _) (.cells #[.int .i64 k', .int .i64 n', .string s', .slice na' ns'.length nc', .slice xa' xs'.length xc'] 25)
          refine (CALL.out _ (hxin.below hb0 (Nat.le_refl _)) (HTR.out.later hb0)).mono ?_
          rintro e w1 ⟨rfl, hb1⟩
          have hb2 : Below wr.heap.size wr w1 := hb0.trans (hb1.mono (by simp))
          clear hb0
          go_wp2_with fail
          go_roundg (gk - 1)
          case measure => have := HJ.out; omega
          case rel => exact ⟨j + 1, by have := HJ.out; omega, by go_num, HD.out, hb.trans (hb2.mono hb.size)⟩
      · have hB : B = true := by rw [← HREST.out, List.drop_eq_nil_of_le (by omega)]; rfl
        subst hB
        go_wp2_with fail
        go_ret
        exact ⟨rfl, hb⟩
  · rw [decide_eq_false h24, Bool.false_and]
    go_enter Tryd.func46, Tryd.ntmps46
    go_wp2_with fail
    go_ret
    exact ⟨rfl, Below.refl _ _⟩

theorem len_same {α β : Type} (l : List α) (r : List β) : ((l.length : Int) == (r.length : Int)) = decide (l.length = r.length) := by
  by_cases h : l.length = r.length
  · simp [h]
  · rw [decide_eq_false h, beq_eq_false_iff_ne]
    omega

set_option maxHeartbeats 800000 in
set_option maxRecDepth 100000 in
theorem formed_arr (n m : Int) (s : ByteArray) (na : Option Addr) (nc : Nat) (ns : List ByteArray) (xa : Option Addr) (xc : Nat) (xs : List AV) (w : World) (hin : (AV.mk 5 n s na nc ns xa xc xs).In w) (h1 : 1 ≤ m) (h2 : m ≤ 1000) (hT : Tabs w) (IH : Hid (∀ x ∈ xs, FormedAt x)) :
    Calls Tryd.prog 29 #[(AV.mk 5 n s na nc ns xa xc xs).val, .int .i64 m] w fun e w' => e = .returned (.bool (decide (n = 0) && (decide (s.toList = []) && (decide (ns = []) && (decide (xs.length ≤ 24) && AV.allJ xs (m.toNat - 1)))))) ∧ Below w.heap.size w w' := by
  have hm1 : (m == 0) = false := by simp; omega
  have hits := hin.its
  have hl := hin.lens.2.2
  have CALL := Lib.hid (fun W (hb : Below w.heap.size w W) => formedItems_any (m - 1) xa xc xs W (hits.below hb) hl (by omega) (by omega) (hT.later hb) IH)
  rw [show (m - 1).toNat = m.toNat - 1 by omega] at CALL
  obtain ⟨V, hV⟩ : ∃ V, (decide (xs.length ≤ 24) && AV.allJ xs (m.toNat - 1)) = V := ⟨_, rfl⟩
  rw [hV] at CALL ⊢
  clear hV hits hT hin
  simp only [AV.val, AV.row]
  by_cases hgood : n = 0 ∧ s.toList = [] ∧ ns = []
  · obtain ⟨rfl, hs, rfl⟩ := hgood
    go_enter Tryd.func29, Tryd.ntmps29
    go_wp2_with (go_at_call 46; refine (CALL.out _ ((Below.refl _ _).alloc (Nat.le_refl _) _)).mono ?_; rintro e w1 ⟨rfl, hb1⟩; have hb2 : Below w.heap.size w w1 := ((Below.refl w.heap.size w).alloc (Nat.le_refl _) _).trans (hb1.mono (by simp)))
    go_ret
    exact ⟨ret_bool (by simp [hs]), hb2⟩
  · have hB : (decide (n = 0) && (decide (s.toList = []) && (decide (ns = []) && V))) = false := by
      by_cases a : n = 0
      · by_cases b : s.toList = []
        · have c : ¬ ns = [] := fun c => hgood ⟨a, b, c⟩
          simp [c]
        · simp [b]
      · simp [a]
    rw [hB]
    clear hB
    go_enter Tryd.func29, Tryd.ntmps29
    go_wp2_with fail
    all_goals
      first
        | (exfalso; exact hgood ⟨by assumption, by assumption, by assumption⟩)
        | (go_ret; exact ⟨rfl, (Below.refl _ _).alloc (Nat.le_refl _) _⟩)

theorem AV.In.names {w : World} {k n : Int} {s : ByteArray} {na : Option Addr} {nc : Nat} {ns : List ByteArray} {xa : Option Addr} {xc : Nat} {xs : List AV} (h : In w (mk k n s na nc ns xa xc xs)) : AV.NamesIn w na ns ∧ ∀ x ∈ ns, x.size ≤ maxLen := by
  rw [In] at h
  obtain ⟨_, _, _, _, _, _, _, h8, h9, _⟩ := h
  exact ⟨h9, h8⟩

theorem AV.NamesIn.below {w w' : World} {na : Option Addr} {ns : List ByteArray} (h : AV.NamesIn w na ns) (hb : Below w.heap.size w w') : AV.NamesIn w' na ns := by
  rcases h with h | ⟨b, o, e, h⟩
  · exact .inl h
  · exact .inr ⟨b, o, e, fun i hi => cell_later (h i hi) hb⟩

theorem AV.In.text {w : World} {k n : Int} {s : ByteArray} {na : Option Addr} {nc : Nat} {ns : List ByteArray} {xa : Option Addr} {xc : Nat} {xs : List AV} (h : In w (mk k n s na nc ns xa xc xs)) : s.size ≤ maxLen := by
  rw [In] at h
  exact h.2.2.1

set_option maxHeartbeats 800000 in
set_option maxRecDepth 100000 in
theorem formed_obj (n m : Int) (s : ByteArray) (na : Option Addr) (nc : Nat) (ns : List ByteArray) (xa : Option Addr) (xc : Nat) (xs : List AV) (w : World) (hin : (AV.mk 6 n s na nc ns xa xc xs).In w) (h1 : 1 ≤ m) (h2 : m ≤ 1000) (hT : Tabs w) (IH : Hid (∀ x ∈ xs, FormedAt x)) :
    Calls Tryd.prog 29 #[(AV.mk 6 n s na nc ns xa xc xs).val, .int .i64 m] w fun e w' => e = .returned (.bool (decide (n = 0) && (decide (s.toList = []) && (decide (ns.length = xs.length) && ((decide (xs.length ≤ 24) && AV.allJ xs (m.toNat - 1)) && namesOk none ns))))) ∧ Below w.heap.size w w' := by
  have hm1 : (m == 0) = false := by simp; omega
  have hits := hin.its
  obtain ⟨hnin, hnsz⟩ := hin.names
  have hl := hin.lens.2.2
  have hl2 := hin.lens.2.1
  have CALL := Lib.hid (fun W (hb : Below w.heap.size w W) => formedItems_any (m - 1) xa xc xs W (hits.below hb) hl (by omega) (by omega) (hT.later hb) IH)
  have CALL2 := Lib.hid (fun W (hb : Below w.heap.size w W) => formedNames_any na nc ns W (hnin.below hb) hnsz hl2 (hT.later hb))
  rw [show (m - 1).toNat = m.toNat - 1 by omega] at CALL
  obtain ⟨V, hV⟩ : ∃ V, (decide (xs.length ≤ 24) && AV.allJ xs (m.toNat - 1)) = V := ⟨_, rfl⟩
  obtain ⟨U, hU⟩ : ∃ U, namesOk none ns = U := ⟨_, rfl⟩
  rw [hV] at CALL ⊢
  rw [hU] at CALL2 ⊢
  clear hV hU hits hT hin hnin hnsz
  simp only [AV.val, AV.row]
  by_cases hgood : n = 0 ∧ s.toList = [] ∧ ns.length = xs.length
  · obtain ⟨rfl, hs, hlen⟩ := hgood
    have e1 : ((ns.length : Int) == (xs.length : Int)) = true := by simp [hlen]
    have HLEN := Lib.hid hlen
    clear hlen
    go_enter Tryd.func29, Tryd.ntmps29
    go_wp2_with fail
    refine (CALL.out _ ((Below.refl _ _).alloc (Nat.le_refl _) _)).mono ?_
    rintro e w1 ⟨rfl, hb1⟩
    have hb2 : Below w.heap.size w w1 := ((Below.refl w.heap.size w).alloc (Nat.le_refl _) _).trans (hb1.mono (by simp))
    have hc3 : w1.cell? ⟨w.heap.size, 3, none⟩ = some (.slice na ns.length nc) := cell_later (by simp) hb1
    cases V
    · go_wp2_with fail
      go_ret
      exact ⟨ret_bool (by simp), hb2⟩
    · go_wp2_with fail
      refine (CALL2.out _ hb2).mono ?_
      rintro e w2 ⟨rfl, hb3⟩
      go_wp2_with fail
      go_ret
      exact ⟨ret_bool (by simp [hs, HLEN.out]), hb2.trans (hb3.mono hb2.size)⟩
  · have hB : (decide (n = 0) && (decide (s.toList = []) && (decide (ns.length = xs.length) && (V && U)))) = false := by
      by_cases a : n = 0
      · by_cases b : s.toList = []
        · have c : ¬ ns.length = xs.length := fun c => hgood ⟨a, b, c⟩
          simp [c]
        · simp [b]
      · simp [a]
    rw [hB]
    clear hB
    by_cases hlen : ns.length = xs.length
    · have e1 : ((ns.length : Int) == (xs.length : Int)) = true := by simp [hlen]
      have hgood' : ¬ (n = 0 ∧ s.toList = []) := fun h => hgood ⟨h.1, h.2, hlen⟩
      clear hlen hgood
      go_enter Tryd.func29, Tryd.ntmps29
      go_wp2_with fail
      all_goals
        first
          | (exfalso; exact hgood' ⟨by assumption, by assumption⟩)
          | (go_ret; exact ⟨rfl, (Below.refl _ _).alloc (Nat.le_refl _) _⟩)
    · have e1 : ((ns.length : Int) == (xs.length : Int)) = false := by rw [beq_eq_false_iff_ne]; omega
      clear hlen hgood
      go_enter Tryd.func29, Tryd.ntmps29
      go_wp2_with fail
      all_goals
        go_ret
        exact ⟨rfl, (Below.refl _ _).alloc (Nat.le_refl _) _⟩

theorem jformed_any : ∀ t : AV, FormedAt t := by
  intro t
  induction t using AV.ind with
  | h k n s na nc ns xa xc xs ih =>
    intro m w hin h1 h2 hT
    by_cases hm : m = 0
    · subst hm
      have e : AV.formedJ (.mk k n s na nc ns xa xc xs) (0 : Int).toNat = false := by simp [AV.formedJ]
      rw [e]
      exact formed_zero _ w
    · have hn0 : m.toNat ≠ 0 := by omega
      rw [AV.formedJ, if_neg hn0]
      by_cases k012 : k = 0 ∨ k = 1 ∨ k = 2
      · rw [if_pos k012]
        exact formed_plain k n m s na nc ns xa xc xs w (by omega) h2 k012
      · rw [if_neg k012]
        by_cases k3 : k = 3
        · subst k3
          rw [if_pos rfl]
          exact formed_num n m s na nc ns xa xc xs w (by omega) h2
        · rw [if_neg k3]
          by_cases k4 : k = 4
          · subst k4
            rw [if_pos rfl]
            exact formed_str n m s na nc ns xa xc xs w (by omega) h2 hin.text hT
          · rw [if_neg k4]
            by_cases k5 : k = 5
            · subst k5
              rw [if_pos rfl]
              exact formed_arr n m s na nc ns xa xc xs w hin (by omega) h2 hT ih
            · rw [if_neg k5]
              by_cases k6 : k = 6
              · subst k6
                rw [if_pos rfl]
                exact formed_obj n m s na nc ns xa xc xs w hin (by omega) h2 hT ih
              · rw [if_neg k6]
                exact formed_none k n m s na nc ns xa xc xs w (by omega) h2 (fun e => k012 (.inl e)) (fun e => k012 (.inr (.inl e))) (fun e => k012 (.inr (.inr e))) k3 k4 k5 k6

/-- Formed. -/
theorem Formed_any (t : AV) (w : World) (hin : t.In w) (hT : Tabs w) : Calls Tryd.prog 17 #[t.val] w fun e w' => e = .returned (.bool (AV.formedJ t 6)) ∧ Below w.heap.size w w' := by
  have CALL := Lib.hid (fun W (hb : Below w.heap.size w W) => jformed_any t 6 W (hin.below hb (Nat.le_refl _)) (by omega) (by omega) (hT.later hb))
  obtain ⟨k, n, s, na, nc, ns, xa, xc, xs⟩ := t
  clear hin hT
  simp only [AV.val, AV.row] at CALL ⊢
  go_enter Tryd.func17, Tryd.ntmps17
  go_wp2_with fail
  refine (CALL.out _ ((Below.refl w.heap.size w).alloc (Nat.le_refl _) _)).mono ?_
  rintro e w1 ⟨rfl, hb1⟩
  have hb2 : Below w.heap.size w w1 := ((Below.refl w.heap.size w).alloc (Nat.le_refl _) _).trans (hb1.mono (by simp))
  go_wp2_with fail
  go_ret
  exact ⟨rfl, hb2⟩
end Go.Proofs.YtcbfbmidekmboaaDoor
