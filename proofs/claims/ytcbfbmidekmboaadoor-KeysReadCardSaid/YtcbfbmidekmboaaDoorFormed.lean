/- Whether a value is formed: the program and the document answer alike, for every value. -/
import Derived.Test.YtcbfbmidekmboaaDoorFormo
namespace Go.Proofs.YtcbfbmidekmboaaDoor
open Go.ChangeShapes Go.WideShapes Go.Deep Go.RowKit Go.Lib

set_option maxHeartbeats 1600000 in
set_option maxRecDepth 100000 in
theorem rbad_obj2 (s : ByteArray) (na : Option Addr) (nc : Nat) (ns : List ByteArray) (xa : Option Addr) (xc : Nat) (xs : List AV) (w : World) (hsz : s.size ≤ maxLen) (hs : s.toList = []) (hxs : xs.length ≤ 24) (hlen : ns.length ≠ xs.length) :
    Calls Tryd.prog 39 #[(AV.mk 6 0 s na nc ns xa xc xs).val] w fun e w' => e = .returned (.bool false) ∧ Below w.heap.size w w' := by
  have CALL := Lib.hid (fun W => text_any s W hsz)
  obtain ⟨V, hV⟩ : ∃ V, textOk s = V := ⟨_, rfl⟩
  rw [hV] at CALL
  clear hV hsz
  have e1 : ((ns.length : Int) == (xs.length : Int)) = false := by rw [beq_eq_false_iff_ne]; omega
  have e2 : ((ns.length : Int) != (xs.length : Int)) = true := by simp; omega
  clear hlen
  simp only [AV.val, AV.row]
  cases V
  all_goals
    go_enter Tryd.func39, Tryd.ntmps39
    go_wp2_with fail
    refine (CALL.out _).mono ?_
    rintro e w1 ⟨rfl, hb1⟩
    have hb2 : Below w.heap.size w w1 := ((Below.refl w.heap.size w).alloc (Nat.le_refl _) _).trans (hb1.mono (by simp))
    have hz2 : w.heap.size < w1.heap.size := by have := hb1.size; simp at this; omega
    have hc0 : w1.cell? ⟨w.heap.size, 0, none⟩ = some (.int .i64 6) := cell_later (by simp) hb1
    have hc3 : w1.cell? ⟨w.heap.size, 3, none⟩ = some (.slice na ns.length nc) := cell_later (by simp) hb1
    have hc4 : w1.cell? ⟨w.heap.size, 4, none⟩ = some (.slice xa xs.length xc) := cell_later (by simp) hb1
    go_wp2_with fail
    go_ret
    exact ⟨rfl, hb2⟩

theorem rformed_any : ∀ t : AV, RFormedAt t := by
  intro t
  induction t using AV.ind with
  | h k n s na nc ns xa xc xs ih =>
    intro w hin
    have hs := hin.text
    obtain ⟨hnin, hnsz⟩ := hin.names
    have hits := hin.its
    have hl2 := hin.lens.2.1
    have hl3 := hin.lens.2.2
    rw [AV.formedR]
    by_cases k0 : k < 0
    · rw [if_neg (fun h => by omega)]; exact rbad1 k n s na nc ns xa xc xs w k0
    · by_cases k6 : 6 < k
      · rw [if_neg (fun h => by omega)]; exact rbad2 k n s na nc ns xa xc xs w (by omega) k6
      · by_cases hn : k = 3 ∨ n = 0
        · by_cases hse : k = 4 ∨ s.toList = []
          · by_cases hk : k = 0 ∨ k = 1 ∨ k = 2 ∨ k = 3 ∨ k = 4
            · by_cases hns : ns.length ≤ 0
              · by_cases hxs : xs.length ≤ 0
                · have hns' : ns = [] := List.length_eq_zero_iff.1 (by omega)
                  have hxs' : xs = [] := List.length_eq_zero_iff.1 (by omega)
                  subst hns' hxs'
                  rw [if_pos (by refine ⟨by omega, by omega, hn, hse, .inr (by simp), .inr (by simp), by simp, fun h => by omega⟩)]
                  have e : (textOk s && (namesOk none [] && AV.allR [])) = textOk s := by simp [namesOk, AV.allR]
                  rw [e]
                  rcases hk with rfl | rfl | rfl | rfl | rfl
                  · obtain rfl : n = 0 := by omega
                    exact rleaf0 s na nc xa xc w hs (hse.resolve_left (by omega))
                  · obtain rfl : n = 0 := by omega
                    exact rleaf1 s na nc xa xc w hs (hse.resolve_left (by omega))
                  · obtain rfl : n = 0 := by omega
                    exact rleaf2 s na nc xa xc w hs (hse.resolve_left (by omega))
                  · exact rleaf3 n s na nc xa xc w hs (hse.resolve_left (by omega))
                  · obtain rfl : n = 0 := by omega
                    exact rleaf4 s na nc xa xc w hs
                · rw [if_neg (fun h => by omega)]; exact rbad_leaf1 k n s na nc ns xa xc xs w hk hn hse hns (by omega)
              · rw [if_neg (fun h => by omega)]; exact rbad_leaf0 k n s na nc ns xa xc xs w hk hn hse (by omega)
            · have hn0 : n = 0 := by omega
              have hs0 : s.toList = [] := hse.resolve_left (by omega)
              subst hn0
              by_cases k5 : k = 5
              · subst k5
                by_cases hns : ns.length ≤ 0
                · by_cases hxs : xs.length ≤ 24
                  · have hns' : ns = [] := List.length_eq_zero_iff.1 (by omega)
                    subst hns'
                    rw [if_pos (by refine ⟨by omega, by omega, .inr rfl, hse, .inr (by simp), .inl (by omega), hxs, fun h => by omega⟩)]
                    have e : (textOk s && (namesOk none [] && AV.allR xs)) = (textOk s && AV.allR xs) := by simp [namesOk]
                    rw [e]
                    exact rarr s na nc xa xc xs w hs hits hl3 hs0 hxs ih
                  · rw [if_neg (fun h => by omega)]; exact rbad_arr1 s na nc ns xa xc xs w hs0 hns (by omega)
                · rw [if_neg (fun h => by omega)]; exact rbad_arr0 s na nc ns xa xc xs w hs0 (by omega)
              · obtain rfl : k = 6 := by omega
                by_cases hxs : xs.length ≤ 24
                · by_cases hlen : ns.length = xs.length
                  · rw [if_pos (by refine ⟨by omega, by omega, .inr rfl, hse, .inl rfl, .inl (by omega), hxs, fun _ => hlen⟩)]
                    exact robj s na nc ns xa xc xs w hs hnin hnsz hits hl2 hl3 hs0 hxs hlen ih
                  · rw [if_neg (fun h => hlen (h.2.2.2.2.2.2.2 rfl))]; exact rbad_obj2 s na nc ns xa xc xs w hs hs0 hxs hlen
                · rw [if_neg (fun h => by omega)]; exact rbad_obj1 s na nc ns xa xc xs w hs0 (by omega)
          · rw [if_neg (fun h => hse h.2.2.2.1)]
            exact rbad4 k n s na nc ns xa xc xs w (by omega) (by omega) (fun h => hse (.inl h)) hn (fun h => hse (.inr h))
        · rw [if_neg (fun h => hn h.2.2.1)]
          exact rbad3 k n s na nc ns xa xc xs w (by omega) (by omega) (fun h => hn (.inl h)) (fun h => hn (.inr h))

theorem allJ_eq {xs : List AV} (ih : ∀ x ∈ xs, ∀ lv : Nat, AV.formedJ x lv = (decide (AV.dep x (lv + 1) ≤ lv) && AV.formedR x)) : ∀ lv : Nat, AV.allJ xs lv = (decide (AV.depAll xs (lv + 1) ≤ lv) && AV.allR xs) := by
  induction xs with
  | nil => intro lv; simp [AV.allJ, AV.depAll, AV.allR]
  | cons x xs hx =>
    intro lv
    rw [AV.allJ, AV.depAll, AV.allR, ih x (by simp), hx (fun y hy => ih y (by simp [hy]))]
    have : decide (max (AV.dep x (lv + 1)) (AV.depAll xs (lv + 1)) ≤ lv) = (decide (AV.dep x (lv + 1) ≤ lv) && decide (AV.depAll xs (lv + 1) ≤ lv)) := by
      rw [← Bool.decide_and, decide_eq_decide]; exact Nat.max_le
    rw [this]
    cases decide (AV.dep x (lv + 1) ≤ lv) <;> cases decide (AV.depAll xs (lv + 1) ≤ lv) <;> cases AV.formedR x <;> simp

/-- The one is the other, and depth. -/
theorem formed_eq : ∀ (t : AV) (lv : Nat), AV.formedJ t lv = (decide (AV.dep t (lv + 1) ≤ lv) && AV.formedR t) := by
  intro t
  induction t using AV.ind with
  | h k n s na nc ns xa xc xs ih =>
    intro lv
    have hall := allJ_eq ih
    by_cases h0 : lv = 0
    · subst h0
      have h1 : 1 ≤ AV.dep (.mk k n s na nc ns xa xc xs) (0 + 1) := by rw [AV.dep, if_pos (.inr rfl)]; exact Nat.le_refl _
      rw [AV.formedJ, if_pos rfl, decide_eq_false (by omega), Bool.false_and]
    · have hempty : s.toList = [] → textOk s = true := fun h => by
        have hz : s.data.toList = [] := by rw [← ByteArray.toList_eq]; exact h
        have hsz : s.size = 0 := by
          have := congrArg List.length hz
          simpa using this
        unfold textOk
        rw [hz, hsz]
        rfl
      have hd1 : decide (1 ≤ lv) = true := decide_eq_true (by omega)
      rw [AV.formedJ, if_neg h0, AV.dep, AV.formedR]
      by_cases k012 : k = 0 ∨ k = 1 ∨ k = 2
      · rw [if_pos k012, if_pos (.inl ⟨by omega, by omega⟩), hd1, Bool.true_and]
        by_cases hg : n = 0 ∧ s.toList = [] ∧ ns = [] ∧ xs = []
        · obtain ⟨rfl, hs, rfl, rfl⟩ := hg
          rw [if_pos ⟨by omega, by omega, .inr rfl, .inr hs, .inr (by simp), .inr (by simp), by simp, fun h => by omega⟩]
          simp [hs, hempty hs, namesOk, AV.allR]
        · rw [if_neg (fun h => hg ⟨h.2.2.1.resolve_left (by omega), h.2.2.2.1.resolve_left (by omega), List.length_eq_zero_iff.1 (by have := h.2.2.2.2.1.resolve_left (by omega); omega), List.length_eq_zero_iff.1 (by have := h.2.2.2.2.2.1.resolve_left (by omega); omega)⟩)]
          by_cases a : n = 0
          · by_cases b : s.toList = []
            · by_cases c : ns = []
              · have d : ¬ xs = [] := fun d => hg ⟨a, b, c, d⟩
                simp [d]
              · simp [c]
            · simp [b]
          · simp [a]
      · rw [if_neg k012]
        by_cases k3 : k = 3
        · subst k3
          rw [if_pos rfl, if_pos (.inl ⟨by omega, by omega⟩), hd1, Bool.true_and]
          by_cases hg : s.toList = [] ∧ ns = [] ∧ xs = []
          · obtain ⟨hs, rfl, rfl⟩ := hg
            rw [if_pos ⟨by omega, by omega, .inl rfl, .inr hs, .inr (by simp), .inr (by simp), by simp, fun h => by omega⟩]
            simp [hs, hempty hs, namesOk, AV.allR]
          · rw [if_neg (fun h => hg ⟨h.2.2.2.1.resolve_left (by omega), List.length_eq_zero_iff.1 (by have := h.2.2.2.2.1.resolve_left (by omega); omega), List.length_eq_zero_iff.1 (by have := h.2.2.2.2.2.1.resolve_left (by omega); omega)⟩)]
            by_cases b : s.toList = []
            · by_cases c : ns = []
              · have d : ¬ xs = [] := fun d => hg ⟨b, c, d⟩
                simp [d]
              · simp [c]
            · simp [b]
        · rw [if_neg k3]
          by_cases k4 : k = 4
          · subst k4
            rw [if_pos rfl, if_pos (.inl ⟨by omega, by omega⟩), hd1, Bool.true_and]
            by_cases hg : n = 0 ∧ ns = [] ∧ xs = []
            · obtain ⟨rfl, rfl, rfl⟩ := hg
              rw [if_pos ⟨by omega, by omega, .inr rfl, .inl rfl, .inr (by simp), .inr (by simp), by simp, fun h => by omega⟩]
              simp [namesOk, AV.allR]
            · rw [if_neg (fun h => hg ⟨h.2.2.1.resolve_left (by omega), List.length_eq_zero_iff.1 (by have := h.2.2.2.2.1.resolve_left (by omega); omega), List.length_eq_zero_iff.1 (by have := h.2.2.2.2.2.1.resolve_left (by omega); omega)⟩)]
              by_cases a : n = 0
              · by_cases c : ns = []
                · have d : ¬ xs = [] := fun d => hg ⟨a, c, d⟩
                  simp [d]
                · simp [c]
              · simp [a]
          · rw [if_neg k4]
            have hdep : ∀ b : Bool, (decide (AV.depAll xs (lv + 1 - 1) + 1 ≤ lv) && b) = (decide (AV.depAll xs (lv - 1 + 1) ≤ lv - 1) && b) := fun b => by
              rw [show lv + 1 - 1 = lv - 1 + 1 by omega]
              congr 1
              rw [decide_eq_decide]
              omega
            by_cases k5 : k = 5
            · subst k5
              rw [if_pos rfl, if_neg (fun h => by omega), hdep, hall (lv - 1)]
              by_cases hg : n = 0 ∧ s.toList = [] ∧ ns = [] ∧ xs.length ≤ 24
              · obtain ⟨rfl, hs, rfl, hx⟩ := hg
                rw [if_pos ⟨by omega, by omega, .inr rfl, .inr hs, .inr (by simp), .inl (by omega), hx, fun h => by omega⟩]
                simp [hs, hempty hs, namesOk, hx]
              · rw [if_neg (fun h => hg ⟨h.2.2.1.resolve_left (by omega), h.2.2.2.1.resolve_left (by omega), List.length_eq_zero_iff.1 (by have := h.2.2.2.2.1.resolve_left (by omega); omega), h.2.2.2.2.2.2.1⟩), Bool.and_false]
                by_cases a : n = 0
                · by_cases b : s.toList = []
                  · by_cases c : ns = []
                    · have d : ¬ xs.length ≤ 24 := fun d => hg ⟨a, b, c, d⟩
                      simp [d]
                    · simp [c]
                  · simp [b]
                · simp [a]
            · rw [if_neg k5]
              by_cases k6 : k = 6
              · subst k6
                rw [if_pos rfl, if_neg (fun h => by omega), hdep, hall (lv - 1)]
                by_cases hg : n = 0 ∧ s.toList = [] ∧ ns.length = xs.length ∧ xs.length ≤ 24
                · obtain ⟨rfl, hs, hl, hx⟩ := hg
                  rw [if_pos ⟨by omega, by omega, .inr rfl, .inr hs, .inl rfl, .inl (by omega), hx, fun _ => hl⟩]
                  rw [hempty hs, decide_eq_true hs, decide_eq_true hl, decide_eq_true hx, decide_eq_true rfl]
                  cases decide (AV.depAll xs (lv - 1 + 1) ≤ lv - 1) <;> cases AV.allR xs <;> simp
                · rw [if_neg (fun h => hg ⟨h.2.2.1.resolve_left (by omega), h.2.2.2.1.resolve_left (by omega), h.2.2.2.2.2.2.2 rfl, h.2.2.2.2.2.2.1⟩), Bool.and_false]
                  by_cases a : n = 0
                  · by_cases b : s.toList = []
                    · by_cases c : ns.length = xs.length
                      · have d : ¬ xs.length ≤ 24 := fun d => hg ⟨a, b, c, d⟩
                        simp [d]
                      · simp [c]
                    · simp [b]
                  · simp [a]
              · rw [if_neg k6, if_pos (.inl ⟨k5, k6⟩), if_neg (fun h => by omega), Bool.and_false]

/-- Formed, by the document. -/
theorem rFormed_any (t : AV) (w : World) (hin : t.In w) : Calls Tryd.prog 25 #[t.val] w fun e w' => e = .returned (.bool (AV.formedJ t 6)) ∧ Below w.heap.size w w' := by
  rw [formed_eq]
  have CALL := Lib.hid (fun W (hb : Below w.heap.size w W) => rDepth_any t W (hin.below hb (Nat.le_refl _)))
  have CALL2 := Lib.hid (fun W (hb : Below w.heap.size w W) => rformed_any t W (hin.below hb (Nat.le_refl _)))
  obtain ⟨D, hD⟩ : ∃ D, AV.dep t (6 + 1) = D := ⟨_, rfl⟩
  obtain ⟨R, hR⟩ : ∃ R, AV.formedR t = R := ⟨_, rfl⟩
  have CALL1 : Hid (∀ W, Below w.heap.size w W → Calls Tryd.prog 38 #[t.val] W fun e w' => e = .returned (.int .i64 (D : Nat)) ∧ Below W.heap.size W w') := fun W hb => by rw [← hD]; exact CALL.out W hb
  rw [hD, hR]
  rw [hR] at CALL2
  obtain ⟨k, n, s, na, nc, ns, xa, xc, xs⟩ := t
  clear hD hR CALL hin
  simp only [AV.val, AV.row] at CALL1 CALL2 ⊢
  by_cases hd : D ≤ 6
  · go_enter Tryd.func25, Tryd.ntmps25
    go_wp2_with fail
    refine (CALL1.out _ ((Below.refl w.heap.size w).alloc (Nat.le_refl _) _)).mono ?_
    rintro e w1 ⟨rfl, hb1⟩
    have hb2 : Below w.heap.size w w1 := ((Below.refl w.heap.size w).alloc (Nat.le_refl _) _).trans (hb1.mono (by simp))
    have hc0 : w1.cell? ⟨w.heap.size, 0, none⟩ = some (.int .i64 k) := cell_later (by simp) hb1
    have hc1 : w1.cell? ⟨w.heap.size, 1, none⟩ = some (.int .i64 n) := cell_later (by simp) hb1
    have hc2 : w1.cell? ⟨w.heap.size, 2, none⟩ = some (.string s) := cell_later (by simp) hb1
    have hc3 : w1.cell? ⟨w.heap.size, 3, none⟩ = some (.slice na ns.length nc) := cell_later (by simp) hb1
    have hc4 : w1.cell? ⟨w.heap.size, 4, none⟩ = some (.slice xa xs.length xc) := cell_later (by simp) hb1
    go_wp2_with fail
    refine (CALL2.out _ hb2).mono ?_
    rintro e w2 ⟨rfl, hb3⟩
    go_wp2_with fail
    go_ret
    exact ⟨ret_bool (by simp [hd]), hb2.trans (hb3.mono hb2.size)⟩
  · go_enter Tryd.func25, Tryd.ntmps25
    go_wp2_with fail
    refine (CALL1.out _ ((Below.refl w.heap.size w).alloc (Nat.le_refl _) _)).mono ?_
    rintro e w1 ⟨rfl, hb1⟩
    have hb2 : Below w.heap.size w w1 := ((Below.refl w.heap.size w).alloc (Nat.le_refl _) _).trans (hb1.mono (by simp))
    go_wp2_with fail
    go_ret
    exact ⟨ret_bool (by simp [hd]), hb2⟩
end Go.Proofs.YtcbfbmidekmboaaDoor
