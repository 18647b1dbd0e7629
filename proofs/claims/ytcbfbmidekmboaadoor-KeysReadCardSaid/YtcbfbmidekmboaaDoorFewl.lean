/- How many values are looked at: what the calls answer; no condition of ours. -/
import Derived.Test.YtcbfbmidekmboaaDoorFew
import Derived.Test.YtcbfbmidekmboaaDoorHelps
import Derived.Test.YtcbfbmidekmboaaDoorBsame
namespace Go.Proofs.YtcbfbmidekmboaaDoor
open Go.ChangeShapes Go.WideShapes Go.Deep Go.RowKit Go.Lib

/-- A value of one kind and one number, nothing else. -/
def AV.num (k n : Int) : AV := .mk k n ⟨#[]⟩ none 0 [] none 0 []

theorem num_in (w : World) {k n : Int} (hk : (Lit.int .i64 k).wf = true) (hn : (Lit.int .i64 n).wf = true) : (AV.num k n).In w := by
  rw [AV.num, AV.In]
  exact ⟨hk, hn, Nat.zero_le _, by simp, by simp [maxLen], by simp, by simp [maxLen], by simp, .inl rfl, (fun b o e => by cases e), .inl rfl⟩

/-- Few enough, from so many nodes on. -/
def fewL : Nat → List AV → Bool
  | acc, [] => decide (acc ≤ 600)
  | acc, x :: xs => if acc ≤ 600 then AV.few x && fewL (acc + AV.nodes x 40) xs else false

theorem fewL_drop {xs : List AV} {j acc : Nat} {x : AV} (hlt : j < xs.length) (hx : xs[j] = x) (h : acc ≤ 600) : fewL acc (xs.drop j) = (AV.few x && fewL (acc + AV.nodes x 40) (xs.drop (j + 1))) := by
  rw [List.drop_eq_getElem_cons hlt, fewL, hx, if_pos h]

theorem fewL_big {acc : Nat} (h : ¬ acc ≤ 600) : ∀ xs, fewL acc xs = false
  | [] => by rw [fewL]; simpa using h
  | x :: xs => by rw [fewL, if_neg h]

theorem fewL_mem : ∀ {xs : List AV} {acc : Nat}, fewL acc xs = true → ∀ x ∈ xs, AV.few x = true
  | x :: xs, acc, h, y, hy => by
    rw [fewL] at h
    by_cases ha : acc ≤ 600
    · rw [if_pos ha, Bool.and_eq_true] at h
      rcases List.mem_cons.1 hy with rfl | hy
      · exact h.1
      · exact fewL_mem h.2 y hy
    · rw [if_neg ha] at h; cases h

set_option maxHeartbeats 4000000 in
set_option maxRecDepth 100000 in
theorem fewL_any (xa : Option Addr) (xc : Nat) (xs : List AV) (w : World) (hits : AV.Its w xa xs) (hl : xs.length ≤ 9223372036854775807) : Calls Tryd.prog 10 #[.slice xa xs.length xc] w fun e w' => e = .returned (.bool (fewL 0 xs)) ∧ Below w.heap.size w w' := by
  have HITS := Lib.hid hits
  obtain ⟨C, hC⟩ : ∃ C, fewL 0 xs = C := ⟨_, rfl⟩
  rw [hC]
  have HC := Lib.hid hC
  clear hits hC
  go_enter Tryd.func10, Tryd.ntmps10
  go_wp2_with fail
  go_loopg [3, 4] xs.length (fun g a i wr => ∃ j acc : Nat, j + g = xs.length ∧ i = .int .i64 (j : Int) ∧ a = .int .i64 (acc : Int) ∧ acc ≤ 2000 ∧ fewL acc (xs.drop j) = C ∧ Below w.heap.size w wr)
  case atStart => exact ⟨0, 0, by omega, rfl, rfl, by omega, HC.out, Below.refl _ _⟩
  case round =>
    obtain ⟨j, acc, hj, rfl, rfl, hacc, hrest, hb⟩ := hrel
    have HJ := Lib.hid hj
    have HREST := Lib.hid hrest
    clear hj hrest
    by_cases hlt : j < xs.length
    · by_cases h600 : acc ≤ 600
      · obtain ⟨bx, ox, rfl, hit⟩ := (HITS.out).resolve_left (by intro e; rw [e] at hlt; simp at hlt)
        have hr : wr.rangeAt bx (ox + j * 5) xs[j].row := AV.rangeAt_old (fun a ha => hb.cell ha) (hit j hlt).1
        have hxin : AV.In wr xs[j] := (hit j hlt).2.below hb (Nat.le_refl _)
        obtain ⟨x, hx⟩ : ∃ x, xs[j] = x := ⟨_, rfl⟩
        have hd := fewL_drop hlt hx h600
        rw [HREST.out] at hd
        rw [hx] at hr hxin
        have NODES := Lib.hid (Nodes_any x wr hxin)
        have FEW := Lib.hid (fun W (h : Below wr.heap.size wr W) => few_any x W (hxin.below h (Nat.le_refl _)))
        have hn := AV.nodes_le x 40
        obtain ⟨M, hM⟩ : ∃ M, AV.nodes x 40 = M := ⟨_, rfl⟩
        obtain ⟨F, hF⟩ : ∃ F, AV.few x = F := ⟨_, rfl⟩
        rw [hM] at NODES hn hd
        rw [hF] at FEW hd
        have HD := Lib.hid hd
        obtain ⟨k1, n1, s1, na1, nc1, ns1, xa1, xc1, xs1⟩ := x
        have HR := Lib.hid hr
        clear hx hd hM hF hit hr hxin
        simp only [AV.val, AV.row] at NODES FEW
        go_wp2_with ((with_reducible refine wpList_item_out HR.out ?_ ?_); rfl)
        refine NODES.out.mono ?_
        rintro e w1 ⟨rfl, hb1⟩
        have HR1 := Lib.hid (AV.rangeAt_old (fun a ha => hb1.cell ha) HR.out)
        have hb2 := hb.trans (hb1.mono hb.size)
        go_wp2_with ((with_reducible refine wpList_item_out HR1.out ?_ ?_); rfl)
        refine (FEW.out _ hb1).mono ?_
        rintro e w2 ⟨rfl, hb3⟩
        have hb4 := hb2.trans (hb3.mono hb2.size)
        cases F
        · have hCf : C = false := by rw [HD.out]; rfl
          have HCF := Lib.hid hCf
          clear hCf
          go_wp2_with fail
          go_ret
          exact ⟨ret_bool HCF.out.symm, hb4⟩
        · go_wp2_with fail
          go_roundg (gk - 1)
          case measure => have := HJ.out; omega
          case rel => exact ⟨j + 1, acc + M, by have := HJ.out; omega, by go_num, by go_num, by omega, by rw [HD.out]; simp, hb4⟩
      · have hCf : C = false := by rw [← HREST.out]; exact fewL_big h600 _
        have HCF := Lib.hid hCf
        clear hCf
        go_wp2_with fail
        go_ret
        exact ⟨ret_bool (by rw [HCF.out]; exact decide_eq_false (by omega)), hb⟩
    · have hCe : C = decide (acc ≤ 600) := by rw [← HREST.out, show xs.drop j = [] from List.drop_eq_nil_of_le (by omega), fewL]
      have HCE := Lib.hid hCe
      clear hCe
      go_wp2_with fail
      go_ret
      exact ⟨ret_bool (by rw [HCE.out]; exact decide_eq_decide.2 (by omega)), hb⟩
end Go.Proofs.YtcbfbmidekmboaaDoor
