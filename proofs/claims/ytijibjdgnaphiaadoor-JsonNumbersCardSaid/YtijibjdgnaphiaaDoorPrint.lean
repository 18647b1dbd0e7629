/- What the program prints: the text of a formed value, and of all others none; no condition of ours. -/
import Derived.Test.YtijibjdgnaphiaaDoorShow
import Derived.Lib.ItoaLen
namespace Go.Proofs.YtijibjdgnaphiaaDoor
open Go.ChangeShapes Go.WideShapes Go.Deep Go.RowKit Go.Lib

theorem commaL_length (i : Nat) : (commaL i).length ≤ 1 := by unfold commaL; split <;> simp

theorem itemsL_length {K : Nat} : ∀ {xs : List AV} {i : Nat}, (∀ x ∈ xs, x.text.length ≤ K) → (AV.itemsL i xs).length ≤ xs.length * (K + 1)
  | [], _, _ => by simp [AV.itemsL]
  | x :: xs, i, h => by
    have h1 := h x (by simp)
    have h2 := itemsL_length (xs := xs) (i := i + 1) (fun y hy => h y (List.mem_cons_of_mem _ hy))
    have h3 := commaL_length i
    simp only [AV.itemsL, List.length_append, List.length_cons, Nat.add_mul]
    omega

theorem membersL_length {K : Nat} : ∀ {xs : List AV} {ns : List ByteArray} {i : Nat}, ns.length = xs.length → (∀ y ∈ ns, y.size ≤ 60) → (∀ x ∈ xs, x.text.length ≤ K) → (AV.membersL i ns xs).length ≤ xs.length * (K + 364)
  | [], _, _, _, _, _ => by simp [AV.membersL]
  | x :: xs, y :: ns, i, hl, hs, h => by
    have h1 := h x (by simp)
    have h2 := membersL_length (xs := xs) (ns := ns) (i := i + 1) (by simpa using hl) (fun y hy => hs y (List.mem_cons_of_mem _ hy)) (fun y hy => h y (List.mem_cons_of_mem _ hy))
    have h3 := commaL_length i
    have h4 := quotedL_length y
    have h5 := hs y (by simp)
    simp only [AV.membersL, List.length_append, List.length_cons, Nat.add_mul, List.headD_cons, List.tail_cons]
    omega

theorem allJ_mem {lv : Nat} : ∀ {xs : List AV}, AV.allJ xs lv = true → ∀ x ∈ xs, AV.formedJ x lv = true
  | x :: xs, h, y, hy => by
    rw [AV.allJ] at h
    simp only [Bool.and_eq_true] at h
    rcases List.mem_cons.1 hy with rfl | hy
    · exact h.1
    · exact allJ_mem h.2 y hy

theorem In_item {w : World} {xa : Option Addr} {xs : List AV} (h : AV.Its w xa xs) : ∀ x ∈ xs, x.In w := fun x hx => by
  obtain ⟨i, hi, rfl⟩ := List.getElem_of_mem hx
  rcases h with h | ⟨b, o, _, h⟩
  · subst h; simp at hi
  · exact (h i hi).2

theorem num_range {w : World} {k n : Int} {s : ByteArray} {na : Option Addr} {nc : Nat} {ns : List ByteArray} {xa : Option Addr} {xc : Nat} {xs : List AV} (h : (AV.mk k n s na nc ns xa xc xs).In w) : -9223372036854775808 ≤ n ∧ n ≤ 9223372036854775807 := by
  have hnum : (Lit.int .i64 n).wf = true := by rw [AV.In] at h; exact h.2.1
  have hw : IntKind.i64.min ≤ n ∧ n ≤ IntKind.i64.max := by simpa [Lit.wf] using hnum
  exact ⟨by have := hw.1; rwa [show IntKind.i64.min = -9223372036854775808 from rfl] at this, by have := hw.2; rwa [show IntKind.i64.max = 9223372036854775807 from rfl] at this⟩

/-- How long a text is at most, and that it is not empty. -/
theorem text_length (w : World) : ∀ (t : AV) (lv : Nat), t.In w → AV.formedJ t lv = true → t.text.length ≤ 1000 * 40 ^ lv ∧ t.text ≠ [] := by
  intro t
  induction t using AV.ind with
  | h k n s na nc ns xa xc xs ih =>
    intro lv hin hf
    have hmem := In_item hin.its
    obtain ⟨n0, n1⟩ := num_range hin
    rw [AV.formedJ] at hf
    by_cases h0 : lv = 0
    · rw [if_pos h0] at hf; cases hf
    rw [if_neg h0] at hf
    obtain ⟨m, rfl⟩ : ∃ m, lv = m + 1 := ⟨lv - 1, by omega⟩
    have hp : 1 ≤ 40 ^ m := Nat.one_le_pow _ _ (by decide)
    rw [Nat.pow_succ]
    by_cases k012 : k = 0 ∨ k = 1 ∨ k = 2
    · rw [AV.text]
      rcases k012 with rfl | rfl | rfl
      · exact ⟨by simp; omega, by simp⟩
      · exact ⟨by simp; omega, by simp⟩
      · exact ⟨by simp; omega, by simp⟩
    rw [if_neg k012] at hf
    by_cases k3 : k = 3
    · subst k3
      have e : (AV.mk 3 n s na nc ns xa xc xs).text = Lib.itoa n := by rw [AV.text]; rfl
      rw [e]
      have := Lib.itoa_length_le n n0 n1
      refine ⟨by omega, ?_⟩
      unfold Lib.itoa
      split
      · simp
      · intro e2
        have := congrArg List.length e2
        rw [Lib.decDigits_length] at this
        have h1 := Lib.nDigits_pos n.toNat
        simp at this
        omega
    rw [if_neg k3] at hf
    by_cases k4 : k = 4
    · subst k4
      have e : (AV.mk 4 n s na nc ns xa xc xs).text = quotedL s := by rw [AV.text]; rfl
      rw [e]
      rw [if_pos rfl] at hf
      simp only [Bool.and_eq_true] at hf
      have := textOk_size hf.2.1
      have := quotedL_length s
      exact ⟨by omega, by simp [quotedL]⟩
    rw [if_neg k4] at hf
    by_cases k5 : k = 5
    · subst k5
      have e : (AV.mk 5 n s na nc ns xa xc xs).text = 91 :: (AV.itemsL 0 xs ++ [93]) := by rw [AV.text]; rfl
      rw [e]
      rw [if_pos rfl] at hf
      simp only [Bool.and_eq_true, decide_eq_true_eq, Nat.add_sub_cancel] at hf
      have h1 := itemsL_length (i := 0) (fun x hx => (ih x hx m (hmem x hx) (allJ_mem hf.2.2.2.2 x hx)).1)
      have h2 : xs.length * (1000 * 40 ^ m + 1) ≤ 24 * (1000 * 40 ^ m + 1) := Nat.mul_le_mul_right _ hf.2.2.2.1
      refine ⟨?_, by simp⟩
      simp only [List.length_cons, List.length_append, List.length_nil]
      omega
    rw [if_neg k5] at hf
    by_cases k6 : k = 6
    · subst k6
      have e : (AV.mk 6 n s na nc ns xa xc xs).text = 123 :: (AV.membersL 0 ns xs ++ [125]) := by rw [AV.text]; rfl
      rw [e]
      rw [if_pos rfl] at hf
      simp only [Bool.and_eq_true, decide_eq_true_eq, Nat.add_sub_cancel] at hf
      have h1 := membersL_length (i := 0) hf.2.2.1 (namesOk_sizes hf.2.2.2.2) (fun x hx => (ih x hx m (hmem x hx) (allJ_mem hf.2.2.2.1.2 x hx)).1)
      have h2 : xs.length * (1000 * 40 ^ m + 364) ≤ 24 * (1000 * 40 ^ m + 364) := Nat.mul_le_mul_right _ hf.2.2.2.1.1
      refine ⟨?_, by simp⟩
      simp only [List.length_cons, List.length_append, List.length_nil]
      omega
    · rw [if_neg k6] at hf; cases hf

theorem bld_fresh {B : Nat} {W : World} (hB : B ≤ W.heap.size) : Bld B W.heap.size [] (W.alloc (.cells #[.pointer none, .slice none 0 0] 55)) :=
  .inl ⟨hB, .slice none 0 0, heap_alloc_new W _, ⟨by simp [Lib.byteCells], .inl ⟨rfl, rfl⟩⟩, by intro h; cases h⟩

/-- What Print answers. -/
def printed (t : AV) : Ending := if AV.formedJ t 6 then .returned (.tuple #[.string ⟨t.text.toArray⟩, .int .i64 0]) else .returned (.tuple #[.string ⟨#[]⟩, .int .i64 2])

set_option maxHeartbeats 2000000 in
set_option maxRecDepth 100000 in
theorem Print_any (t : AV) (w : World) (hin : t.In w) (hT : Tabs w) (hpow : Pow w) : Calls Tryd.prog 19 #[t.val] w fun e w' => e = printed t ∧ Below w.heap.size w w' := by
  have CALL := Lib.hid (fun W (hb : Below w.heap.size w W) => Formed_any t W (hin.below hb (Nat.le_refl _)) (hT.later hb))
  unfold printed
  by_cases hf : AV.formedJ t 6 = true
  · obtain ⟨hlen, hne⟩ := text_length w t 6 hin hf
    have VAL := Lib.hid (fun b W (hb : Below w.heap.size w W) (h : Bld w.heap.size b [] W) => value_any w b t 6 [] W hf hin hb h hpow (by simp at hlen ⊢; omega))
    rw [if_pos hf]
    rw [hf] at CALL
    obtain ⟨T, hT⟩ : ∃ T, t.text = T := ⟨_, rfl⟩
    rw [hT] at VAL hne ⊢
    clear hT hlen hf hin hpow
    obtain ⟨k, n, s, na, nc, ns, xa, xc, xs⟩ := t
    simp only [AV.val, AV.row] at CALL VAL ⊢
    go_enter Tryd.func19, Tryd.ntmps19
    go_wp2_with fail
    refine (CALL.out _ ((Below.refl _ _).alloc (Nat.le_refl _) _)).mono ?_
    rintro e w1 ⟨rfl, hb1⟩
    have hb2 : Below w.heap.size w w1 := ((Below.refl w.heap.size w).alloc (Nat.le_refl _) _).trans (hb1.mono (by simp))
    have hk1 := (hb1.block w.heap.size (by simp)).trans (box_new w #[.int .i64 k, .int .i64 n, .string s, .slice na ns.length nc, .slice xa xs.length xc])
    have hsz : w.heap.size < w1.heap.size := by have := hb1.size; simp at this; omega
    have HK2 : Hid ((w1.alloc (.cells #[.pointer none, .slice none 0 0] 55)).rangeAt w.heap.size 0 (AV.mk k n s na nc ns xa xc xs).row) := Lib.hid (box_row ((Lib.alloc_old w1 _ _ hsz).trans hk1))
    have HB2 := Lib.hid hb2
    clear hk1 hb1 hb2
    go_wp2_with (first | ((with_reducible refine wpList_item_out HK2.out ?_ ?_); rfl))
    have hb3 : Below w.heap.size w (w1.alloc (.cells #[.pointer none, .slice none 0 0] 55)) := HB2.out.alloc HB2.out.size _
    refine (VAL.out _ _ hb3 (bld_fresh HB2.out.size)).mono ?_
    rintro e w2 ⟨rfl, hw2⟩
    have HB3 := Lib.hid (hb3.trans hw2.below)
    have HBLD := Lib.hid hw2.bld
    clear hb3 hw2
    go_wp2_with fail
    refine (String_any _ _ T _ HBLD.out hne).mono ?_
    rintro e w3 ⟨rfl, hb4⟩
    have HB4 := Lib.hid (HB3.out.trans hb4)
    clear hb4
    go_wp2_with fail
    go_ret2
    exact ⟨rfl, HB4.out⟩
  · rw [if_neg hf]
    have hf' : AV.formedJ t 6 = false := by simpa using hf
    rw [hf'] at CALL
    clear hf hf' hT hpow hin
    obtain ⟨k, n, s, na, nc, ns, xa, xc, xs⟩ := t
    simp only [AV.val, AV.row] at CALL ⊢
    go_enter Tryd.func19, Tryd.ntmps19
    go_wp2_with fail
    refine (CALL.out _ ((Below.refl _ _).alloc (Nat.le_refl _) _)).mono ?_
    rintro e w1 ⟨rfl, hb1⟩
    have hb2 : Below w.heap.size w w1 := ((Below.refl w.heap.size w).alloc (Nat.le_refl _) _).trans (hb1.mono (by simp))
    go_wp2_with fail
    go_ret2
    exact ⟨rfl, hb2⟩
end Go.Proofs.YtijibjdgnaphiaaDoor
