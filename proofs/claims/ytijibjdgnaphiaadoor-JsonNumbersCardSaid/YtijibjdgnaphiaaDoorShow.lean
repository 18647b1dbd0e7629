/- The printer writes the text of every formed value; under Go's own limit of length. -/
import Derived.Test.YtijibjdgnaphiaaDoorShowo
import Derived.Deep.RegionWith
namespace Go.Proofs.YtijibjdgnaphiaaDoor
open Go.ChangeShapes Go.WideShapes Go.Deep Go.RowKit Go.Lib Go.Sort

theorem below_grow_drewN (w : World) (k : Nat) (os : Array Obj) : Below w.heap.size w (grow (w.drewN k) os) := by
  have h1 : Below w.heap.size w (w.drewN k) := (Below.refl w.heap.size w).trans ⟨rfl, rfl, rfl, Nat.le_refl _, fun _ _ => rfl⟩
  exact h1.trans ⟨rfl, rfl, rfl, by simp [grow], fun j hj => by
    show (_ ++ os)[j]? = _
    rw [Array.getElem?_append, if_pos (show j < (w.drewN k).heap.size from hj)]⟩

theorem namesOk_sizes : ∀ {ns : List ByteArray} {p : Option ByteArray}, namesOk p ns = true → ∀ y ∈ ns, y.size ≤ 60
  | [], _, _, y, hy => by cases hy
  | n :: r, p, h, y, hy => by
    rw [namesOk] at h
    simp only [Bool.and_eq_true] at h
    rcases List.mem_cons.1 hy with rfl | hy
    · have := h.1; unfold textOk at this; simp only [Bool.and_eq_true, decide_eq_true_eq] at this; exact this.1
    · exact namesOk_sizes h.2.2 y hy

theorem toList_data (s : ByteArray) : s.toList = s.data.toList := ByteArray.toList_eq s

set_option maxHeartbeats 1000000 in
set_option maxRecDepth 100000 in
theorem value_word (w0 : World) (b : Nat) (k n : Int) (s : ByteArray) (na : Option Addr) (nc : Nat) (ns : List ByteArray) (xa : Option Addr) (xc : Nat) (xs : List AV) (l : List UInt8) (w : World) (hk : k = 0 ∨ k = 1 ∨ k = 2)
    (hb : Below w0.heap.size w0 w) (h : Bld w0.heap.size b l w) (hlen : l.length + 400 ≤ 140737488355328) :
    Calls Tryd.prog 37 #[.pointer (some ⟨b, 0, none⟩), (AV.mk k n s na nc ns xa xc xs).val] w fun e w' => e = .returned (.tuple #[]) ∧ Wrote w0.heap.size b (l ++ (if k = 0 then [110, 117, 108, 108] else if k = 1 then [102, 97, 108, 115, 101] else [116, 114, 117, 101])) w w' := by
  have hB : w0.heap.size ≤ w.heap.size := hb.size
  have hw0 : ∀ o, Wrote w0.heap.size b l w (w.alloc o) := fun o => wrote_below h ((Below.refl w.heap.size w).alloc (Nat.le_refl _) o) hB
  clear hb h
  simp only [AV.val, AV.row]
  rcases hk with rfl | rfl | rfl
  · go_enter Tryd.func37, Tryd.ntmps37
    go_wp2_with fail
    refine (WriteString_any _ b l ⟨#[110, 117, 108, 108]⟩ _ (hw0 _).bld (by simp [ByteArray.size]; omega) ((hw0 _).size hB)).mono ?_
    rintro e w1 ⟨rfl, hw1⟩
    have HW := Lib.hid ((hw0 _).then hw1)
    clear hw1 hw0
    go_wp2_with fail
    go_end0
    exact ⟨rfl, HW.out⟩
  · go_enter Tryd.func37, Tryd.ntmps37
    go_wp2_with fail
    refine (WriteString_any _ b l ⟨#[102, 97, 108, 115, 101]⟩ _ (hw0 _).bld (by simp [ByteArray.size]; omega) ((hw0 _).size hB)).mono ?_
    rintro e w1 ⟨rfl, hw1⟩
    have HW := Lib.hid ((hw0 _).then hw1)
    clear hw1 hw0
    go_wp2_with fail
    go_end0
    exact ⟨rfl, HW.out⟩
  · go_enter Tryd.func37, Tryd.ntmps37
    go_wp2_with fail
    refine (WriteString_any _ b l ⟨#[116, 114, 117, 101]⟩ _ (hw0 _).bld (by simp [ByteArray.size]; omega) ((hw0 _).size hB)).mono ?_
    rintro e w1 ⟨rfl, hw1⟩
    have HW := Lib.hid ((hw0 _).then hw1)
    clear hw1 hw0
    go_wp2_with fail
    go_end0
    exact ⟨rfl, HW.out⟩

set_option maxHeartbeats 2000000 in
set_option maxRecDepth 100000 in
theorem value_num (w0 : World) (b : Nat) (n : Int) (s : ByteArray) (na : Option Addr) (nc : Nat) (ns : List ByteArray) (xa : Option Addr) (xc : Nat) (xs : List AV) (l : List UInt8) (w : World)
    (h0 : -9223372036854775808 ≤ n) (h1 : n ≤ 9223372036854775807) (hb : Below w0.heap.size w0 w) (h : Bld w0.heap.size b l w) (hpow : Pow w0) (hlen : l.length + (Lib.itoa n).length + 400 ≤ 140737488355328) :
    Calls Tryd.prog 37 #[.pointer (some ⟨b, 0, none⟩), (AV.mk 3 n s na nc ns xa xc xs).val] w fun e w' => e = .returned (.tuple #[]) ∧ Wrote w0.heap.size b (l ++ Lib.itoa n) w w' := by
  have hB : w0.heap.size ≤ w.heap.size := hb.size
  have HB := Lib.hid hb
  have HPOW := Lib.hid hpow
  have H := Lib.hid h
  obtain ⟨D, hD⟩ : ∃ D, Lib.itoa n = D := ⟨_, rfl⟩
  have hw0 : ∀ o, Wrote w0.heap.size b l w (w.alloc o) := fun o => wrote_below H.out ((Below.refl w.heap.size w).alloc (Nat.le_refl _) o) hB
  have CALL : Hid (∀ W : World, Wrote w0.heap.size b l w W → Calls Tryd.prog 56 #[.int .i64 n, .int .i64 10] W fun e w' => e = .returned (.string ⟨D.toArray⟩) ∧ Wrote w0.heap.size b l w w') := Lib.hid (fun W hW => by
    have hbW := hb.trans hW.below
    refine (Tryd.strconv_FormatInt_10 n h0 h1 W (hpow.later hbW)).mono ?_
    rintro e w' ⟨rfl, k, os, rfl⟩
    exact ⟨by rw [hD], hW.then (wrote_below hW.bld (below_grow_drewN _ _ _) hbW.size)⟩)
  rw [hD] at hlen ⊢
  have STR : Hid (∀ W : World, Wrote w0.heap.size b l w W → Calls Tryd.prog 55 #[.pointer (some ⟨b, 0, none⟩), .string ⟨D.toArray⟩] W fun e w' => e = .returned (.tuple #[.int .i64 D.length, .nilIface]) ∧ Wrote w0.heap.size b (l ++ D) w w') := Lib.hid (fun W hW => by
    refine (WriteString_any _ b l ⟨D.toArray⟩ W hW.bld (by simp [ByteArray.size]; omega) (hW.size hB)).mono ?_
    rintro e w' ⟨rfl, hw⟩
    exact ⟨by simp [ByteArray.size], hW.then (by simpa using hw)⟩)
  clear hD hb h hpow h0 h1 hlen HPOW H HB
  simp only [AV.val, AV.row]
  go_enter Tryd.func37, Tryd.ntmps37
  go_wp2_with fail
  have HW0 := Lib.hid (hw0 (Obj.cells #[.int .i64 3, .int .i64 n, .string s, .slice na ns.length nc, .slice xa xs.length xc] 25))
  have hc1 : (w.alloc (Obj.cells #[.int .i64 3, .int .i64 n, .string s, .slice na ns.length nc, .slice xa xs.length xc] 25)).cell? ⟨w.heap.size, 1, none⟩ = some (.int .i64 n) := by rw [Lib.cell_of_heap (box_new w _)]; rfl
  generalize w.alloc (Obj.cells #[.int .i64 3, .int .i64 n, .string s, .slice na ns.length nc, .slice xa xs.length xc] 25) = W0 at *
  have HWD := Lib.hid HW0.out.drew
  have hcd : W0.drew.cell? ⟨w.heap.size, 1, none⟩ = some (.int .i64 n) := hc1
  clear hw0
  go_region_with (first
    | (go_at_call 56; refine (CALL.out _ ?_).mono ?_; exact HWD.out; rintro e w1 ⟨rfl, hw1⟩)
    | (go_at_call 55; refine (STR.out _ ?_).mono ?_; assumption; rintro e w2 ⟨rfl, hw2⟩))
  all_goals
    go_wp2_with fail
    go_end0
    exact ⟨rfl, by assumption⟩

set_option maxHeartbeats 2000000 in
set_option maxRecDepth 100000 in
theorem value_str (w0 : World) (b : Nat) (n : Int) (s : ByteArray) (na : Option Addr) (nc : Nat) (ns : List ByteArray) (xa : Option Addr) (xc : Nat) (xs : List AV) (l : List UInt8) (w : World) (hs : s.size ≤ 60)
    (hb : Below w0.heap.size w0 w) (h : Bld w0.heap.size b l w) (hlen : l.length + 400 ≤ 140737488355328) :
    Calls Tryd.prog 37 #[.pointer (some ⟨b, 0, none⟩), (AV.mk 4 n s na nc ns xa xc xs).val] w fun e w' => e = .returned (.tuple #[]) ∧ Wrote w0.heap.size b (l ++ quotedL s) w w' := by
  have hB : w0.heap.size ≤ w.heap.size := hb.size
  have hw0 : ∀ o, Wrote w0.heap.size b l w (w.alloc o) := fun o => wrote_below h ((Below.refl w.heap.size w).alloc (Nat.le_refl _) o) hB
  clear hb h
  simp only [AV.val, AV.row]
  go_enter Tryd.func37, Tryd.ntmps37
  go_wp2_with fail
  refine (quoted_any _ b l s _ (hw0 _).bld (by omega) ((hw0 _).size hB)).mono ?_
  rintro e w1 ⟨rfl, hw1⟩
  have HW := Lib.hid ((hw0 _).then hw1)
  clear hw1 hw0
  go_wp2_with fail
  go_end0
  exact ⟨rfl, HW.out⟩

set_option maxHeartbeats 2000000 in
set_option maxRecDepth 100000 in
theorem value_arr (w0 : World) (b : Nat) (n : Int) (s : ByteArray) (na : Option Addr) (nc : Nat) (ns : List ByteArray) (xa : Option Addr) (xc : Nat) (xs : List AV) (lv : Nat) (l : List UInt8) (w : World)
    (hall : AV.allJ xs lv = true) (hits : AV.Its w0 xa xs) (hl : xs.length ≤ 9223372036854775807) (hb : Below w0.heap.size w0 w) (h : Bld w0.heap.size b l w) (hpow : Pow w0) (hlen : l.length + (AV.itemsL 0 xs).length + 2 + 400 ≤ 140737488355328)
    (IH : Hid (∀ x ∈ xs, PrintAt w0 b x)) :
    Calls Tryd.prog 37 #[.pointer (some ⟨b, 0, none⟩), (AV.mk 5 n s na nc ns xa xc xs).val] w fun e w' => e = .returned (.tuple #[]) ∧ Wrote w0.heap.size b (l ++ 91 :: (AV.itemsL 0 xs ++ [93])) w w' := by
  have hB : w0.heap.size ≤ w.heap.size := hb.size
  have hw0 : ∀ o, Wrote w0.heap.size b l w (w.alloc o) := fun o => wrote_below h ((Below.refl w.heap.size w).alloc (Nat.le_refl _) o) hB
  have CALL := Lib.hid (fun (W : World) (hW : Wrote w0.heap.size b l w W) => array_any w0 b n s na nc ns xa xc xs lv l W hall hits hl (hb.trans hW.below) hW.bld hpow hlen IH)
  clear hb h hall hits hpow hlen hl
  simp only [AV.val, AV.row] at CALL ⊢
  go_enter Tryd.func37, Tryd.ntmps37
  go_wp2_with fail
  refine (CALL.out _ (hw0 _)).mono ?_
  rintro e w1 ⟨rfl, hw1⟩
  have HW := Lib.hid ((hw0 _).then hw1)
  clear hw1 hw0
  go_wp2_with fail
  go_end0
  exact ⟨rfl, HW.out⟩

set_option maxHeartbeats 2000000 in
set_option maxRecDepth 100000 in
theorem value_obj (w0 : World) (b : Nat) (n : Int) (s : ByteArray) (na : Option Addr) (nc : Nat) (ns : List ByteArray) (xa : Option Addr) (xc : Nat) (xs : List AV) (lv : Nat) (l : List UInt8) (w : World)
    (hall : AV.allJ xs lv = true) (hits : AV.Its w0 xa xs) (hnin : AV.NamesIn w0 na ns) (hnsz : ∀ y ∈ ns, y.size ≤ 60) (hlen2 : ns.length = xs.length) (hl : xs.length ≤ 9223372036854775807) (hb : Below w0.heap.size w0 w) (h : Bld w0.heap.size b l w) (hpow : Pow w0) (hlen : l.length + (AV.membersL 0 ns xs).length + 2 + 400 ≤ 140737488355328)
    (IH : Hid (∀ x ∈ xs, PrintAt w0 b x)) :
    Calls Tryd.prog 37 #[.pointer (some ⟨b, 0, none⟩), (AV.mk 6 n s na nc ns xa xc xs).val] w fun e w' => e = .returned (.tuple #[]) ∧ Wrote w0.heap.size b (l ++ 123 :: (AV.membersL 0 ns xs ++ [125])) w w' := by
  have hB : w0.heap.size ≤ w.heap.size := hb.size
  have hw0 : ∀ o, Wrote w0.heap.size b l w (w.alloc o) := fun o => wrote_below h ((Below.refl w.heap.size w).alloc (Nat.le_refl _) o) hB
  have CALL := Lib.hid (fun (W : World) (hW : Wrote w0.heap.size b l w W) => object_any w0 b n s na nc ns xa xc xs lv l W hall hits hnin hnsz hlen2 hl (hb.trans hW.below) hW.bld hpow hlen IH)
  clear hb h hall hits hpow hlen hl hnin hnsz hlen2
  simp only [AV.val, AV.row] at CALL ⊢
  go_enter Tryd.func37, Tryd.ntmps37
  go_wp2_with fail
  refine (CALL.out _ (hw0 _)).mono ?_
  rintro e w1 ⟨rfl, hw1⟩
  have HW := Lib.hid ((hw0 _).then hw1)
  clear hw1 hw0
  go_wp2_with fail
  go_end0
  exact ⟨rfl, HW.out⟩

theorem textOk_size {s : ByteArray} (h : textOk s = true) : s.size ≤ 60 := by
  unfold textOk at h
  simp only [Bool.and_eq_true, decide_eq_true_eq] at h
  exact h.1

theorem value_any (w0 : World) (b : Nat) : ∀ t : AV, PrintAt w0 b t := by
  intro t
  induction t using AV.ind with
  | h k n s na nc ns xa xc xs ih =>
    intro lv l w hf hin hb h hpow hlen
    have hits := hin.its
    have hnin := hin.names.1
    have hl := hin.lens.2.2
    have hnum : (Lit.int .i64 n).wf = true := by rw [AV.In] at hin; exact hin.2.1
    rw [AV.formedJ] at hf
    by_cases h0 : lv = 0
    · rw [if_pos h0] at hf; cases hf
    rw [if_neg h0] at hf
    by_cases k012 : k = 0 ∨ k = 1 ∨ k = 2
    · have e : (AV.mk k n s na nc ns xa xc xs).text = (if k = 0 then [110, 117, 108, 108] else if k = 1 then [102, 97, 108, 115, 101] else [116, 114, 117, 101]) := by
        rw [AV.text]
        rcases k012 with rfl | rfl | rfl <;> rfl
      rw [e]
      exact value_word w0 b k n s na nc ns xa xc xs l w k012 hb h (by omega)
    rw [if_neg k012] at hf
    by_cases k3 : k = 3
    · subst k3
      have e : (AV.mk 3 n s na nc ns xa xc xs).text = Lib.itoa n := by rw [AV.text]; rfl
      rw [e] at hlen ⊢
      have hw : IntKind.i64.min ≤ n ∧ n ≤ IntKind.i64.max := by simpa [Lit.wf] using hnum
      exact value_num w0 b n s na nc ns xa xc xs l w (by have := hw.1; rwa [show IntKind.i64.min = -9223372036854775808 from rfl] at this) (by have := hw.2; rwa [show IntKind.i64.max = 9223372036854775807 from rfl] at this) hb h hpow hlen
    rw [if_neg k3] at hf
    by_cases k4 : k = 4
    · subst k4
      have e : (AV.mk 4 n s na nc ns xa xc xs).text = quotedL s := by rw [AV.text]; rfl
      rw [e] at hlen ⊢
      rw [if_pos rfl] at hf
      simp only [Bool.and_eq_true] at hf
      exact value_str w0 b n s na nc ns xa xc xs l w (textOk_size hf.2.1) hb h (by omega)
    rw [if_neg k4] at hf
    by_cases k5 : k = 5
    · subst k5
      have e : (AV.mk 5 n s na nc ns xa xc xs).text = 91 :: (AV.itemsL 0 xs ++ [93]) := by rw [AV.text]; rfl
      rw [e] at hlen ⊢
      rw [if_pos rfl] at hf
      simp only [Bool.and_eq_true] at hf
      exact value_arr w0 b n s na nc ns xa xc xs (lv - 1) l w hf.2.2.2.2 hits hl hb h hpow (by simp at hlen ⊢; omega) ih
    rw [if_neg k5] at hf
    by_cases k6 : k = 6
    · subst k6
      have e : (AV.mk 6 n s na nc ns xa xc xs).text = 123 :: (AV.membersL 0 ns xs ++ [125]) := by rw [AV.text]; rfl
      rw [e] at hlen ⊢
      rw [if_pos rfl] at hf
      simp only [Bool.and_eq_true, decide_eq_true_eq] at hf
      exact value_obj w0 b n s na nc ns xa xc xs (lv - 1) l w hf.2.2.2.1.2 hits hnin (namesOk_sizes hf.2.2.2.2) hf.2.2.1 hl hb h hpow (by simp at hlen ⊢; omega) ih
    · rw [if_neg k6] at hf; cases hf
end Go.Proofs.YtijibjdgnaphiaaDoor
