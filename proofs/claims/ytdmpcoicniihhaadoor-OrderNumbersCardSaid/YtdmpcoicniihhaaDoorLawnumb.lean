/- OrderNumbers: numbers and short texts are ordered as the language orders them, and stand behind null, false and true: the walk of the statement. -/
import Derived.Test.YtdmpcoicniihhaaDoorLets
import Derived.Test.YtdmpcoicniihhaaDoorLawcmp
import Derived.Deep.DeepCutAuto
namespace Go.Proofs.YtdmpcoicniihhaaDoor
open Go.ChangeShapes Go.WideShapes Go.Deep Go.RowKit Go.Lib

/-- A text as a value. -/
def AV.txt (s : ByteArray) : AV := .mk 4 0 s none 0 [] none 0 []

theorem txt_in (w : World) {s : ByteArray} (hs : s.size ≤ maxLen) : (AV.txt s).In w := by
  rw [AV.txt, AV.In]
  exact ⟨by decide, by decide, hs, by simp, by simp [maxLen], by simp, by simp [maxLen], by simp, .inl rfl, (fun b o e => by cases e), .inl rfl⟩

theorem letL_small (a : Nat) : ∀ b ∈ letL a, b.toNat < 128 := by
  unfold letL
  split
  · simp
  · intro b hb
    simp only [List.mem_singleton] at hb
    subst hb
    rw [UInt8.toNat_ofNat_of_lt' (show 97 + a % 5 < 2 ^ 8 by omega)]
    omega

theorem letsL_small (l : List Nat) : ∀ b ∈ letsL l, b.toNat < 128 := by
  intro b hb
  obtain ⟨a, _, h⟩ := List.mem_flatMap.1 hb
  exact letL_small a b h

/-- The text of three letters. -/
def letS (l : List Nat) : ByteArray := ⟨(letsL l).toArray⟩

theorem letS_ok {l : List Nat} (h : l.length = 3) : textOk (letS l) = true := by
  have h1 := letsL_len l
  have h2 : (letS l).size ≤ 60 := by
    show (letsL l).toArray.size ≤ 60
    simp; omega
  rw [textOk, decide_eq_true h2, Bool.true_and]
  show validD (letsL l).toArray.toList = true
  rw [List.toList_toArray, validD_ascii (letsL l).length _ (fun b hb => letsL_small l b (List.mem_of_mem_take hb)), List.drop_length]
  exact validD_nil

theorem num_formed {k n : Int} (hk : k = 3 ∨ ((k = 0 ∨ k = 1 ∨ k = 2) ∧ n = 0)) : AV.formedJ (AV.num k n) 6 = true := by
  rcases hk with rfl | ⟨rfl | rfl | rfl, rfl⟩ <;> simp [AV.num, AV.formedJ, ByteArray.toList_eq]

theorem txt_formed {s : ByteArray} (hs : textOk s = true) : AV.formedJ (AV.txt s) 6 = true := by
  simp [AV.txt, AV.formedJ, hs]

theorem cmp_nums (a b : Int) : cmpV (AV.num 3 a) (AV.num 3 b) = compareInt a b := by
  rw [cmpV, if_pos ⟨num_formed (.inl rfl), num_formed (.inl rfl)⟩, AV.num, AV.num, AV.ord, lexI_right (cmpI_zero.2 rfl), if_pos rfl]

theorem cmp_txts {s t : ByteArray} (hs : textOk s = true) (ht : textOk t = true) : cmpV (AV.txt s) (AV.txt t) = cmpT s t := by
  rw [cmpV, if_pos ⟨txt_formed hs, txt_formed ht⟩, AV.txt, AV.txt, AV.ord, lexI_right (cmpI_zero.2 rfl), if_neg (by omega), if_pos rfl]

theorem ord_kinds {k k' : Int} (h : k < k') (n n' : Int) (s s' : ByteArray) (na na' : Option Addr) (nc nc' : Nat) (ns ns' : List ByteArray) (xa xa' : Option Addr) (xc xc' : Nat) (xs xs' : List AV) :
    AV.ord (.mk k n s na nc ns xa xc xs) (.mk k' n' s' na' nc' ns' xa' xc' xs') = -1 := by
  have e : compareInt k k' = -1 := by unfold compareInt; rw [if_pos h]
  rw [AV.ord, e]
  rfl

theorem cmp_numtxt {n : Int} {t : ByteArray} (ht : textOk t = true) : cmpV (AV.num 3 n) (AV.txt t) = -1 := by
  rw [cmpV, if_pos ⟨num_formed (.inl rfl), txt_formed ht⟩]
  exact ord_kinds (by decide) _ _ _ _ _ _ _ _ _ _ _ _ _ _ _ _

theorem cmp_lownum {k n : Int} (hk : k = 0 ∨ k = 1) : cmpV (AV.num k 0) (AV.num 3 n) = -1 := by
  rw [cmpV, if_pos ⟨num_formed (.inr ⟨by omega, rfl⟩), num_formed (.inl rfl)⟩]
  exact ord_kinds (by omega) _ _ _ _ _ _ _ _ _ _ _ _ _ _ _ _

theorem cmp_lowtxt {t : ByteArray} (ht : textOk t = true) : cmpV (AV.num 2 0) (AV.txt t) = -1 := by
  rw [cmpV, if_pos ⟨num_formed (.inr ⟨by omega, rfl⟩), txt_formed ht⟩]
  exact ord_kinds (by decide) _ _ _ _ _ _ _ _ _ _ _ _ _ _ _ _

theorem less_list : ∀ l m : List UInt8, Op.bytesLess l m = decide (compareBytes l m < 0)
  | [], [] => rfl
  | [], _ :: _ => rfl
  | _ :: _, [] => rfl
  | a :: l, b :: m => by
    rw [Op.bytesLess, compareBytes, less_list l m]
    by_cases h : a < b
    · simp [h]
    · by_cases h' : b < a
      · have : a ≠ b := fun e => by subst e; exact h h'
        simp [h, h', this]
      · have : a = b := UInt8.le_antisymm (UInt8.not_lt.1 h') (UInt8.not_lt.1 h)
        simp [this]

theorem less_iff (s t : ByteArray) : Op.bytesLess s.toList t.toList = decide (cmpT s t < 0) := by
  rw [ByteArray.toList_eq, ByteArray.toList_eq, less_list]
  rfl

theorem two_boxes (w : World) (cs cs' : Array Value) (t t' : TypeId) : ((w.alloc (.cells cs t)).alloc (.cells cs' t')).heap[w.heap.size]? = some (.cells cs t (0, 0)) ∧ ((w.alloc (.cells cs t)).alloc (.cells cs' t')).heap[w.heap.size + 1]? = some (.cells cs' t' (0, 0)) := by
  refine ⟨?_, ?_⟩
  · rw [Lib.alloc_old _ _ _ (by simp)]; exact heap_alloc_new w _
  · have := heap_alloc_new (w.alloc (.cells cs t)) (.cells cs' t')
    rw [show (w.alloc (.cells cs t)).heap.size = w.heap.size + 1 by simp] at this
    exact this

theorem meetA {w w1 : World} (hb1 : Below w.heap.size w w1) (n m : Int) (a b c d e f : Nat) :
    ∃ P Q : Nat, Value.int .i64 n = .int .i64 n ∧ Value.int .i64 m = .int .i64 m ∧ Value.pointer (some ⟨w1.heap.size, 0, none⟩) = .pointer (some ⟨P, 0, none⟩) ∧ Value.pointer (some ⟨w1.heap.size + 1, 0, none⟩) = .pointer (some ⟨Q, 0, none⟩) ∧
      ((w1.alloc (.cells #[.int .u8 (a : Int), .int .u8 (b : Int), .int .u8 (c : Int)] 36)).alloc (.cells #[.int .u8 (d : Int), .int .u8 (e : Int), .int .u8 (f : Int)] 36)).drew.heap[P]? = some (.cells #[.int .u8 (a : Int), .int .u8 (b : Int), .int .u8 (c : Int)] 36 (0, 0)) ∧
      ((w1.alloc (.cells #[.int .u8 (a : Int), .int .u8 (b : Int), .int .u8 (c : Int)] 36)).alloc (.cells #[.int .u8 (d : Int), .int .u8 (e : Int), .int .u8 (f : Int)] 36)).drew.heap[Q]? = some (.cells #[.int .u8 (d : Int), .int .u8 (e : Int), .int .u8 (f : Int)] 36 (0, 0)) ∧
      Below w.heap.size w ((w1.alloc (.cells #[.int .u8 (a : Int), .int .u8 (b : Int), .int .u8 (c : Int)] 36)).alloc (.cells #[.int .u8 (d : Int), .int .u8 (e : Int), .int .u8 (f : Int)] 36)).drew :=
  ⟨_, _, rfl, rfl, rfl, rfl, (two_boxes w1 _ _ 36 36).1, (two_boxes w1 _ _ 36 36).2, (hb1.trans ((two_below w1 _ _).mono hb1.size)).drew⟩

theorem meetB {w w1 : World} (hb1 : Below w.heap.size w w1) (n m : Int) (a b c d e f : Nat) :
    ∃ P Q : Nat, Value.int .i64 n = .int .i64 n ∧ Value.int .i64 m = .int .i64 m ∧ Value.pointer (some ⟨w1.heap.size + 1, 0, none⟩) = .pointer (some ⟨P, 0, none⟩) ∧ Value.pointer (some ⟨w1.heap.size, 0, none⟩) = .pointer (some ⟨Q, 0, none⟩) ∧
      ((w1.alloc (.cells #[.int .u8 (d : Int), .int .u8 (e : Int), .int .u8 (f : Int)] 36)).alloc (.cells #[.int .u8 (a : Int), .int .u8 (b : Int), .int .u8 (c : Int)] 36)).drew.heap[P]? = some (.cells #[.int .u8 (a : Int), .int .u8 (b : Int), .int .u8 (c : Int)] 36 (0, 0)) ∧
      ((w1.alloc (.cells #[.int .u8 (d : Int), .int .u8 (e : Int), .int .u8 (f : Int)] 36)).alloc (.cells #[.int .u8 (a : Int), .int .u8 (b : Int), .int .u8 (c : Int)] 36)).drew.heap[Q]? = some (.cells #[.int .u8 (d : Int), .int .u8 (e : Int), .int .u8 (f : Int)] 36 (0, 0)) ∧
      Below w.heap.size w ((w1.alloc (.cells #[.int .u8 (d : Int), .int .u8 (e : Int), .int .u8 (f : Int)] 36)).alloc (.cells #[.int .u8 (a : Int), .int .u8 (b : Int), .int .u8 (c : Int)] 36)).drew :=
  ⟨_, _, rfl, rfl, rfl, rfl, (two_boxes w1 _ _ 36 36).2, (two_boxes w1 _ _ 36 36).1, (hb1.trans ((two_below w1 _ _).mono hb1.size)).drew⟩

set_option maxHeartbeats 4000000 in
set_option maxRecDepth 100000 in
theorem lawnumb_any (n m : Int) (a b c d e f : Nat) (w : World) (hn : (Lit.int .i64 n).wf = true) (hm : (Lit.int .i64 m).wf = true) (h0 : a < 256 ∧ b < 256 ∧ c < 256 ∧ d < 256 ∧ e < 256 ∧ f < 256) (hT : Tabs w) :
    Calls Tryd.prog 7 #[.agg #[.int .i64 n, .int .i64 m], .agg #[.int .u8 (a : Int), .int .u8 (b : Int), .int .u8 (c : Int), .int .u8 (d : Int), .int .u8 (e : Int), .int .u8 (f : Int)]] w fun e w' => e = .returned (.bool true) ∧ Below w.heap.size w w' := by
  have AWAKE := Lib.hid (fun W (h : Below w.heap.size w W) => awake_any W (hT.later h))
  have LS := Lib.hid (fun W => letters_any a b c W h0.1 h0.2.1 h0.2.2.1)
  have LT := Lib.hid (fun W => letters_any d e f W h0.2.2.2.1 h0.2.2.2.2.1 h0.2.2.2.2.2)
  have hsok : textOk ⟨(letsL [a, b, c]).toArray⟩ = true := letS_ok (l := [a, b, c]) rfl
  have htok : textOk ⟨(letsL [d, e, f]).toArray⟩ = true := letS_ok (l := [d, e, f]) rfl
  obtain ⟨S, hS⟩ : ∃ S : ByteArray, ⟨(letsL [a, b, c]).toArray⟩ = S := ⟨_, rfl⟩
  obtain ⟨T, hT'⟩ : ∃ S : ByteArray, ⟨(letsL [d, e, f]).toArray⟩ = S := ⟨_, rfl⟩
  rw [hS] at LS hsok
  rw [hT'] at LT htok
  have zS : S.size ≤ maxLen := by rw [textOk, Bool.and_eq_true, decide_eq_true_eq] at hsok; unfold maxLen; omega
  have zT : T.size ≤ maxLen := by rw [textOk, Bool.and_eq_true, decide_eq_true_eq] at htok; unfold maxLen; omega
  have CXY := Lib.hid (fun W (h : Below w.heap.size w W) => Compare_any (AV.num 3 n) (AV.num 3 m) W (num_in W (by decide) hn) (num_in W (by decide) hm) (hT.later h))
  have CUV := Lib.hid (fun W (h : Below w.heap.size w W) => Compare_any (AV.txt S) (AV.txt T) W (txt_in W zS) (txt_in W zT) (hT.later h))
  have CXU := Lib.hid (fun W (h : Below w.heap.size w W) => Compare_any (AV.num 3 n) (AV.txt S) W (num_in W (by decide) hn) (txt_in W zS) (hT.later h))
  have C0X := Lib.hid (fun W (h : Below w.heap.size w W) => Compare_any (AV.num 0 0) (AV.num 3 n) W (num_in W (by decide) (by decide)) (num_in W (by decide) hn) (hT.later h))
  have C1X := Lib.hid (fun W (h : Below w.heap.size w W) => Compare_any (AV.num 1 0) (AV.num 3 n) W (num_in W (by decide) (by decide)) (num_in W (by decide) hn) (hT.later h))
  have C2U := Lib.hid (fun W (h : Below w.heap.size w W) => Compare_any (AV.num 2 0) (AV.txt S) W (num_in W (by decide) (by decide)) (txt_in W zS) (hT.later h))
  rw [cmp_nums] at CXY
  rw [cmp_txts hsok htok] at CUV
  rw [cmp_numtxt hsok] at CXU
  rw [cmp_lownum (.inl rfl)] at C0X
  rw [cmp_lownum (.inr rfl)] at C1X
  rw [cmp_lowtxt hsok] at C2U
  have hless := less_iff S T
  obtain ⟨X, hX⟩ : ∃ X, compareInt n m = X := ⟨_, rfl⟩
  obtain ⟨Y, hY⟩ : ∃ X, cmpT S T = X := ⟨_, rfl⟩
  have hXn : decide (X < 0) = decide (n < m) := by
    rw [← hX, decide_eq_decide]
    unfold compareInt
    by_cases h : n < m
    · simp [h]
    · rw [if_neg h]
      constructor
      · intro h'; split at h' <;> omega
      · intro h'; exact absurd h' h
  rw [hX] at CXY
  rw [hY] at CUV hless
  have HL := Lib.hid hless
  have HXN := Lib.hid hXn
  simp only [AV.num, AV.txt, AV.val, AV.row, List.length_nil] at CXY CUV CXU C0X C1X C2U
  clear h0 hS hT' hX hY hXn hless hsok htok zS zT hn hm hT
  have hb0 := two_below w (.cells #[.int .i64 n, .int .i64 m] 35) (.cells #[.int .u8 (a : Int), .int .u8 (b : Int), .int .u8 (c : Int), .int .u8 (d : Int), .int .u8 (e : Int), .int .u8 (f : Int)] 37)
  go_enter Tryd.func7, Tryd.ntmps7
  go_wp2_with fail
  refine (AWAKE.out _ hb0).mono ?_
  rintro ee w1 ⟨rfl, hq1⟩
  have hb1 := hb0.trans (hq1.mono hb0.size)
  have hbx := two_boxes w #[.int .i64 n, .int .i64 m] #[.int .u8 (a : Int), .int .u8 (b : Int), .int .u8 (c : Int), .int .u8 (d : Int), .int .u8 (e : Int), .int .u8 (f : Int)] 35 37
  have x0 : w1.cell? ⟨w.heap.size, 0, none⟩ = some (.int .i64 n) := by rw [Lib.cell_of_heap (box_later hbx.1 hq1)]; rfl
  have x1 : w1.cell? ⟨w.heap.size, 1, none⟩ = some (.int .i64 m) := by rw [Lib.cell_of_heap (box_later hbx.1 hq1)]; rfl
  have y0 : w1.cell? ⟨w.heap.size + 1, 0, none⟩ = some (.int .u8 (a : Int)) := by rw [Lib.cell_of_heap (box_later hbx.2 hq1)]; rfl
  have y1 : w1.cell? ⟨w.heap.size + 1, 1, none⟩ = some (.int .u8 (b : Int)) := by rw [Lib.cell_of_heap (box_later hbx.2 hq1)]; rfl
  have y2 : w1.cell? ⟨w.heap.size + 1, 2, none⟩ = some (.int .u8 (c : Int)) := by rw [Lib.cell_of_heap (box_later hbx.2 hq1)]; rfl
  have y3 : w1.cell? ⟨w.heap.size + 1, 3, none⟩ = some (.int .u8 (d : Int)) := by rw [Lib.cell_of_heap (box_later hbx.2 hq1)]; rfl
  have y4 : w1.cell? ⟨w.heap.size + 1, 4, none⟩ = some (.int .u8 (e : Int)) := by rw [Lib.cell_of_heap (box_later hbx.2 hq1)]; rfl
  have y5 : w1.cell? ⟨w.heap.size + 1, 5, none⟩ = some (.int .u8 (f : Int)) := by rw [Lib.cell_of_heap (box_later hbx.2 hq1)]; rfl
  clear hbx hq1
  have px0 := fun o => cell_later x0 ((Below.refl _ _).alloc (Nat.le_refl _) o)
  have qx0 := fun o o' => cell_later x0 (two_below w1 o o')
  have px1 := fun o => cell_later x1 ((Below.refl _ _).alloc (Nat.le_refl _) o)
  have qx1 := fun o o' => cell_later x1 (two_below w1 o o')
  have py0 := fun o => cell_later y0 ((Below.refl _ _).alloc (Nat.le_refl _) o)
  have qy0 := fun o o' => cell_later y0 (two_below w1 o o')
  have py1 := fun o => cell_later y1 ((Below.refl _ _).alloc (Nat.le_refl _) o)
  have qy1 := fun o o' => cell_later y1 (two_below w1 o o')
  have py2 := fun o => cell_later y2 ((Below.refl _ _).alloc (Nat.le_refl _) o)
  have qy2 := fun o o' => cell_later y2 (two_below w1 o o')
  have py3 := fun o => cell_later y3 ((Below.refl _ _).alloc (Nat.le_refl _) o)
  have qy3 := fun o o' => cell_later y3 (two_below w1 o o')
  have py4 := fun o => cell_later y4 ((Below.refl _ _).alloc (Nat.le_refl _) o)
  have qy4 := fun o o' => cell_later y4 (two_below w1 o o')
  have py5 := fun o => cell_later y5 ((Below.refl _ _).alloc (Nat.le_refl _) o)
  have qy5 := fun o o' => cell_later y5 (two_below w1 o o')
  go_upto_region 3 with fail
  go_cut [5, 6, 7, 8] (fun s5 s6 s7 s8 wx => ∃ P Q : Nat, s5 = .int .i64 n ∧ s6 = .int .i64 m ∧ s7 = .pointer (some ⟨P, 0, none⟩) ∧ s8 = .pointer (some ⟨Q, 0, none⟩) ∧ wx.heap[P]? = some (.cells #[.int .u8 (a : Int), .int .u8 (b : Int), .int .u8 (c : Int)] 36 (0, 0)) ∧ wx.heap[Q]? = some (.cells #[.int .u8 (d : Int), .int .u8 (e : Int), .int .u8 (f : Int)] 36 (0, 0)) ∧ Below w.heap.size w wx)
  case first =>
    go_region
    all_goals
      go_wp2_with fail
      go_meet
      first
        | exact meetA hb1 n m a b c d e f
        | exact meetB hb1 n m a b c d e f
  case rest =>
    obtain ⟨P, Q, rfl, rfl, rfl, rfl, hP, hQ, hbc⟩ := hcut
    clear px0 px1 py0 py1 py2 py3 py4 py5 qx0 qx1 qy0 qy1 qy2 qy3 qy4 qy5 x0 x1 y0 y1 y2 y3 y4 y5 hb1 hb0
    go_wp2_with fail
    have hbx := two_box wc #[.int .i64 3, .int .i64 n, .string ⟨#[]⟩, .slice none 0 0, .slice none 0 0] #[.int .i64 3, .int .i64 m, .string ⟨#[]⟩, .slice none 0 0, .slice none 0 0]
    have hba := two_below wc (.cells #[.int .i64 3, .int .i64 n, .string ⟨#[]⟩, .slice none 0 0, .slice none 0 0] 25) (.cells #[.int .i64 3, .int .i64 m, .string ⟨#[]⟩, .slice none 0 0, .slice none 0 0] 25)
    have hP2 := box_later hP hba
    have hQ2 := box_later hQ hba
    have hb2 := hbc.trans (hba.mono hbc.size)
    have B9 := Lib.hid hbx.1
    have B10 := Lib.hid hbx.2
    have p0 := fun d os => cell_regrown (show ((wc.alloc (.cells #[.int .i64 3, .int .i64 n, .string ⟨#[]⟩, .slice none 0 0, .slice none 0 0] 25)).alloc (.cells #[.int .i64 3, .int .i64 m, .string ⟨#[]⟩, .slice none 0 0, .slice none 0 0] 25)).cell? ⟨P, 0, none⟩ = some (.int .u8 (a : Int)) by rw [Lib.cell_of_heap hP2]; rfl) d os
    have p1 := fun d os => cell_regrown (show ((wc.alloc (.cells #[.int .i64 3, .int .i64 n, .string ⟨#[]⟩, .slice none 0 0, .slice none 0 0] 25)).alloc (.cells #[.int .i64 3, .int .i64 m, .string ⟨#[]⟩, .slice none 0 0, .slice none 0 0] 25)).cell? ⟨P, 1, none⟩ = some (.int .u8 (b : Int)) by rw [Lib.cell_of_heap hP2]; rfl) d os
    have p2 := fun d os => cell_regrown (show ((wc.alloc (.cells #[.int .i64 3, .int .i64 n, .string ⟨#[]⟩, .slice none 0 0, .slice none 0 0] 25)).alloc (.cells #[.int .i64 3, .int .i64 m, .string ⟨#[]⟩, .slice none 0 0, .slice none 0 0] 25)).cell? ⟨P, 2, none⟩ = some (.int .u8 (c : Int)) by rw [Lib.cell_of_heap hP2]; rfl) d os
    have q0 := fun d' os => cell_regrown (show ((wc.alloc (.cells #[.int .i64 3, .int .i64 n, .string ⟨#[]⟩, .slice none 0 0, .slice none 0 0] 25)).alloc (.cells #[.int .i64 3, .int .i64 m, .string ⟨#[]⟩, .slice none 0 0, .slice none 0 0] 25)).cell? ⟨Q, 0, none⟩ = some (.int .u8 (d : Int)) by rw [Lib.cell_of_heap hQ2]; rfl) d' os
    have q1 := fun d os => cell_regrown (show ((wc.alloc (.cells #[.int .i64 3, .int .i64 n, .string ⟨#[]⟩, .slice none 0 0, .slice none 0 0] 25)).alloc (.cells #[.int .i64 3, .int .i64 m, .string ⟨#[]⟩, .slice none 0 0, .slice none 0 0] 25)).cell? ⟨Q, 1, none⟩ = some (.int .u8 (e : Int)) by rw [Lib.cell_of_heap hQ2]; rfl) d os
    have q2 := fun d os => cell_regrown (show ((wc.alloc (.cells #[.int .i64 3, .int .i64 n, .string ⟨#[]⟩, .slice none 0 0, .slice none 0 0] 25)).alloc (.cells #[.int .i64 3, .int .i64 m, .string ⟨#[]⟩, .slice none 0 0, .slice none 0 0] 25)).cell? ⟨Q, 2, none⟩ = some (.int .u8 (f : Int)) by rw [Lib.cell_of_heap hQ2]; rfl) d os
    clear hP hQ hP2 hQ2 hbx hba hbc
    generalize (wc.alloc (.cells #[.int .i64 3, .int .i64 n, .string ⟨#[]⟩, .slice none 0 0, .slice none 0 0] 25)).alloc (.cells #[.int .i64 3, .int .i64 m, .string ⟨#[]⟩, .slice none 0 0, .slice none 0 0] 25) = W0 at *
    generalize wc.heap.size = K at *
    refine wp_region_quiet_below (by kernel_rfl) (by kernel_rfl) ?_
    iterate 2 (go_big_quiet_step (exact Calls.regrown_of (LS.out _)))
    repeat (go_big_quiet_step (exact Calls.regrown_of (LT.out _)))
    refine wpQuiet_nil ?_
    intro _ hw'
    obtain ⟨⟨dq, osq⟩, hw''⟩ := hw'
    subst hw''
    have hbq := below_regrown W0 dq osq
    have hb3 := hb2.trans (hbq.mono hb2.size)
    have hB9 := box_later B9.out hbq
    have hB10 := box_later B10.out hbq
    have B9' := Lib.hid hB9
    have B10' := Lib.hid hB10
    clear p0 p1 p2 q0 q1 q2 B9 B10 hbq hb2 hB9 hB10 LS LT
    generalize Go.Sort.grow (redrawn W0 dq) osq = W1 at *
    go_upto_region 7 with fail
    have hbx := two_box W1 #[.int .i64 4, .int .i64 0, .string S, .slice none 0 0, .slice none 0 0] #[.int .i64 4, .int .i64 0, .string T, .slice none 0 0, .slice none 0 0]
    have hba := two_below W1 (.cells #[.int .i64 4, .int .i64 0, .string S, .slice none 0 0, .slice none 0 0] 25) (.cells #[.int .i64 4, .int .i64 0, .string T, .slice none 0 0, .slice none 0 0] 25)
    have C9 := Lib.hid (box_later B9'.out hba)
    have C10 := Lib.hid (box_later B10'.out hba)
    have C13 := Lib.hid hbx.1
    have C14 := Lib.hid hbx.2
    have hb4 := hb3.trans (hba.mono hb3.size)
    clear hbx hba hb3 B9' B10'
    generalize (W1.alloc (.cells #[.int .i64 4, .int .i64 0, .string S, .slice none 0 0, .slice none 0 0] 25)).alloc (.cells #[.int .i64 4, .int .i64 0, .string T, .slice none 0 0, .slice none 0 0] 25) = W2 at *
    generalize W1.heap.size = L at *
    obtain ⟨a0, a1, a2, a3, a4⟩ := box_cells C9.out
    obtain ⟨b0, b1, b2, b3, b4⟩ := box_cells C10.out
    have hxn := HXN.out
    have hl := HL.out
    obtain ⟨V, hV⟩ : ∃ V, decide (Y < 0) = V := ⟨_, rfl⟩
    have hnm : ∃ U, decide (n < m) = U ∧ decide (X < 0) = U := ⟨_, rfl, hxn⟩
    obtain ⟨U, hU1, hU2⟩ := hnm
    rw [hV] at hl
    have HLV := Lib.hid hl
    have HVV := Lib.hid hV
    clear hl hV hxn HL HXN
    cases U
    all_goals
      simp only [decide_eq_true_eq, decide_eq_false_iff_not] at hU1 hU2
      go_wp2_with fail
      refine (CXY.out _ hb4).mono ?_
      rintro ee w5 ⟨rfl, hq5⟩
      have hb5 := hb4.trans (hq5.mono hb4.size)
      have D9 := Lib.hid (box_later C9.out hq5)
      have D13 := Lib.hid (box_later C13.out hq5)
      have D14 := Lib.hid (box_later C14.out hq5)
      clear a0 a1 a2 a3 a4 b0 b1 b2 b3 b4
      obtain ⟨a0, a1, a2, a3, a4⟩ := box_cells D13.out
      obtain ⟨b0, b1, b2, b3, b4⟩ := box_cells D14.out
      go_wp2_with fail
      refine (CUV.out _ hb5).mono ?_
      rintro ee w6 ⟨rfl, hq6⟩
      have hb6 := hb5.trans (hq6.mono hb5.size)
      have E9 := Lib.hid (box_later D9.out hq6)
      have E13 := Lib.hid (box_later D13.out hq6)
      clear a0 a1 a2 a3 a4 b0 b1 b2 b3 b4
      obtain ⟨a0, a1, a2, a3, a4⟩ := box_cells E9.out
      obtain ⟨b0, b1, b2, b3, b4⟩ := box_cells E13.out
      have hl := HLV.out
      have hv := HVV.out
      cases V
      all_goals
        simp only [decide_eq_true_eq, decide_eq_false_iff_not] at hv
        go_wp2_with fail
        refine (CXU.out _ hb6).mono ?_
        rintro ee w7 ⟨rfl, hq7⟩
        have hb7 := hb6.trans (hq7.mono hb6.size)
        have F9 := Lib.hid (box_later E9.out hq7)
        have F13 := Lib.hid (box_later E13.out hq7)
        clear a0 a1 a2 a3 a4 b0 b1 b2 b3 b4
        obtain ⟨a0, a1, a2, a3, a4⟩ := box_cells F9.out
        go_wp2_with fail
        refine (C0X.out _ hb7).mono ?_
        rintro ee w8 ⟨rfl, hq8⟩
        have hb8 := hb7.trans (hq8.mono hb7.size)
        have G9 := Lib.hid (box_later F9.out hq8)
        have G13 := Lib.hid (box_later F13.out hq8)
        clear a0 a1 a2 a3 a4
        obtain ⟨a0, a1, a2, a3, a4⟩ := box_cells G9.out
        go_wp2_with fail
        refine (C1X.out _ hb8).mono ?_
        rintro ee w9 ⟨rfl, hq9⟩
        have hb9 := hb8.trans (hq9.mono hb8.size)
        have I13 := Lib.hid (box_later G13.out hq9)
        clear a0 a1 a2 a3 a4
        obtain ⟨a0, a1, a2, a3, a4⟩ := box_cells I13.out
        go_wp2_with fail
        refine (C2U.out _ hb9).mono ?_
        rintro ee wA ⟨rfl, hqA⟩
        have hbA := hb9.trans (hqA.mono hb9.size)
        go_wp2_with fail
        go_ret
        exact ⟨rfl, hbA⟩
end Go.Proofs.YtdmpcoicniihhaaDoor
