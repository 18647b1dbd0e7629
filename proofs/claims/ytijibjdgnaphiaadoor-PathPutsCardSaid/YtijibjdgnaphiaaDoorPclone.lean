/- A value's copy, by the program: alike, in memory of its own. -/
import Derived.Test.YtijibjdgnaphiaaDoorPplace
import Derived.Test.YtijibjdgnaphiaaDoorRsteps
import Derived.Test.YtijibjdgnaphiaaDoorRsame
namespace Go.Proofs.YtijibjdgnaphiaaDoor
open Go.ChangeShapes Go.WideShapes Go.Deep Go.RowKit Go.Lib

theorem info25 : (Tryd.prog.info? 25).map (fun i => (i.zero, i.size, i.bytes)) = some (some (.agg #[.int .i64 0, .int .i64 0, .string ⟨#[]⟩, .slice none 0 0, .slice none 0 0]), 5, 80) := by kernel_rfl

theorem szS : ∀ w, (Go.sizeOf 9).run Tryd.prog w = .ok 1 w := fun w => Tryd.sizeOf9 w
theorem szV : ∀ w, (Go.sizeOf 25).run Tryd.prog w = .ok 5 w := fun w => Tryd.sizeOf25 w

set_option maxHeartbeats 800000 in
set_option maxRecDepth 100000 in
theorem cloneN_zero (a : Addr) (c : Nat) (w : World) : Calls Tryd.prog 69 #[.slice (some a) 0 c] w fun e w' => ∃ v', e = .returned v' ∧ w'.ownsRow w.heap.size 9 1 v' 0 [] ∧ Below w.heap.size w w' := by
  obtain ⟨i0, hi, hz0, hz1, hz2⟩ := info_parts info9
  have q22 : ∀ (w : World) (a : Option Addr) (n c n' c' : Nat), (binOp .eql 22 (.slice a n c) (.slice none n' c')).run Tryd.prog w = .ok (.bool a.isNone) w := fun w a n c n' c' => Lib.run_eql_slice_nil w _ _ a n c n' c' Tryd.underlying22
  go_enter Tryd.func69, Tryd.ntmps69
  go_wp2_with (at_builtin; refine wpList_append_own _ rfl _ _ 22 rfl w.heap.size 9 i0 (.string ⟨#[]⟩) 1 16 Tryd.underlying22 hi hz0 hz1 hz2 rfl (by decide) _ _ _ rfl (World.ownsRow_made w #[] 0 (Nat.le_refl _) (Nat.zero_le _) rfl) a 0 c [] rfl rfl (by intro j u hj; simp at hj) (by intro u hu; cases hu) (by unfold maxLen; omega) (by omega) (by simp) ?_)
  intro v' w1 hown hgrow hnil
  go_wp2
  go_ret
  exact ⟨v', rfl, by simpa using hown, ((Below.refl _ w).alloc (Nat.le_refl _) _).grown hgrow (by simp) (by intro k hk; simp [Value.ownBlock] at hk; omega)⟩

set_option maxHeartbeats 800000 in
set_option maxRecDepth 100000 in
theorem cloneV_zero (a : Addr) (c : Nat) (w : World) : Calls Tryd.prog 70 #[.slice (some a) 0 c] w fun e w' => ∃ v', e = .returned v' ∧ w'.ownsRow w.heap.size 25 5 v' 0 [] ∧ Below w.heap.size w w' := by
  obtain ⟨i0, hi, hz0, hz1, hz2⟩ := info_parts info25
  have q22 : ∀ (w : World) (a : Option Addr) (n c n' c' : Nat), (binOp .eql 23 (.slice a n c) (.slice none n' c')).run Tryd.prog w = .ok (.bool a.isNone) w := fun w a n c n' c' => Lib.run_eql_slice_nil w _ _ a n c n' c' Tryd.underlying23
  go_enter Tryd.func70, Tryd.ntmps70
  go_wp2_with (at_builtin; refine wpList_append_own _ rfl _ _ 23 rfl w.heap.size 25 i0 (.agg #[.int .i64 0, .int .i64 0, .string ⟨#[]⟩, .slice none 0 0, .slice none 0 0]) 5 80 Tryd.underlying23 hi hz0 hz1 hz2 rfl (by decide) _ _ _ rfl (World.ownsRow_made w #[] 0 (Nat.le_refl _) (Nat.zero_le _) rfl) a 0 c [] rfl rfl (by intro j u hj; simp at hj) (by intro u hu; cases hu) (by unfold maxLen; omega) (by omega) (by simp) ?_)
  intro v' w1 hown hgrow hnil
  go_wp2
  go_ret
  exact ⟨v', rfl, by simpa using hown, ((Below.refl _ w).alloc (Nat.le_refl _) _).grown hgrow (by simp) (by intro k hk; simp [Value.ownBlock] at hk; omega)⟩

theorem cloneN_any (na : Option Addr) (nc : Nat) (ns : List ByteArray) (w : World) (hin : AV.NamesIn w na ns) (hl : ns.length ≤ 1000) :
    Calls Tryd.prog 69 #[.slice na ns.length nc] w fun e w' => ∃ v', e = .returned v' ∧ w'.ownsRow w.heap.size 9 1 v' ns.length (ns.map Value.string) ∧ Below w.heap.size w w' := by
  by_cases hne : ns = []
  · subst hne
    cases na with
    | none => exact (Tryd.slices_Clone_nil _ nc w).mono fun e w' ⟨he, hw⟩ => by subst he hw; exact ⟨_, rfl, World.ownsRow_nil _ _ _ _, Below.refl _ _⟩
    | some a => exact (cloneN_zero a nc w).mono fun e w' ⟨v', he, ho, hb⟩ => ⟨v', he, ho, hb⟩
  · obtain ⟨b, o, rfl, hit⟩ := hin.resolve_left hne
    obtain ⟨i0, hi, hz0, hz1, hz2⟩ := info_parts info9
    refine (Tryd.slices_Clone i0 (.string ⟨#[]⟩) 1 16 hi hz0 hz1 hz2 rfl (by decide) szS b o ns.length nc (ns.map Value.string) w (by simp) (by unfold maxLen; omega) (by omega) (fun j u hj => ?_) (fun u hu => ?_)).mono fun e w' ⟨v', he, ho, _, hb⟩ => ⟨v', he, ho, hb⟩
    · rw [List.getElem?_map, Option.map_eq_some_iff] at hj
      obtain ⟨x, hx, rfl⟩ := hj
      obtain ⟨hlt, rfl⟩ := List.getElem?_eq_some_iff.1 hx
      exact hit j hlt
    · obtain ⟨x, _, rfl⟩ := List.mem_map.1 hu
      rfl

/-- The cells of values, one behind the other. -/
def rows (xs : List AV) : List Value := xs.flatMap AV.row

theorem rows_length : ∀ xs : List AV, (rows xs).length = xs.length * 5
  | [] => rfl
  | x :: xs => by
    unfold rows
    rw [List.flatMap_cons, List.length_append, AV.row_length]
    have := rows_length xs
    unfold rows at this
    rw [this]
    simp
    omega

theorem rows_at : ∀ (xs : List AV) (i j : Nat) (hi : i < xs.length), j < 5 → (rows xs)[i * 5 + j]? = xs[i].row[j]?
  | x :: xs, 0, j, _, hj => by
    unfold rows
    rw [List.flatMap_cons, List.getElem?_append_left (by rw [AV.row_length]; omega)]
    simp
  | x :: xs, i + 1, j, hi, hj => by
    have ih := rows_at xs i j (by simpa using hi) hj
    unfold rows at ih ⊢
    rw [List.flatMap_cons, List.getElem?_append_right (by rw [AV.row_length]; omega), AV.row_length, show (i + 1) * 5 + j - 5 = i * 5 + j by omega, ih]
    simp

theorem cloneV_any (xa : Option Addr) (xc : Nat) (xs : List AV) (w : World) (hl : xs.length ≤ 1000) (hin : xs = [] ∨ ∃ b o, xa = some ⟨b, o, none⟩ ∧ ∀ i (h : i < xs.length), w.rangeAt b (o + i * 5) xs[i].row) :
    Calls Tryd.prog 70 #[.slice xa xs.length xc] w fun e w' => ∃ v', e = .returned v' ∧ w'.ownsRow w.heap.size 25 5 v' xs.length (rows xs) ∧ Below w.heap.size w w' := by
  by_cases hne : xs = []
  · subst hne
    cases xa with
    | none => exact (Tryd.slices_CloneV_nil _ xc w).mono fun e w' ⟨he, hw⟩ => by subst he hw; exact ⟨_, rfl, World.ownsRow_nil _ _ _ _, Below.refl _ _⟩
    | some a => exact (cloneV_zero a xc w).mono fun e w' ⟨v', he, ho, hb⟩ => ⟨v', he, ho, hb⟩
  · obtain ⟨b, o, rfl, hit⟩ := hin.resolve_left hne
    obtain ⟨i0, hi, hz0, hz1, hz2⟩ := info_parts info25
    refine (Tryd.slices_CloneV i0 (.agg #[.int .i64 0, .int .i64 0, .string ⟨#[]⟩, .slice none 0 0, .slice none 0 0]) 5 80 hi hz0 hz1 hz2 rfl (by decide) szV b o xs.length xc (rows xs) w (rows_length xs) (by unfold maxLen; omega) (by omega) (fun j u hj => ?_) (fun u hu => ?_)).mono fun e w' ⟨v', he, ho, _, hb⟩ => ⟨v', he, ho, hb⟩
    · have hlt : j < xs.length * 5 := by
        have := (List.getElem?_eq_some_iff.1 hj).1
        rwa [rows_length] at this
      have hi5 : j / 5 < xs.length := by omega
      have e : j = j / 5 * 5 + j % 5 := by omega
      rw [e, rows_at xs (j / 5) (j % 5) hi5 (by omega)] at hj
      have h1 := hit (j / 5) hi5 (j % 5) u hj
      rw [e]
      rwa [Nat.add_assoc] at h1
    · unfold rows at hu
      obtain ⟨x, _, hx⟩ := List.mem_flatMap.1 hu
      obtain ⟨k, n, s, na, nc, ns, xa, xc, ys⟩ := x
      simp only [AV.row, List.mem_cons, List.mem_nil_iff, or_false] at hx
      rcases hx with rfl | rfl | rfl | rfl | rfl <;> rfl

/-- The value lies in whatever world agrees with this one from block B on. -/
def AV.New (B : Nat) (w : World) (t : AV) : Prop := ∀ W : World, (∀ a : Addr, B ≤ a.block → a.block < w.heap.size → W.cell? a = w.cell? a) → t.In W

theorem AV.New.inn {B : Nat} {w : World} {t : AV} (h : t.New B w) : t.In w := h w fun _ _ _ => rfl
theorem AV.New.mono {B B' : Nat} {w : World} {t : AV} (h : t.New B w) (hB : B' ≤ B) : t.New B' w := fun W hW => h W fun a h1 h2 => hW a (by omega) h2
theorem AV.New.kept {B : Nat} {w w' : World} {t : AV} (h : t.New B w) (hk : ∀ a : Addr, B ≤ a.block → a.block < w.heap.size → w'.cell? a = w.cell? a) (hs : w.heap.size ≤ w'.heap.size) : t.New B w' :=
  fun W hW => h W fun a h1 h2 => (hW a h1 (by omega)).trans (hk a h1 h2)
theorem AV.New.below {B : Nat} {w w' : World} {t : AV} (h : t.New B w) (hb : Below w.heap.size w w') : t.New B w' := h.kept (fun _ _ h2 => hb.cell h2) hb.size

theorem AV.eqv_refl : ∀ t : AV, AV.eqv t t = true := by
  intro t
  induction t using AV.ind with
  | h k n s na nc ns xa xc xs ih =>
    rw [AV.eqv]
    have : ∀ l : List AV, (∀ x ∈ l, AV.eqv x x = true) → AV.eqvAll l l = true := by
      intro l
      induction l with
      | nil => intro _; rfl
      | cons a l ihl => intro h; rw [AV.eqvAll, h a (by simp), ihl fun x hx => h x (by simp [hx])]; rfl
    rw [this xs ih]
    simp

theorem eqvAll_of : ∀ {xs ys : List AV}, xs.length = ys.length → (∀ i (h : i < xs.length) (h' : i < ys.length), AV.eqv xs[i] ys[i] = true) → AV.eqvAll xs ys = true
  | [], [], _, _ => rfl
  | x :: xs, y :: ys, hl, h => by
    have h0 := h 0 (by simp) (by simp)
    simp only [List.getElem_cons_zero] at h0
    rw [AV.eqvAll, h0, eqvAll_of (xs := xs) (ys := ys) (by simpa using hl) fun i h1 h2 => h (i + 1) (by simpa using h1) (by simpa using h2)]
    rfl

/-- What clone answers. -/
def CloneEnd (t : AV) (w : World) (e : Ending) (w' : World) : Prop := ∃ t' : AV, e = .returned t'.val ∧ AV.eqv t' t = true ∧ t'.New w.heap.size w' ∧ Below w.heap.size w w'

/-- The items so far: the first j are copies, the others as they were; all lie in the row of block g. -/
structure Copied (xs : List AV) (g j : Nat) (zs : List AV) (wr : World) : Prop where
  len : zs.length = xs.length
  lt : g < wr.heap.size
  thr : wr.there g 0 (xs.length * 5)
  cells : ∀ i (hi : i < zs.length), wr.rangeAt g (i * 5) zs[i].row
  done : ∀ i (hi : i < zs.length), i < j → ∃ h : i < xs.length, AV.eqv zs[i] xs[i] = true ∧ zs[i].New (g + 1) wr
  left : ∀ i (hi : i < zs.length), j ≤ i → ∃ h : i < xs.length, zs[i] = xs[i]

theorem there_below {w w' : World} {b o n : Nat} (h : w.there b o n) (hlt : b < w.heap.size) (hb : Below w.heap.size w w') : w'.there b o n := fun j hj => by
  rw [hb.cell (p := ⟨b, o + j, none⟩) hlt, hb.frozen (p := ⟨b, o + j, none⟩) hlt]
  exact h j hj

theorem range_below {w w' : World} {b o : Nat} {cs : List Value} (h : w.rangeAt b o cs) (hlt : b < w.heap.size) (hb : Below w.heap.size w w') : w'.rangeAt b o cs := fun j v hv => by
  rw [hb.cell (p := ⟨b, o + j, none⟩) hlt]
  exact h j v hv

theorem there_part {w : World} {b o n o' n' : Nat} (h : w.there b o n) (h1 : o ≤ o') (h2 : o' + n' ≤ o + n) : w.there b o' n' := fun j hj => by
  have := h (o' - o + j) (by omega)
  rwa [show o + (o' - o + j) = o' + j by omega] at this

theorem size_setCells (b : Nat) : ∀ (vs : List Value) (o : Nat) (w : World), (w.setCells b o vs).heap.size = w.heap.size
  | [], _, _ => rfl
  | v :: vs, o, w => by
    rw [World.setCells, size_setCells b vs]
    simp [World.setCell]

theorem below_setCells {B : Nat} {a : World} (b : Nat) (hB : B ≤ b) : ∀ (vs : List Value) (o : Nat) (w : World), Below B a w → Below B a (w.setCells b o vs)
  | [], _, _, h => h
  | v :: vs, o, _, h => below_setCells b hB vs (o + 1) _ (h.setCell (p := ⟨b, o, none⟩) hB v)

theorem Copied.below {xs : List AV} {g j : Nat} {zs : List AV} {wr W : World} (h : Copied xs g j zs wr) (hb : Below wr.heap.size wr W) : Copied xs g j zs W where
  len := h.len
  lt := Nat.lt_of_lt_of_le h.lt hb.size
  thr := there_below h.thr h.lt hb
  cells i hi := range_below (h.cells i hi) h.lt hb
  done i hi hj := let ⟨h1, h2, h3⟩ := h.done i hi hj; ⟨h1, h2, h3.below hb⟩
  left := h.left

/-- A further item is copied. -/
theorem Copied.step {xs : List AV} {g j : Nat} {zs : List AV} {wr : World} {t : AV} {B : Nat} (h : Copied xs g j zs wr) (hj : j < xs.length) (ht : AV.eqv t xs[j] = true) (hn : t.New B wr) (hB : g < B) :
    Copied xs g (j + 1) (zs.set j t) (wr.setCells g (j * 5) t.row) where
  len := by rw [List.length_set]; exact h.len
  lt := by rw [size_setCells]; exact h.lt
  thr := World.there_setCells h.thr _ _ _
  cells i hi := by
    rw [List.length_set] at hi
    by_cases e : i = j
    · subst e
      rw [List.getElem_set_self]
      exact World.rangeAt_setCells_same _ _ _ _ (by rw [AV.row_length]; exact there_part h.thr (Nat.zero_le _) (by omega))
    · rw [List.getElem_set_ne (by omega)]
      exact World.rangeAt_setCells_apart (h.cells i hi) _ _ _ (.inr (by rw [AV.row_length, AV.row_length]; omega))
  done i hi hlt := by
    rw [List.length_set] at hi
    have keep : ∀ a : Addr, g + 1 ≤ a.block → (wr.setCells g (j * 5) t.row).cell? a = wr.cell? a := fun a ha => World.cell?_setCells_out _ _ _ _ _ (fun e => by omega)
    by_cases e : i = j
    · subst e
      refine ⟨hj, ?_⟩
      rw [List.getElem_set_self]
      exact ⟨ht, (hn.mono hB).kept (fun a ha _ => keep a ha) (by rw [size_setCells]; exact Nat.le_refl _)⟩
    · rw [List.getElem_set_ne (by omega)]
      obtain ⟨h1, h2, h3⟩ := h.done i hi (by omega)
      exact ⟨h1, h2, h3.kept (fun a ha _ => keep a ha) (by rw [size_setCells]; exact Nat.le_refl _)⟩
  left i hi hle := by
    rw [List.length_set] at hi
    rw [List.getElem_set_ne (by omega)]
    exact h.left i hi (by omega)

theorem formed_item {k n : Int} {lv : Nat} {s : ByteArray} {na : Option Addr} {nc : Nat} {ns : List ByteArray} {xa : Option Addr} {xc : Nat} {xs : List AV} (h : AV.formedJ (.mk k n s na nc ns xa xc xs) lv = true) : ∀ x ∈ xs, AV.formedJ x (lv - 1) = true := by
  have all : ∀ (l : List AV) (m : Nat), AV.allJ l m = true → ∀ x ∈ l, AV.formedJ x m = true := by
    intro l m
    induction l with
    | nil => intro _ x hx; cases hx
    | cons a l ih =>
      intro h x hx
      rw [AV.allJ, Bool.and_eq_true] at h
      rcases List.mem_cons.1 hx with rfl | hx
      · exact h.1
      · exact ih h.2 x hx
  rw [AV.formedJ] at h
  repeat' split at h
  all_goals (try (cases h; done))
  all_goals simp only [Bool.and_eq_true, decide_eq_true_eq] at h
  · rw [h.2.2.2]; intro x hx; cases hx
  · rw [h.2.2]; intro x hx; cases hx
  · rw [h.2.2.2]; intro x hx; cases hx
  · exact all _ _ h.2.2.2.2
  · exact all _ _ h.2.2.2.1.2

theorem formed_lenN {k n : Int} {lv : Nat} {s : ByteArray} {na : Option Addr} {nc : Nat} {ns : List ByteArray} {xa : Option Addr} {xc : Nat} {xs : List AV} (h : AV.formedJ (.mk k n s na nc ns xa xc xs) lv = true) : ns.length ≤ 24 := by
  have hx := AV.formedJ
  rw [AV.formedJ] at h
  repeat' split at h
  all_goals (try (cases h; done))
  all_goals simp only [Bool.and_eq_true, decide_eq_true_eq] at h
  · rw [h.2.2.1]; simp
  · rw [h.2.1]; simp
  · rw [h.2.2.1]; simp
  · rw [h.2.2.1]; simp
  · have := h.2.2.1; have := h.2.2.2.1.1; omega

theorem ownsRow_set {w : World} {base : Nat} {e : TypeId} {size : Nat} {v : Value} {n : Nat} {xs : List Value} (h : w.ownsRow base e size v n xs) {b : Nat} (hb : b < base) (i : Nat) (u : Value) : (w.setCell ⟨b, i, none⟩ u).ownsRow base e size v n xs := by
  refine ⟨h.1, ?_⟩
  rcases h.2 with hn | ⟨g, cap, cur, rfl, hb1, hgg, rest⟩
  · exact .inl hn
  · refine .inr ⟨g, cap, cur, rfl, hb1, ?_, rest⟩
    rw [Below.heap_setCell _ _ _ _ (by simp; omega)]
    exact hgg

theorem fz5 {w : World} {n : Nat} {cs : Array Value} (h : w.heap[n]? = some (.cells cs 25 (0, 0))) :
    w.frozen? ⟨n, 0, none⟩ = false ∧ w.frozen? ⟨n, 1, none⟩ = false ∧ w.frozen? ⟨n, 2, none⟩ = false ∧ w.frozen? ⟨n, 3, none⟩ = false ∧ w.frozen? ⟨n, 4, none⟩ = false :=
  ⟨Lib.frozen_of_heap h 0, Lib.frozen_of_heap h 1, Lib.frozen_of_heap h 2, Lib.frozen_of_heap h 3, Lib.frozen_of_heap h 4⟩

theorem bx5 {w : World} {n : Nat} {a b c d e : Value} (h : w.heap[n]? = some (.cells #[a, b, c, d, e] 25 (0, 0))) :
    w.cell? ⟨n, 0, none⟩ = some a ∧ w.cell? ⟨n, 1, none⟩ = some b ∧ w.cell? ⟨n, 2, none⟩ = some c ∧ w.cell? ⟨n, 3, none⟩ = some d ∧ w.cell? ⟨n, 4, none⟩ = some e := by
  refine ⟨?_, ?_, ?_, ?_, ?_⟩ <;> rw [Lib.cell_of_heap h] <;> rfl

theorem set_size (w : World) (p : Addr) (u : Value) : (w.setCell p u).heap.size = w.heap.size := by simp [World.setCell]

theorem block_lt {w : World} {b : Nat} {o : Obj} (h : w.heap[b]? = some o) : b < w.heap.size := by
  rcases Nat.lt_or_ge b w.heap.size with h1 | h1
  · exact h1
  · rw [Array.getElem?_eq_none h1] at h; cases h

theorem size25' : (Tryd.prog.info? 25).map (·.size) = some 5 := by kernel_rfl

/-- The store of a value into the row. -/
theorem store_row {w3 : World} {g o : Nat} (h : w3.there g o 5) (k n : Int) (s : ByteArray) (na : Option Addr) (nl nc : Nat) (xa : Option Addr) (xl xc : Nat) :
    (Instr.storeAt 25 (.pointer (some ⟨g, o, none⟩)) (.agg #[.int .i64 k, .int .i64 n, .string s, .slice na nl nc, .slice xa xl xc])).run Tryd.prog w3 = .ok () (w3.setCells g o [.int .i64 k, .int .i64 n, .string s, .slice na nl nc, .slice xa xl xc]) :=
  run_storeAt_mid w3 g o 25 #[.int .i64 k, .int .i64 n, .string s, .slice na nl nc, .slice xa xl xc] h size25' (by simp [Value.oneCell'])

/-- What a store into the row of the items asks. -/
theorem store_facts {xs : List AV} {g j : Nat} {zs : List AV} {w3 : World} (hC : Copied xs g j zs w3) (hj : j < xs.length) :
    (∃ v, w3.cell? ⟨g, j * 5, none⟩ = some v) ∧ (∃ v, w3.cell? ⟨g, j * 5 + 1, none⟩ = some v) ∧ (∃ v, w3.cell? ⟨g, j * 5 + 2, none⟩ = some v) ∧ (∃ v, w3.cell? ⟨g, j * 5 + 3, none⟩ = some v) ∧ (∃ v, w3.cell? ⟨g, j * 5 + 4, none⟩ = some v) ∧
    w3.frozen? ⟨g, j * 5, none⟩ = false ∧ w3.frozen? ⟨g, j * 5 + 1, none⟩ = false ∧ w3.frozen? ⟨g, j * 5 + 2, none⟩ = false ∧ w3.frozen? ⟨g, j * 5 + 3, none⟩ = false ∧ w3.frozen? ⟨g, j * 5 + 4, none⟩ = false := by
  have one : ∀ c, c < 5 → (∃ v, w3.cell? ⟨g, j * 5 + c, none⟩ = some v) ∧ w3.frozen? ⟨g, j * 5 + c, none⟩ = false := fun c hc => by
    have h := hC.thr (j * 5 + c) (by omega)
    rw [Nat.zero_add] at h
    exact ⟨Option.isSome_iff_exists.1 h.1, h.2⟩
  exact ⟨(one 0 (by omega)).1, (one 1 (by omega)).1, (one 2 (by omega)).1, (one 3 (by omega)).1, (one 4 (by omega)).1, (one 0 (by omega)).2, (one 1 (by omega)).2, (one 2 (by omega)).2, (one 3 (by omega)).2, (one 4 (by omega)).2⟩

/-- The names lie in a row of the call's own, which isn't that of the items. -/
def NamesApart (w : World) (g : Nat) (na : Option Addr) (ns : List ByteArray) (wr : World) : Prop := AV.NamesIn wr na ns ∧ (ns = [] ∨ ∃ b o, na = some ⟨b, o, none⟩ ∧ w.heap.size + 2 ≤ b ∧ b ≠ g)

theorem ownsRow_caps {w : World} {base : Nat} {e : TypeId} {size : Nat} {na : Option Addr} {n c : Nat} {xs : List Value} (h : w.ownsRow base e size (.slice na n c) n xs) : n ≤ c ∧ c ≤ maxLen := by
  rcases h.2 with ⟨hv, h0⟩ | ⟨g, cap, cur, hv, _, _, h1, h2, _⟩
  · simp only [Value.slice.injEq] at hv
    obtain ⟨_, rfl, rfl⟩ := hv
    exact ⟨Nat.le_refl _, Nat.zero_le _⟩
  · simp only [Value.slice.injEq] at hv
    obtain ⟨_, _, rfl⟩ := hv
    exact ⟨h1, h2⟩

theorem NamesApart.keep {w : World} {g : Nat} {na : Option Addr} {ns : List ByteArray} {wr W : World} (h : NamesApart w g na ns wr) (hk : ∀ a : Addr, a.block < wr.heap.size → w.heap.size + 2 ≤ a.block → a.block ≠ g → W.cell? a = wr.cell? a) : NamesApart w g na ns W := by
  refine ⟨?_, h.2⟩
  rcases h.2 with h0 | ⟨b, o, hna, h1, h2⟩
  · exact .inl h0
  · rcases h.1 with h0 | ⟨b', o', hna', hit⟩
    · exact .inl h0
    · refine .inr ⟨b', o', hna', fun i hi => ?_⟩
      have e : b = b' := by rw [hna] at hna'; cases hna'; rfl
      subst e
      rw [hk _ (World.block_lt_of_cell? wr _ (hit i hi)) h1 h2]
      exact hit i hi

theorem blk_setCells (b : Nat) {i : Nat} (hne : i ≠ b) : ∀ (vs : List Value) (o : Nat) (w : World), (w.setCells b o vs).heap[i]? = w.heap[i]?
  | [], _, _ => rfl
  | v :: vs, o, w => by
    rw [World.setCells, blk_setCells b hne vs, Below.heap_setCell _ _ _ _ hne]

theorem ownsRow_at {w : World} {base : Nat} {na : Option Addr} {n cap : Nat} {ns : List ByteArray} (h : w.ownsRow base 9 1 (.slice na n cap) ns.length (ns.map Value.string)) :
    ns = [] ∨ ∃ b o, na = some ⟨b, o, none⟩ ∧ base ≤ b ∧ ∀ i (hi : i < ns.length), w.cell? ⟨b, o + i, none⟩ = some (.string ns[i]) := by
  rcases ownsRow_names h with h0 | ⟨b, o, e, hit⟩
  · exact .inl h0
  · rcases h.2 with ⟨_, h0⟩ | ⟨g, cap', cur, hv, hge, _⟩
    · exact .inl (List.length_eq_zero_iff.1 h0)
    · simp only [Value.slice.injEq] at hv
      have e2 := e.symm.trans hv.1
      cases e2
      exact .inr ⟨_, _, e, hge, hit⟩

/-- The round's relation, a store on. -/
theorem round_next {w wr V w3 : World} {xs zs : List AV} {gb j : Nat} {na : Option Addr} {ns : List ByteArray} {bx bz : Obj} {k2 n2 : Int} {s2 : ByteArray} {na2 : Option Addr} {nc2 : Nat} {ns2 : List ByteArray} {xa2 : Option Addr} {xc2 : Nat} {xs2 : List AV}
    (hbx : wr.heap[w.heap.size]? = some bx) (hby : wr.heap[w.heap.size + 1]? = some bz) (hna : NamesApart w gb na ns wr) (hC : Copied xs gb j zs wr) (hb : Below w.heap.size w wr) (h1 : Below wr.heap.size wr V) (h3 : Below V.heap.size V w3)
    (hj : j < xs.length) (hge : w.heap.size + 2 ≤ gb) (ht : AV.eqv (.mk k2 n2 s2 na2 nc2 ns2 xa2 xc2 xs2) xs[j] = true) (hn : (AV.mk k2 n2 s2 na2 nc2 ns2 xa2 xc2 xs2).New V.heap.size w3) (W : World)
    (hW : W = (((((w3.setCell ⟨gb, j * 5, none⟩ (.int .i64 k2)).setCell ⟨gb, j * 5 + 1, none⟩ (.int .i64 n2)).setCell ⟨gb, j * 5 + 2, none⟩ (.string s2)).setCell ⟨gb, j * 5 + 3, none⟩ (.slice na2 ns2.length nc2)).setCell ⟨gb, j * 5 + 4, none⟩ (.slice xa2 xs2.length xc2))) :
    W.heap[w.heap.size]? = some bx ∧ W.heap[w.heap.size + 1]? = some bz ∧ Below w.heap.size w W ∧ ∃ zs', NamesApart w gb na ns W ∧ Copied xs gb (j + 1) zs' W := by
  have e : W = w3.setCells gb (j * 5) (AV.mk k2 n2 s2 na2 nc2 ns2 xa2 xc2 xs2).row := hW
  subst e
  have h13 : Below wr.heap.size wr w3 := h1.trans (h3.mono h1.size)
  have hl := hC.lt
  have hs := h13.size
  refine ⟨?_, ?_, below_setCells gb (by omega) _ _ _ (hb.trans (h13.mono hb.size)), _, ?_, ((hC.below h13).step hj ht hn (Nat.lt_of_lt_of_le hl h1.size))⟩
  · rw [blk_setCells _ (by omega), h13.block _ (block_lt hbx)]; exact hbx
  · rw [blk_setCells _ (by omega), h13.block _ (block_lt hby)]; exact hby
  · exact hna.keep fun a ha _ hg => by rw [World.cell?_setCells_out _ _ _ _ _ (fun e => absurd e hg)]; exact h13.cell ha

/-- The copy lies where the call has made it. -/
theorem copy_new {w wr W' : World} {k n : Int} {s : ByteArray} {na : Option Addr} {nc : Nat} {ns : List ByteArray} {xa : Option Addr} {xc : Nat} {xs : List AV} {na1 : Option Addr} {nc1 : Nat} {xa1 : Option Addr} {xc1 : Nat} (hin : (AV.mk k n s na nc ns xa xc xs).In w)
    (hcN : ns.length ≤ nc1 ∧ nc1 ≤ maxLen) (hcX : xs.length ≤ xc1 ∧ xc1 ≤ maxLen) (hk : ∀ a : Addr, w.heap.size + 2 ≤ a.block → W'.cell? a = wr.cell? a)
    (h : xs = [] ∧ (ns = [] ∨ ∃ b o, na1 = some ⟨b, o, none⟩ ∧ w.heap.size + 2 ≤ b ∧ ∀ i (hi : i < ns.length), wr.cell? ⟨b, o + i, none⟩ = some (.string ns[i])) ∨ ∃ (gb : Nat) (zs : List AV), xa1 = some ⟨gb, 0, none⟩ ∧ w.heap.size + 2 ≤ gb ∧ NamesApart w gb na1 ns wr ∧ Copied xs gb xs.length zs wr) (hsz : wr.heap.size ≤ W'.heap.size) :
    ∃ zs : List AV, zs.length = xs.length ∧ AV.eqv (.mk k n s na1 nc1 ns xa1 xc1 zs) (.mk k n s na nc ns xa xc xs) = true ∧ (AV.mk k n s na1 nc1 ns xa1 xc1 zs).New w.heap.size W' := by
  rw [AV.In] at hin
  obtain ⟨i1, i2, i3, _, _, _, _, i8, _⟩ := hin
  rcases h with ⟨rfl, hN⟩ | ⟨gb, zs, rfl, hge, hNA, hC⟩
  · refine ⟨[], rfl, ?_, fun W hW => ?_⟩
    · rw [AV.eqv]; simp [AV.eqvAll]
    · rw [AV.In]
      refine ⟨i1, i2, i3, hcN.1, hcN.2, hcX.1, hcX.2, i8, ?_, fun b o _ => by simp [AV.InAll], .inl rfl⟩
      rcases hN with h0 | ⟨b, o, e, hb, hit⟩
      · exact .inl h0
      · refine .inr ⟨b, o, e, fun i hi => ?_⟩
        rw [hW _ (by simp; omega) (Nat.lt_of_lt_of_le (World.block_lt_of_cell? wr _ (hit i hi)) hsz), hk _ hb]
        exact hit i hi
  · have hlen := hC.len
    refine ⟨zs, hlen, ?_, fun W hW => ?_⟩
    · rw [AV.eqv, eqvAll_of hlen fun i h1 h2 => (hC.done i h1 h2).2.1]
      simp [hlen]
    · rw [AV.In]
      have hl := hC.lt
      have agree : ∀ a : Addr, w.heap.size + 2 ≤ a.block → a.block < wr.heap.size → W.cell? a = wr.cell? a := fun a h1 h2 => (hW a (by omega) (by omega)).trans (hk a h1)
      refine ⟨i1, i2, i3, hcN.1, hcN.2, by rw [hlen]; exact hcX.1, hcX.2, i8, ?_, fun b o e => ?_, .inr ⟨gb, 0, rfl⟩⟩
      · exact (hNA.keep (W := W) fun a h1 h2 _ => agree a h2 h1).1
      · cases e
        refine AV.InAll.of fun i hi => ⟨fun c v hv => ?_, ?_⟩
        · have h1 := hC.cells i hi c v hv
          rw [Nat.zero_add, agree _ hge hl]
          exact h1
        · exact (hC.done i hi (by omega)).2.2 W fun a h1 h2 => agree a (by omega) h2

set_option maxHeartbeats 1600000 in
set_option maxRecDepth 100000 in
theorem clone_step (k n : Int) (s : ByteArray) (na : Option Addr) (nc : Nat) (ns : List ByteArray) (xa : Option Addr) (xc : Nat) (xs : List AV) (w : World) (hin : (AV.mk k n s na nc ns xa xc xs).In w) (hlN : ns.length ≤ 24) (hlX : xs.length ≤ 24)
    (IH : Hid (∀ x ∈ xs, ∀ W : World, x.In W → Calls Tryd.prog 46 #[x.val] W (CloneEnd x W))) : Calls Tryd.prog 46 #[(AV.mk k n s na nc ns xa xc xs).val] w (CloneEnd (.mk k n s na nc ns xa xc xs) w) := by
  have HIN := Lib.hid hin
  rw [AV.In] at hin
  have hnin := hin.2.2.2.2.2.2.2.2.1
  clear hin
  simp only [AV.val, AV.row]
  have CN := Lib.hid (fun W (hb : Below w.heap.size w W) => cloneN_any na nc ns W (hnin.imp id fun ⟨b, o, e, hc⟩ => ⟨b, o, e, fun i hi => cell_later (hc i hi) hb⟩) (by omega))
  have CV := Lib.hid (fun W (hW : ∀ a : Addr, a.block < w.heap.size → W.cell? a = w.cell? a) => cloneV_any xa xc xs W (by omega) (by
    by_cases hne : xs = []
    · exact .inl hne
    · obtain ⟨b, o, e, hit⟩ := HIN.out.item hne
      exact .inr ⟨b, o, e, fun i hi => AV.rangeAt_old hW (hit i hi).1⟩))
  go_enter Tryd.func46, Tryd.ntmps46
  go_wp2_with fail
  refine (CN.out _ (((Below.refl _ _).alloc (Nat.le_refl _) _).alloc (by simp) _)).mono ?_
  rintro e w1 ⟨v1, rfl, hown1, hb1⟩
  have hbx : w1.heap[w.heap.size]? = some (.cells #[.int .i64 k, .int .i64 n, .string s, .slice na ns.length nc, .slice xa xs.length xc] 25 (0, 0)) := by
    rw [hb1.block _ (by simp; omega)]; exact (two_box w _ _).1
  have hby : w1.heap[w.heap.size + 1]? = some (.cells #[.int .i64 0, .int .i64 0, .string ⟨#[]⟩, .slice none 0 0, .slice none 0 0] 25 (0, 0)) := by
    rw [hb1.block _ (by simp)]; exact (two_box w _ _).2
  have hbl : Below w.heap.size w w1 := (((Below.refl w.heap.size w).alloc (Nat.le_refl _) _).alloc (by simp) _).trans (hb1.mono (by simp; omega))
  have hs1 : w.heap.size + 2 ≤ w1.heap.size := by have := hb1.size; simp at this; omega
  obtain ⟨na1, nc1, rfl⟩ := ownsRow_slice hown1
  have CAPN := Lib.hid (ownsRow_caps hown1)
  have hown1' : w1.ownsRow (w.heap.size + 2) 9 1 (.slice na1 ns.length nc1) ns.length (ns.map Value.string) := by simpa using hown1
  clear hown1 hb1
  have c3 := (bx5 hbx).2.2.2.1
  have c4 := (bx5 hbx).2.2.2.2
  have f3 := (fz5 hbx).2.2.2.1
  have f4 := (fz5 hbx).2.2.2.2
  have hbx2 := heap_setCell_same w1 w.heap.size 3 _ 25 (.slice na1 ns.length nc1) hbx
  have HBX := Lib.hid hbx2
  have HBY := Lib.hid hby
  clear hbx hbx2 hby
  go_wp2_with fail
  refine (CV.out _ (fun a ha => ?_)).mono ?_
  · rw [World.cell?_setCell_far _ _ _ _ (by simp; omega)]
    exact hbl.cell ha
  rintro e w2 ⟨v2, rfl, hown2, hb2⟩
  have hbx2 : w2.heap[w.heap.size]? = some (.cells #[.int .i64 k, .int .i64 n, .string s, .slice na1 ns.length nc1, .slice xa xs.length xc] 25 (0, 0)) := by
    rw [hb2.block _ (by rw [set_size]; omega), HBX.out]; rfl
  have hby2 : w2.heap[w.heap.size + 1]? = some (.cells #[.int .i64 0, .int .i64 0, .string ⟨#[]⟩, .slice none 0 0, .slice none 0 0] 25 (0, 0)) := by
    rw [hb2.block _ (by rw [set_size]; omega), Below.heap_setCell _ _ _ _ (by simp)]; exact HBY.out
  have hbl2 : Below w.heap.size w w2 := (hbl.setCell (p := ⟨w.heap.size, 3, none⟩) (Nat.le_refl _) _).trans (hb2.mono (by rw [set_size]; omega))
  have hs2 : w.heap.size + 2 ≤ w2.heap.size := by have := hb2.size; rw [set_size] at this; omega
  have hown1b : w2.ownsRow (w.heap.size + 2) 9 1 (.slice na1 ns.length nc1) ns.length (ns.map Value.string) := ownsRow_later (ownsRow_set hown1' (by omega) _ _) hb2
  obtain ⟨xa1, xc1, rfl⟩ := ownsRow_slice hown2
  have CAPX := Lib.hid (ownsRow_caps hown2)
  have hown2' : w2.ownsRow (w.heap.size + 2) 25 5 (.slice xa1 xs.length xc1) xs.length (rows xs) := by
    rw [set_size] at hown2
    refine ⟨hown2.1, hown2.2.imp id fun ⟨g, cap, cur, h1, h2, h3⟩ => ⟨g, cap, cur, h1, by omega, h3⟩⟩
  clear hown1' hown2 hb2 c3 c4 f3 f4 HBX HBY hbl hs1
  have c4 := (bx5 hbx2).2.2.2.2
  have f4 := (fz5 hbx2).2.2.2.2
  have hbx3 := heap_setCell_same w2 w.heap.size 4 _ 25 (.slice xa1 xs.length xc1) hbx2
  have HBX := Lib.hid (show (w2.setCell ⟨w.heap.size, 4, none⟩ (.slice xa1 xs.length xc1)).heap[w.heap.size]? = some (.cells #[.int .i64 k, .int .i64 n, .string s, .slice na1 ns.length nc1, .slice xa1 xs.length xc1] 25 (0, 0)) from by rw [hbx3]; rfl)
  have HBY := Lib.hid (show (w2.setCell ⟨w.heap.size, 4, none⟩ (.slice xa1 xs.length xc1)).heap[w.heap.size + 1]? = _ from (Below.heap_setCell _ _ _ _ (by simp)).trans hby2)
  have OWN1 := Lib.hid (ownsRow_set hown1b (b := w.heap.size) (by omega) 4 (.slice xa1 xs.length xc1))
  have OWN2 := Lib.hid (ownsRow_set hown2' (b := w.heap.size) (by omega) 4 (.slice xa1 xs.length xc1))
  have HBL := Lib.hid (hbl2.setCell (p := ⟨w.heap.size, 4, none⟩) (Nat.le_refl _) (.slice xa1 xs.length xc1))
  have hs3 : w.heap.size + 2 ≤ (w2.setCell ⟨w.heap.size, 4, none⟩ (.slice xa1 xs.length xc1)).heap.size := by rw [set_size]; exact hs2
  have HS3 := Lib.hid hs3
  clear hbx2 hbx3 hby2 hown1b hown2' hbl2 hs3 hs2
  go_wp2_with fail
  have START : Hid (xs = [] ∨ ∃ (gb : Nat) (zs : List AV), xa1 = some ⟨gb, 0, none⟩ ∧ w.heap.size + 2 ≤ gb ∧ NamesApart w gb na1 ns (w2.setCell ⟨w.heap.size, 4, none⟩ (.slice xa1 xs.length xc1)) ∧ Copied xs gb 0 zs (w2.setCell ⟨w.heap.size, 4, none⟩ (.slice xa1 xs.length xc1))) := by
    have h := OWN2.out
    refine Lib.hid ?_
    rcases h.2 with ⟨_, h0⟩ | ⟨gb, cap, cur, hv, hge, hgg, hle, _, hsz, ht⟩
    · exact .inl (List.length_eq_zero_iff.1 h0)
    · simp only [Value.slice.injEq] at hv
      refine .inr ⟨gb, xs, hv.1, hge, ⟨ownsRow_names OWN1.out, ?_⟩, rfl, block_lt hgg, fun c hc => ?_, fun i hi c v hcv => ?_, fun i _ h => absurd h (Nat.not_lt_zero _), fun i hi _ => ⟨hi, rfl⟩⟩
      · rcases OWN1.out.2 with ⟨_, h0⟩ | ⟨gn, capn, curn, hvn, hgen, hggn, _⟩
        · exact .inl (List.length_eq_zero_iff.1 h0)
        · simp only [Value.slice.injEq] at hvn
          refine .inr ⟨gn, 0, hvn.1, hgen, fun e => ?_⟩
          rw [e, hgg] at hggn
          cases hggn
      · rw [Lib.cell_of_heap hgg, Nat.zero_add, Array.getElem?_eq_getElem (by omega)]
        exact ⟨rfl, Lib.frozen_of_heap hgg _⟩
      · have hc : c < 5 := by
          have := (List.getElem?_eq_some_iff.1 hcv).1
          rwa [AV.row_length] at this
        have h1 := congrArg (·[i * 5 + c]?) ht
        simp only [List.getElem?_take] at h1
        rw [if_pos (by omega), rows_at xs i c hi hc, Array.getElem?_toList] at h1
        rw [Lib.cell_of_heap hgg, h1]
        exact hcv
  clear OWN2
  generalize w2.setCell ⟨w.heap.size, 4, none⟩ (.slice xa1 xs.length xc1) = W0 at *
  go_loopg [16] xs.length (fun g iv wr => ∃ j : Nat, j + g = xs.length ∧ iv = .int .i64 (j : Int) ∧ wr.heap[w.heap.size]? = some (.cells #[.int .i64 k, .int .i64 n, .string s, .slice na1 ns.length nc1, .slice xa1 xs.length xc1] 25 (0, 0)) ∧
    wr.heap[w.heap.size + 1]? = some (.cells #[.int .i64 0, .int .i64 0, .string ⟨#[]⟩, .slice none 0 0, .slice none 0 0] 25 (0, 0)) ∧ Below w.heap.size w wr ∧
    (xs = [] ∧ wr.ownsRow (w.heap.size + 2) 9 1 (.slice na1 ns.length nc1) ns.length (ns.map Value.string) ∨ ∃ (gb : Nat) (zs : List AV), xa1 = some ⟨gb, 0, none⟩ ∧ w.heap.size + 2 ≤ gb ∧ NamesApart w gb na1 ns wr ∧ Copied xs gb j zs wr))
  case atStart => exact ⟨0, by omega, rfl, HBX.out, HBY.out, HBL.out, START.out.imp (fun h => ⟨h, OWN1.out⟩) id⟩
  case round =>
    obtain ⟨j, hj, rfl, hbx, hby, hb, hcop⟩ := hrel
    have HJ := Lib.hid hj
    clear hj
    by_cases hlt : j < xs.length
    · obtain ⟨gb, zs, rfl, hge, hNA, hC⟩ := hcop.resolve_left (by rintro ⟨e, _⟩; rw [e] at hlt; simp at hlt)
      have hjz : j < zs.length := by rw [hC.len]; exact hlt
      obtain ⟨_, hzx⟩ := hC.left j hjz (Nat.le_refl _)
      have hmem : xs[j] ∈ xs := List.getElem_mem hlt
      have hxin : AV.In wr xs[j] := by
        obtain ⟨b, o, _, hit⟩ := HIN.out.item (by intro e; rw [e] at hlt; simp at hlt)
        exact (hit j hlt).2.below hb (Nat.le_refl _)
      have hr : wr.rangeAt gb (j * 5) xs[j].row := by
        have := hC.cells j hjz
        rwa [hzx] at this
      obtain ⟨x, hx⟩ : ∃ x, xs[j] = x := ⟨_, rfl⟩
      have HX := Lib.hid hx
      have HC := Lib.hid hC
      have HBX2 := Lib.hid hbx
      have HBY2 := Lib.hid hby
      rw [hx] at hxin hr hmem
      have CALL := Lib.hid (fun W hW => IH.out x hmem W hW)
      have hgl := hC.lt
      have HNA := Lib.hid hNA
      obtain ⟨k', n', s', na', nc', ns', xa', xc', xs'⟩ := x
      have HR := Lib.hid hr
      have b4 := (bx5 hbx).2.2.2.2
      clear hx hC hcop hr hbx hby hzx hNA
      go_wp2_with (first | ((with_reducible refine wpList_item_out HR.out ?_ ?_); rfl))
      simp only [AV.val, AV.row] at CALL
      have b4a : ∀ o, (wr.alloc o).cell? ⟨w.heap.size, 4, none⟩ = some (.slice (some ⟨gb, 0, none⟩) xs.length xc1) := fun o => cell_later b4 ((Below.refl _ _).alloc (Nat.le_refl _) _)
      have XIN := Lib.hid (fun W (hW : Below wr.heap.size wr W) => hxin.below hW (Nat.le_refl _))
      have HB1 : Hid (Below wr.heap.size wr ((wr.alloc (.cells #[.int .i64 k', .int .i64 n', .string s', .slice na' ns'.length nc', .slice xa' xs'.length xc'] 25)).drew)) := Lib.hid ((Below.refl _ _).alloc (Nat.le_refl _) _).drew
      clear b4 hxin
      go_region_with (go_at_call 46; refine (CALL.out _ (XIN.out _ ?_)).mono ?_; (first | exact ((Below.refl _ _).alloc (Nat.le_refl _) _) | exact ((Below.refl _ _).alloc (Nat.le_refl _) _).drew); rintro e w3 ⟨t', rfl, heq, hnew, hb3⟩; obtain ⟨k2, n2, s2, na2, nc2, ns2, xa2, xc2, xs2⟩ := t'; obtain ⟨⟨v0, q0⟩, ⟨v1, q1⟩, ⟨v2, q2⟩, ⟨v3, q3⟩, ⟨v4, q4⟩, r0, r1, r2, r3, r4⟩ := store_facts (HC.out.below (W := w3) (HB1.out.trans (hb3.mono HB1.out.size))) hlt; simp only [AV.val, AV.row]; have b4b : w3.cell? ⟨w.heap.size, 4, none⟩ = some (.slice (some ⟨gb, 0, none⟩) xs.length xc1) := cell_later (by first | exact b4a _ | exact (b4a _)) hb3)
      all_goals
        go_wp2_with fail
        go_roundg (gk - 1)
        case measure => have := HJ.out; omega
        case rel =>
          obtain ⟨m1, m2, m3, zs', m4, m5⟩ := round_next HBX2.out HBY2.out HNA.out HC.out hb HB1.out hb3 hlt hge (by rw [HX.out]; exact heq) hnew _ rfl
          exact ⟨j + 1, by have := HJ.out; omega, by go_num, m1, m2, m3, .inr ⟨gb, zs', rfl, hge, m4, m5⟩⟩
    · have hj : j = xs.length := by have := HJ.out; omega
      have c0 := (bx5 hbx).1
      have c1 := (bx5 hbx).2.1
      have c2 := (bx5 hbx).2.2.1
      have c3 := (bx5 hbx).2.2.2.1
      have c4 := (bx5 hbx).2.2.2.2
      obtain ⟨d0, d1, d2, d3, d4⟩ := bx5 hby
      obtain ⟨f0, f1, f2, f3, f4⟩ := fz5 hby
      go_wp2_with fail
      have hb2 := Nat.le_succ w.heap.size
      have HB2 := Lib.hid (((((hb.setCell (p := ⟨w.heap.size + 1, 0, none⟩) hb2 (.int .i64 k)).setCell (p := ⟨w.heap.size + 1, 1, none⟩) hb2 (.int .i64 n)).setCell (p := ⟨w.heap.size + 1, 2, none⟩) hb2 (.string s)).setCell (p := ⟨w.heap.size + 1, 3, none⟩) hb2 (.slice na1 ns.length nc1)).setCell (p := ⟨w.heap.size + 1, 4, none⟩) hb2 (.slice xa1 xs.length xc1))
      obtain ⟨zs, hzl, heq, hnew⟩ := copy_new (wr := wr) (W' := ((((wr.setCell ⟨w.heap.size + 1, 0, none⟩ (.int .i64 k)).setCell ⟨w.heap.size + 1, 1, none⟩ (.int .i64 n)).setCell ⟨w.heap.size + 1, 2, none⟩ (.string s)).setCell ⟨w.heap.size + 1, 3, none⟩ (.slice na1 ns.length nc1)).setCell ⟨w.heap.size + 1, 4, none⟩ (.slice xa1 xs.length xc1)) HIN.out CAPN.out CAPX.out
        (fun a ha => by
          rw [World.cell?_setCell_far _ _ _ _ (by simp; omega), World.cell?_setCell_far _ _ _ _ (by simp; omega), World.cell?_setCell_far _ _ _ _ (by simp; omega), World.cell?_setCell_far _ _ _ _ (by simp; omega), World.cell?_setCell_far _ _ _ _ (by simp; omega)])
        (hcop.imp (fun ⟨h1, h2⟩ => ⟨h1, ownsRow_at h2⟩) (fun h => by rw [hj] at h; exact h)) (by simp)
      refine bodyPost_ret (v := .agg #[.int .i64 k, .int .i64 n, .string s, .slice na1 ns.length nc1, .slice xa1 xs.length xc1]) (by simp [results, Tryd.results46, go_sem, d0, d1, d2, d3, d4]) rfl ⟨_, ?_, heq, hnew, HB2.out⟩
      simp [AV.val, AV.row, hzl]

theorem clone_any : ∀ (t : AV) (w : World) (lv : Nat), t.In w → AV.formedJ t lv = true → Calls Tryd.prog 46 #[t.val] w (CloneEnd t w) := by
  intro t
  induction t using AV.ind with
  | h k n s na nc ns xa xc xs ih =>
    intro w lv hin hf
    exact clone_step k n s na nc ns xa xc xs w hin (formed_lenN hf) (formed_len hf) (Lib.hid fun x hx W hW => ih x hx W (lv - 1) hW (formed_item hf x hx))
end Go.Proofs.YtijibjdgnaphiaaDoor
