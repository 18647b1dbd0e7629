/- A member more, by the program: the value with the name and the item where they belong; no condition of ours. -/
import Derived.Test.YtijibjdgnaphiaaDoorPinsn
import Derived.Test.YtijibjdgnaphiaaDoorPget
import Derived.Deep.DeepCutAuto
namespace Go.Proofs.YtijibjdgnaphiaaDoor
open Go.ChangeShapes Go.WideShapes Go.Deep Go.RowKit Go.Lib

theorem ownsRow_base {w : World} {base base' : Nat} {e : TypeId} {size : Nat} {v : Value} {n : Nat} {xs : List Value} (h : w.ownsRow base e size v n xs) (hb : base' ≤ base) : w.ownsRow base' e size v n xs :=
  ⟨h.1, h.2.imp id fun ⟨g, cap, cur, h1, h2, h3⟩ => ⟨g, cap, cur, h1, Nat.le_trans hb h2, h3⟩⟩

/-- What insert answers of names. -/
theorem insN_at (B b : Nat) (v : Value) (i : Nat) (ns : List ByteArray) (p : ByteArray) (W w : World) (hown : w.ownsRow b 9 1 v ns.length (ns.map Value.string)) (hi : i ≤ ns.length) (hn : ns.length ≤ 24) (hB : B ≤ b) (hbw : b ≤ w.heap.size) (vb : Nat)
    (hnew : w.heap[vb]? = some (.cells #[.string p] 9 (0, 0))) (hvb : v.ownBlock ≠ some vb) (hW : Below B W w) :
    Calls Tryd.prog 90 #[v, .int .i64 i, .slice (some ⟨vb, 0, none⟩) 1 1] w fun e w' => ∃ na' nc', e = .returned (.slice na' (ns.length + 1) nc') ∧ w'.ownsRow B 9 1 (.slice na' (ns.length + 1) nc') (ns.length + 1) ((ns.take i ++ p :: ns.drop i).map Value.string) ∧ Below B W w' := by
  refine (insN_any B v ns.length i vb (ns.map Value.string) [.string p] w (ownsRow_base hown hB) hi hn (by omega) rfl hnew (by simp [Value.oneCell']) (fun u hu => by obtain ⟨x, _, rfl⟩ := List.mem_map.1 hu; rfl) hvb).mono fun e w' ⟨v', he, ho, hb⟩ => ?_
  obtain ⟨na', nc', rfl⟩ := ownsRow_slice ho
  refine ⟨na', nc', he, ?_, hW.trans hb⟩
  have e2 : insAt (ns.map Value.string) [.string p] i = (ns.take i ++ p :: ns.drop i).map Value.string := by
    unfold insAt
    simp
  rw [e2] at ho
  exact ho

theorem insN_A {W3 w1 : World} {v1 : Value} {i : Nat} {ns : List ByteArray} {p : ByteArray} (hown1 : w1.ownsRow W3.drew.heap.size 9 1 v1 ns.length (ns.map Value.string)) (hb1 : Below W3.drew.heap.size W3.drew w1) (hi : i ≤ ns.length) (hn : ns.length ≤ 24) :
    Calls Tryd.prog 90 #[v1, .int .i64 i, .slice (some ⟨w1.heap.size, 0, none⟩) 1 1] (w1.alloc (.cells #[.string p] 9)) fun e w' => ∃ na' nc', e = .returned (.slice na' (ns.length + 1) nc') ∧ w'.ownsRow W3.heap.size 9 1 (.slice na' (ns.length + 1) nc') (ns.length + 1) ((ns.take i ++ p :: ns.drop i).map Value.string) ∧ Below W3.heap.size W3.drew w' := by
  have hs : W3.heap.size ≤ w1.heap.size := hb1.size
  exact insN_at W3.heap.size W3.heap.size v1 i ns p W3.drew (w1.alloc (.cells #[.string p] 9)) (hown1.alloc _) hi hn (Nat.le_refl _) (by simp; omega) w1.heap.size (heap_alloc_new w1 _) (fun e => by have := (hown1.lt _ e).2; omega) (hb1.alloc hs _)

theorem insN_B {W3 w1 : World} {v1 : Value} {i : Nat} {ns : List ByteArray} {p : ByteArray} (hown1 : w1.ownsRow (W3.alloc (.cells #[.string p] 9)).drew.heap.size 9 1 v1 ns.length (ns.map Value.string)) (hb1 : Below (W3.alloc (.cells #[.string p] 9)).drew.heap.size (W3.alloc (.cells #[.string p] 9)).drew w1) (hi : i ≤ ns.length) (hn : ns.length ≤ 24) :
    Calls Tryd.prog 90 #[v1, .int .i64 i, .slice (some ⟨W3.heap.size, 0, none⟩) 1 1] w1 fun e w' => ∃ na' nc', e = .returned (.slice na' (ns.length + 1) nc') ∧ w'.ownsRow W3.heap.size 9 1 (.slice na' (ns.length + 1) nc') (ns.length + 1) ((ns.take i ++ p :: ns.drop i).map Value.string) ∧ Below W3.heap.size W3.drew w' := by
  have hs : (W3.alloc (.cells #[.string p] 9)).heap.size ≤ w1.heap.size := hb1.size
  have hz : (W3.alloc (.cells #[.string p] 9)).heap.size = W3.heap.size + 1 := by simp
  have hnew : (W3.alloc (.cells #[.string p] 9)).heap[W3.heap.size]? = some (.cells #[.string p] 9 (0, 0)) := heap_alloc_new W3 _
  exact insN_at W3.heap.size (W3.alloc (.cells #[.string p] 9)).heap.size v1 i ns p W3.drew w1 hown1 hi hn (by omega) hs W3.heap.size ((hb1.block _ (by show W3.heap.size < (W3.alloc (.cells #[.string p] 9)).heap.size; omega)).trans hnew) (fun e => by have h1 := (hown1.lt _ e).1; have h2 : (W3.alloc (.cells #[.string p] 9)).heap.size ≤ W3.heap.size := h1; omega)
    (((Below.refl W3.heap.size W3.drew).alloc (Nat.le_refl _) (.cells #[.string p] 9)).trans (show Below W3.heap.size (W3.drew.alloc (.cells #[.string p] 9)) w1 from ⟨hb1.os, hb1.tape, hb1.output, Nat.le_trans (by show (W3.drew.alloc (.cells #[.string p] 9)).heap.size ≤ (W3.alloc (.cells #[.string p] 9)).heap.size; exact Nat.le_refl _) hb1.size, fun k hk => hb1.block k (by show k < (W3.alloc (.cells #[.string p] 9)).heap.size; omega)⟩))

theorem rows_append (a b : List AV) : rows (a ++ b) = rows a ++ rows b := by unfold rows; rw [List.flatMap_append]

theorem rows_take (xs : List AV) (i : Nat) : (rows xs).take (i * 5) = rows (xs.take i) := by
  have h : rows xs = rows (xs.take i) ++ rows (xs.drop i) := by rw [← rows_append, List.take_append_drop]
  by_cases hi : i ≤ xs.length
  · rw [h]
    exact List.take_left' (by rw [rows_length, List.length_take]; omega)
  · rw [List.take_of_length_le (l := xs) (by omega), List.take_of_length_le (by rw [rows_length]; omega)]

theorem rows_drop (xs : List AV) (i : Nat) : (rows xs).drop (i * 5) = rows (xs.drop i) := by
  have h : rows xs = rows (xs.take i) ++ rows (xs.drop i) := by rw [← rows_append, List.take_append_drop]
  by_cases hi : i ≤ xs.length
  · rw [h]
    exact List.drop_left' (by rw [rows_length, List.length_take]; omega)
  · rw [List.drop_eq_nil_of_le (show xs.length ≤ i by omega), List.drop_eq_nil_of_le (by rw [rows_length]; omega)]
    rfl

theorem rows_ins (xs : List AV) (x : AV) (i : Nat) : insAt (rows xs) x.row (i * 5) = rows (xs.take i ++ x :: xs.drop i) := by
  unfold insAt
  rw [rows_take, rows_drop, rows_append]
  unfold rows
  rw [List.flatMap_cons, List.append_assoc]

theorem row_cells (x : AV) : ∀ u ∈ x.row, u.oneCell' = true := by
  intro u hu
  obtain ⟨k, n, s, na, nc, ns, xa, xc, ys⟩ := x
  simp only [AV.row, List.mem_cons, List.mem_nil_iff, or_false] at hu
  rcases hu with rfl | rfl | rfl | rfl | rfl <;> rfl

theorem rows_cells (xs : List AV) : ∀ u ∈ rows xs, u.oneCell' = true := by
  intro u hu
  unfold rows at hu
  obtain ⟨x, _, hx⟩ := List.mem_flatMap.1 hu
  exact row_cells x u hx

/-- What insert answers of values. -/
theorem insV_at (B b : Nat) (v : Value) (i : Nat) (xs : List AV) (x : AV) (W w : World) (hown : w.ownsRow b 25 5 v xs.length (rows xs)) (hi : i ≤ xs.length) (hn : xs.length ≤ 24) (hB : B ≤ b) (hbw : b ≤ w.heap.size) (vb : Nat)
    (hnew : w.heap[vb]? = some (.cells x.row.toArray 25 (0, 0))) (hvb : v.ownBlock ≠ some vb) (hW : Below B W w) :
    Calls Tryd.prog 91 #[v, .int .i64 i, .slice (some ⟨vb, 0, none⟩) 1 1] w fun e w' => ∃ xa' xc', e = .returned (.slice xa' (xs.length + 1) xc') ∧ w'.ownsRow B 25 5 (.slice xa' (xs.length + 1) xc') (xs.length + 1) (rows (xs.take i ++ x :: xs.drop i)) ∧ Below B W w' := by
  refine (insV_any B v xs.length i vb (rows xs) x.row w (ownsRow_base hown hB) hi hn (by omega) (AV.row_length x) hnew (row_cells x) (rows_cells xs) hvb).mono fun e w' ⟨v', he, ho, hb⟩ => ?_
  obtain ⟨na', nc', rfl⟩ := ownsRow_slice ho
  rw [rows_ins] at ho
  exact ⟨na', nc', he, ho, hW.trans hb⟩

theorem insV_A {W3 w1 : World} {v1 : Value} {i : Nat} {xs : List AV} {k2 n2 : Int} {s2 : ByteArray} {na2 : Option Addr} {nc2 : Nat} {ns2 : List ByteArray} {xa2 : Option Addr} {xc2 : Nat} {xs2 : List AV} (hown1 : w1.ownsRow W3.drew.heap.size 25 5 v1 xs.length (rows xs)) (hb1 : Below W3.drew.heap.size W3.drew w1) (hi : i ≤ xs.length) (hn : xs.length ≤ 24) :
    Calls Tryd.prog 91 #[v1, .int .i64 i, .slice (some ⟨w1.heap.size, 0, none⟩) 1 1] (w1.alloc (.cells #[.int .i64 k2, .int .i64 n2, .string s2, .slice na2 ns2.length nc2, .slice xa2 xs2.length xc2] 25)) fun e w' => ∃ xa' xc', e = .returned (.slice xa' (xs.length + 1) xc') ∧ w'.ownsRow W3.heap.size 25 5 (.slice xa' (xs.length + 1) xc') (xs.length + 1) (rows (xs.take i ++ (AV.mk k2 n2 s2 na2 nc2 ns2 xa2 xc2 xs2) :: xs.drop i)) ∧ Below W3.heap.size W3.drew w' := by
  have hs : W3.heap.size ≤ w1.heap.size := hb1.size
  exact insV_at W3.heap.size W3.heap.size v1 i xs (.mk k2 n2 s2 na2 nc2 ns2 xa2 xc2 xs2) W3.drew (w1.alloc (.cells #[.int .i64 k2, .int .i64 n2, .string s2, .slice na2 ns2.length nc2, .slice xa2 xs2.length xc2] 25)) (hown1.alloc _) hi hn (Nat.le_refl _) (by simp; omega) w1.heap.size (heap_alloc_new w1 _) (fun e => by have := (hown1.lt _ e).2; omega) (hb1.alloc hs _)

theorem insV_B {W3 w1 : World} {v1 : Value} {i : Nat} {xs : List AV} {k2 n2 : Int} {s2 : ByteArray} {na2 : Option Addr} {nc2 : Nat} {ns2 : List ByteArray} {xa2 : Option Addr} {xc2 : Nat} {xs2 : List AV} (hown1 : w1.ownsRow (W3.alloc (.cells #[.int .i64 k2, .int .i64 n2, .string s2, .slice na2 ns2.length nc2, .slice xa2 xs2.length xc2] 25)).drew.heap.size 25 5 v1 xs.length (rows xs))
    (hb1 : Below (W3.alloc (.cells #[.int .i64 k2, .int .i64 n2, .string s2, .slice na2 ns2.length nc2, .slice xa2 xs2.length xc2] 25)).drew.heap.size (W3.alloc (.cells #[.int .i64 k2, .int .i64 n2, .string s2, .slice na2 ns2.length nc2, .slice xa2 xs2.length xc2] 25)).drew w1) (hi : i ≤ xs.length) (hn : xs.length ≤ 24) :
    Calls Tryd.prog 91 #[v1, .int .i64 i, .slice (some ⟨W3.heap.size, 0, none⟩) 1 1] w1 fun e w' => ∃ xa' xc', e = .returned (.slice xa' (xs.length + 1) xc') ∧ w'.ownsRow W3.heap.size 25 5 (.slice xa' (xs.length + 1) xc') (xs.length + 1) (rows (xs.take i ++ (AV.mk k2 n2 s2 na2 nc2 ns2 xa2 xc2 xs2) :: xs.drop i)) ∧ Below W3.heap.size W3.drew w' := by
  generalize hO : Obj.cells #[.int .i64 k2, .int .i64 n2, .string s2, .slice na2 ns2.length nc2, .slice xa2 xs2.length xc2] 25 = O at *
  have hs : (W3.alloc O).heap.size ≤ w1.heap.size := hb1.size
  have hz : (W3.alloc O).heap.size = W3.heap.size + 1 := by simp
  have hnew : (W3.alloc O).heap[W3.heap.size]? = some (.cells (AV.mk k2 n2 s2 na2 nc2 ns2 xa2 xc2 xs2).row.toArray 25 (0, 0)) := by
    rw [← hO]; exact heap_alloc_new W3 _
  exact insV_at W3.heap.size (W3.alloc O).heap.size v1 i xs (.mk k2 n2 s2 na2 nc2 ns2 xa2 xc2 xs2) W3.drew w1 hown1 hi hn (by omega) hs W3.heap.size ((hb1.block _ (by show W3.heap.size < (W3.alloc O).heap.size; omega)).trans hnew) (fun e => by have h1 := (hown1.lt _ e).1; have h2 : (W3.alloc O).heap.size ≤ W3.heap.size := h1; omega)
    (((Below.refl W3.heap.size W3.drew).alloc (Nat.le_refl _) O).trans (show Below W3.heap.size (W3.drew.alloc O) w1 from ⟨hb1.os, hb1.tape, hb1.output, Nat.le_trans (by show (W3.drew.alloc O).heap.size ≤ (W3.alloc O).heap.size; exact Nat.le_refl _) hb1.size, fun k hk => hb1.block k (by show k < (W3.alloc O).heap.size; omega)⟩))

/-- Three boxes, one behind the other. -/
structure Three (P : Nat) (a b c : Array Value) (W : World) : Prop where
  h0 : W.heap[P]? = some (.cells a 25 (0, 0))
  h1 : W.heap[P + 1]? = some (.cells b 25 (0, 0))
  h2 : W.heap[P + 2]? = some (.cells c 25 (0, 0))

theorem three_new (w : World) (a b c : Array Value) : Three w.heap.size a b c (((w.alloc (.cells a 25)).alloc (.cells b 25)).alloc (.cells c 25)) where
  h0 := by rw [Below.heap_alloc _ _ _ (by simp; omega), Below.heap_alloc _ _ _ (by simp)]; exact heap_alloc_new w _
  h1 := by
    rw [Below.heap_alloc _ _ _ (by simp)]
    have := heap_alloc_new (w.alloc (.cells a 25)) (.cells b 25)
    simpa using this
  h2 := by
    have := heap_alloc_new ((w.alloc (.cells a 25)).alloc (.cells b 25)) (.cells c 25)
    simpa using this

theorem Three.later {P : Nat} {a b c : Array Value} {W W' : World} {B : Nat} (h : Three P a b c W) (hb : Below B W W') (hB : P + 3 ≤ B) : Three P a b c W' where
  h0 := (hb.block _ (by omega)).trans h.h0
  h1 := (hb.block _ (by omega)).trans h.h1
  h2 := (hb.block _ (by omega)).trans h.h2

theorem Three.set {P : Nat} {a0 a1 a2 a3 a4 u : Value} {b c : Array Value} {W : World} (h : Three P #[a0, a1, a2, a3, a4] b c W) : Three P #[a0, a1, a2, u, a4] b c (W.setCell ⟨P, 3, none⟩ u) where
  h0 := by
    have := heap_setCell_same W P 3 _ 25 u h.h0
    rw [this]; rfl
  h1 := (Below.heap_setCell _ _ _ _ (by simp)).trans h.h1
  h2 := (Below.heap_setCell _ _ _ _ (by simp)).trans h.h2

theorem box_kept {P : Nat} {a b c : Array Value} {W3 w2 : World} (hb : Below W3.heap.size W3.drew w2) (hT : Three P a b c W3) (hs : W3.heap.size = P + 3) : w2.heap[P]? = some (.cells a 25 (0, 0)) :=
  (hb.block P (by omega)).trans hT.h0

theorem Three.set4 {P : Nat} {a0 a1 a2 a3 a4 u : Value} {b c : Array Value} {W : World} (h : Three P #[a0, a1, a2, a3, a4] b c W) : Three P #[a0, a1, a2, a3, u] b c (W.setCell ⟨P, 4, none⟩ u) where
  h0 := by
    have := heap_setCell_same W P 4 _ 25 u h.h0
    rw [this]; rfl
  h1 := (Below.heap_setCell _ _ _ _ (by simp)).trans h.h1
  h2 := (Below.heap_setCell _ _ _ _ (by simp)).trans h.h2

/-- What the second insertion leaves. -/
theorem more_meet2 {w W3 w2 : World} {a0 a1 a2 a3 a4 : Value} {b c : Array Value} {na1 : Option Addr} {nl nc1 : Nat} {ys : List Value} {xa' : Option Addr} {xl xc' : Nat} {xs : List Value} (hT : Three w.heap.size #[a0, a1, a2, a3, a4] b c W3) (hb3 : Below w.heap.size w W3) (hs : w.heap.size + 3 ≤ W3.heap.size)
    (hn : W3.ownsRow (w.heap.size + 3) 9 1 (.slice na1 nl nc1) nl ys) (ho : w2.ownsRow W3.heap.size 25 5 (.slice xa' xl xc') xl xs) (hb : Below W3.heap.size W3.drew w2) :
    ∃ xa1 xc1, Three w.heap.size #[a0, a1, a2, a3, .slice xa1 xl xc1] b c (w2.setCell ⟨w.heap.size, 4, none⟩ (.slice xa' xl xc')) ∧ (w2.setCell ⟨w.heap.size, 4, none⟩ (.slice xa' xl xc')).ownsRow (w.heap.size + 3) 9 1 (.slice na1 nl nc1) nl ys ∧
      (w2.setCell ⟨w.heap.size, 4, none⟩ (.slice xa' xl xc')).ownsRow (w.heap.size + 3) 25 5 (.slice xa1 xl xc1) xl xs ∧ Below w.heap.size w (w2.setCell ⟨w.heap.size, 4, none⟩ (.slice xa' xl xc')) := by
  have hb' : Below W3.heap.size W3 w2 := ⟨hb.os, hb.tape, hb.output, hb.size, hb.block⟩
  refine ⟨xa', xc', (hT.later hb' hs).set4, ?_, ?_, ?_⟩
  · exact ownsRow_set (ownsRow_later hn hb') (by omega) _ _
  · exact ownsRow_set (ownsRow_base ho hs) (by omega) _ _
  · exact (hb3.trans (hb'.mono (by omega))).setCell (p := ⟨w.heap.size, 4, none⟩) (Nat.le_refl _) _

theorem box_kept2 {P : Nat} {a b c : Array Value} {W3 w2 : World} (hb : Below W3.heap.size W3.drew w2) (hT : Three P a b c W3) (hs : P + 3 ≤ W3.heap.size) : w2.heap[P]? = some (.cells a 25 (0, 0)) :=
  (hb.block P (by omega)).trans hT.h0

/-- What the first insertion leaves. -/
theorem more_meet {w W3 w2 : World} {a0 a1 a2 a3 a4 : Value} {b c : Array Value} {na' : Option Addr} {nl nc' : Nat} {xs : List Value} (hT : Three w.heap.size #[a0, a1, a2, a3, a4] b c W3) (hb3 : Below w.heap.size w W3) (hs : W3.heap.size = w.heap.size + 3)
    (ho : w2.ownsRow W3.heap.size 9 1 (.slice na' nl nc') nl xs) (hb : Below W3.heap.size W3.drew w2) :
    ∃ na1 nc1, Three w.heap.size #[a0, a1, a2, .slice na1 nl nc1, a4] b c (w2.setCell ⟨w.heap.size, 3, none⟩ (.slice na' nl nc')) ∧ (w2.setCell ⟨w.heap.size, 3, none⟩ (.slice na' nl nc')).ownsRow (w.heap.size + 3) 9 1 (.slice na1 nl nc1) nl xs ∧ Below w.heap.size w (w2.setCell ⟨w.heap.size, 3, none⟩ (.slice na' nl nc')) := by
  refine ⟨na', nc', (hT.later (W := W3) (W' := w2) (B := W3.heap.size) ⟨hb.os, hb.tape, hb.output, hb.size, hb.block⟩ (by omega)).set, ?_, ?_⟩
  · rw [← hs]
    exact ownsRow_set ho (by omega) _ _
  · exact (hb3.trans ((show Below W3.heap.size W3 w2 from ⟨hb.os, hb.tape, hb.output, hb.size, hb.block⟩).mono (by omega))).setCell (p := ⟨w.heap.size, 3, none⟩) (Nat.le_refl _) _

/-- The value lies in what is older than B, and in what is C or newer. -/
def AV.Apart (B C : Nat) (w : World) (t : AV) : Prop := ∀ W : World, (∀ a : Addr, a.block < B ∨ C ≤ a.block → a.block < w.heap.size → W.cell? a = w.cell? a) → t.In W

theorem AV.Apart.inn {B C : Nat} {w : World} {t : AV} (h : t.Apart B C w) : t.In w := h w fun _ _ _ => rfl

theorem AV.Apart.mono {B C C' : Nat} {w : World} {t : AV} (h : t.Apart B C w) (hC : C' ≤ C) : t.Apart B C' w := fun W hW => h W fun a h1 h2 => hW a (h1.imp id fun h => by omega) h2

theorem AV.Apart.kept {B C : Nat} {w w' : World} {t : AV} (h : t.Apart B C w) (hk : ∀ a : Addr, a.block < B ∨ C ≤ a.block → a.block < w.heap.size → w'.cell? a = w.cell? a) (hs : w.heap.size ≤ w'.heap.size) : t.Apart B C w' :=
  fun W hW => h W fun a h1 h2 => (hW a h1 (by omega)).trans (hk a h1 h2)

theorem AV.Apart.below {B C : Nat} {w w' : World} {t : AV} (h : t.Apart B C w) (hb : Below w.heap.size w w') : t.Apart B C w' := h.kept (fun _ _ h2 => hb.cell h2) hb.size

theorem AV.In.apart {w0 w : World} {t : AV} (h : t.In w0) (hb : Below w0.heap.size w0 w) (C : Nat) : t.Apart w0.heap.size C w :=
  fun W hW => h.old (fun a ha => (hW a (.inl ha) (by have := hb.size; omega)).trans (hb.cell ha)) t

/-- What the call has made lies there. -/
theorem rows_in {W W' : World} {P : Nat} {n : Int} {k : Int} {s : ByteArray} {na : Option Addr} {nc : Nat} {ns : List ByteArray} {xa : Option Addr} {xc : Nat} {xs : List AV} (hk : (Lit.int .i64 k).wf = true) (hn : (Lit.int .i64 n).wf = true) (hs : s.size ≤ maxLen)
    (hN : W.ownsRow P 9 1 (.slice na ns.length nc) ns.length (ns.map Value.string)) (hV : W.ownsRow P 25 5 (.slice xa xs.length xc) xs.length (rows xs)) (hsz : ∀ x ∈ ns, x.size ≤ maxLen) (hX : ∀ x ∈ xs, x.In W') (hW : ∀ a : Addr, P ≤ a.block → a.block < W.heap.size → W'.cell? a = W.cell? a) :
    (AV.mk k n s na nc ns xa xc xs).In W' := by
  rw [AV.In]
  obtain ⟨c1, c2⟩ := ownsRow_caps hN
  obtain ⟨c3, c4⟩ := ownsRow_caps hV
  refine ⟨hk, hn, hs, c1, c2, c3, c4, hsz, ?_, ?_⟩
  · rcases ownsRow_at hN with h0 | ⟨g, o, e, hg, hit⟩
    · exact .inl h0
    · exact .inr ⟨g, o, e, fun i hi => by rw [hW _ hg (World.block_lt_of_cell? W _ (hit i hi))]; exact hit i hi⟩
  · rcases hV.2 with ⟨hv, h0⟩ | ⟨g, cap, cur, hv, hg, hgg, hle, _, hcs, ht⟩
    · obtain rfl := List.length_eq_zero_iff.1 h0
      exact ⟨fun b o _ => by simp [AV.InAll], .inl rfl⟩
    · simp only [Value.slice.injEq] at hv
      obtain ⟨rfl, _, rfl⟩ := hv
      refine ⟨fun b' o' e => ?_, .inr ⟨g, 0, rfl⟩⟩
      cases e
      refine AV.InAll.of fun i hi => ⟨fun c v hcv => ?_, hX _ (List.getElem_mem hi)⟩
      have hc : c < 5 := by
        have := (List.getElem?_eq_some_iff.1 hcv).1
        rwa [AV.row_length] at this
      have h1 := congrArg (·[i * 5 + c]?) ht
      simp only [List.getElem?_take] at h1
      rw [if_pos (by omega), rows_at xs i c hi hc, Array.getElem?_toList] at h1
      rw [Nat.zero_add, hW _ hg (block_lt hgg), Lib.cell_of_heap hgg, h1]
      exact hcv

set_option maxHeartbeats 3200000 in
set_option maxRecDepth 100000 in
theorem more_yes (n : Int) (i : Nat) (s : ByteArray) (na : Option Addr) (nc : Nat) (ns : List ByteArray) (xa : Option Addr) (xc : Nat) (xs : List AV) (x : AV) (p : ByteArray) (pb po pc : Nat) (w0 w : World) (hin0 : (AV.mk 6 n s na nc ns xa xc xs).In w0) (hxin0 : x.In w0) (hb0 : Below w0.heap.size w0 w)
    (hp : w.cell? ⟨pb, po, none⟩ = some (.string p)) (hpz : p.size ≤ 60) (hlN : ns.length ≤ 24) (hlX : xs.length = ns.length) (hi : i ≤ ns.length) :
    Calls Tryd.prog 72 #[(AV.mk 6 n s na nc ns xa xc xs).val, .int .i64 i, .slice (some ⟨pb, po, none⟩) 1 pc, x.val] w fun e w' => Below w.heap.size w w' ∧ ∃ na1 nc1 xa1 xc1, e = .returned (.tuple #[(AV.mk 6 n s na1 nc1 (ns.take i ++ p :: ns.drop i) xa1 xc1 (xs.take i ++ x :: xs.drop i)).val, .int .i64 0]) ∧
      (AV.mk 6 n s na1 nc1 (ns.take i ++ p :: ns.drop i) xa1 xc1 (xs.take i ++ x :: xs.drop i)).Apart w0.heap.size w.heap.size w' := by
  have hin := hin0.below hb0 (Nat.le_refl _)
  have hxin := hxin0.below hb0 (Nat.le_refl _)
  have HIN0 := Lib.hid hin0
  have HXIN0 := Lib.hid hxin0
  have HB0 := Lib.hid hb0
  clear hin0 hxin0 hb0
  have CN := Lib.hid (fun W (hb : Below w.heap.size w W) => cloneN_any na nc ns W (by
    have h := hin
    rw [AV.In] at h
    exact (h.2.2.2.2.2.2.2.2.1).imp id fun ⟨b, o, e, hc⟩ => ⟨b, o, e, fun i hi => cell_later (hc i hi) hb⟩) (by omega))
  have HIN := Lib.hid hin
  have HXIN := Lib.hid hxin
  obtain ⟨k2, n2, s2, na2, nc2, ns2, xa2, xc2, xs2⟩ := x
  simp only [AV.val, AV.row]
  have HLX := Lib.hid hlX
  have HP := Lib.hid hp
  clear hin hxin hlX hp
  have HT := Lib.hid (three_new w #[.int .i64 6, .int .i64 n, .string s, .slice na ns.length nc, .slice xa xs.length xc] #[.int .i64 k2, .int .i64 n2, .string s2, .slice na2 ns2.length nc2, .slice xa2 xs2.length xc2] #[.int .i64 0, .int .i64 0, .string ⟨#[]⟩, .slice none 0 0, .slice none 0 0])
  have HB3 : Hid (Below w.heap.size w (((w.alloc (.cells #[.int .i64 6, .int .i64 n, .string s, .slice na ns.length nc, .slice xa xs.length xc] 25)).alloc (.cells #[.int .i64 k2, .int .i64 n2, .string s2, .slice na2 ns2.length nc2, .slice xa2 xs2.length xc2] 25)).alloc (.cells #[.int .i64 0, .int .i64 0, .string ⟨#[]⟩, .slice none 0 0, .slice none 0 0] 25))) :=
    Lib.hid ((((Below.refl _ _).alloc (Nat.le_refl _) _).alloc (by simp) _).alloc (by simp; omega) _)
  have HS3 : Hid ((((w.alloc (.cells #[.int .i64 6, .int .i64 n, .string s, .slice na ns.length nc, .slice xa xs.length xc] 25)).alloc (.cells #[.int .i64 k2, .int .i64 n2, .string s2, .slice na2 ns2.length nc2, .slice xa2 xs2.length xc2] 25)).alloc (.cells #[.int .i64 0, .int .i64 0, .string ⟨#[]⟩, .slice none 0 0, .slice none 0 0] 25)).heap.size = w.heap.size + 3) := Lib.hid (by simp)
  go_enter Tryd.func72, Tryd.ntmps72
  go_upto_region 3 with fail
  generalize (((w.alloc (.cells #[.int .i64 6, .int .i64 n, .string s, .slice na ns.length nc, .slice xa xs.length xc] 25)).alloc (.cells #[.int .i64 k2, .int .i64 n2, .string s2, .slice na2 ns2.length nc2, .slice xa2 xs2.length xc2] 25)).alloc (.cells #[.int .i64 0, .int .i64 0, .string ⟨#[]⟩, .slice none 0 0, .slice none 0 0] 25)) = W3 at *
  go_cut [] (fun wx => ∃ na1 nc1, Three w.heap.size #[.int .i64 6, .int .i64 n, .string s, .slice na1 (ns.length + 1) nc1, .slice xa xs.length xc] #[.int .i64 k2, .int .i64 n2, .string s2, .slice na2 ns2.length nc2, .slice xa2 xs2.length xc2] #[.int .i64 0, .int .i64 0, .string ⟨#[]⟩, .slice none 0 0, .slice none 0 0] wx ∧
    wx.ownsRow (w.heap.size + 3) 9 1 (.slice na1 (ns.length + 1) nc1) (ns.length + 1) ((ns.take i ++ p :: ns.drop i).map Value.string) ∧ Below w.heap.size w wx)
  case first =>
    have d3 := (bx5 HT.out.h0).2.2.2.1
    have dp := cell_later HP.out HB3.out
    have e3 : ∀ o, (W3.alloc o).cell? ⟨w.heap.size, 3, none⟩ = some (.slice na ns.length nc) := fun o => cell_later d3 ((Below.refl W3.heap.size W3).alloc (Nat.le_refl _) o)
    have ep : ∀ o, (W3.alloc o).cell? ⟨pb, po, none⟩ = some (.string p) := fun o => cell_later dp ((Below.refl W3.heap.size W3).alloc (Nat.le_refl _) o)
    have HD : Hid (Below w.heap.size w W3.drew) := Lib.hid HB3.out.drew
    have HE : Hid (∀ o, Below w.heap.size w (W3.alloc o).drew) := Lib.hid (fun o => (HB3.out.alloc HB3.out.size o).drew)
    go_region_with (first
      | (go_at_call 69; refine (CN.out _ ?_).mono ?_; exact HD.out; rintro e w1 ⟨v1, rfl, hown1, hb1⟩; have dp1 := cell_later (w := W3.drew) dp hb1)
      | (go_at_call 69; refine (CN.out _ ?_).mono ?_; exact HE.out _; rintro e w1 ⟨v1, rfl, hown1, hb1⟩)
      | (go_at_call 90; (with_reducible refine (insN_A hown1 hb1 hi hlN).mono ?_); rintro e w2 ⟨na', nc', rfl, hown2, hb2⟩; have q3 := (bx5 (box_kept hb2 HT.out HS3.out)).2.2.2.1; have f3 := (fz5 (box_kept hb2 HT.out HS3.out)).2.2.2.1)
      | (go_at_call 90; (with_reducible refine (insN_B hown1 hb1 hi hlN).mono ?_); rintro e w2 ⟨na', nc', rfl, hown2, hb2⟩; have q3 := (bx5 (box_kept hb2 HT.out HS3.out)).2.2.2.1; have f3 := (fz5 (box_kept hb2 HT.out HS3.out)).2.2.2.1))
    all_goals
      go_wp2_with fail
      go_meet
      exact more_meet HT.out HB3.out HS3.out hown2 hb2
  case rest =>
    obtain ⟨na1, nc1, hT4, hown4, hb4⟩ := hcut
    have HT4 := Lib.hid hT4
    have HO4 := Lib.hid hown4
    have HB4 := Lib.hid hb4
    have HSZ4 := Lib.hid (block_lt hT4.h2)
    clear hT4 hown4 hb4
    go_upto_region 4 with fail
    go_cut [] (fun wy => ∃ xa1 xc1, Three w.heap.size #[.int .i64 6, .int .i64 n, .string s, .slice na1 (ns.length + 1) nc1, .slice xa1 (xs.length + 1) xc1] #[.int .i64 k2, .int .i64 n2, .string s2, .slice na2 ns2.length nc2, .slice xa2 xs2.length xc2] #[.int .i64 0, .int .i64 0, .string ⟨#[]⟩, .slice none 0 0, .slice none 0 0] wy ∧
      wy.ownsRow (w.heap.size + 3) 9 1 (.slice na1 (ns.length + 1) nc1) (ns.length + 1) ((ns.take i ++ p :: ns.drop i).map Value.string) ∧ wy.ownsRow (w.heap.size + 3) 25 5 (.slice xa1 (xs.length + 1) xc1) (xs.length + 1) (rows (xs.take i ++ (AV.mk k2 n2 s2 na2 nc2 ns2 xa2 xc2 xs2) :: xs.drop i)) ∧ Below w.heap.size w wy)
    case first =>
      have hb4 := HB4.out
      have CV := Lib.hid (fun W (hb : Below w.heap.size w W) => cloneV_any xa xc xs W (by have := HLX.out; omega) (by
        by_cases hne : xs = []
        · exact .inl hne
        · obtain ⟨b, o, e, hit⟩ := HIN.out.item hne
          exact .inr ⟨b, o, e, fun i hi => AV.rangeAt_old (fun a ha => hb.cell ha) (hit i hi).1⟩))
      have HIX : Hid (i ≤ xs.length) := Lib.hid (by have := HLX.out; omega)
      have HLX24 : Hid (xs.length ≤ 24) := Lib.hid (by have := HLX.out; omega)
      have d4 := (bx5 HT4.out.h0).2.2.2.2
      obtain ⟨g0, g1, g2, g3, g4⟩ := bx5 HT4.out.h1
      have e4 : ∀ o, (wc.alloc o).cell? ⟨w.heap.size, 4, none⟩ = some (.slice xa xs.length xc) := fun o => cell_later d4 ((Below.refl wc.heap.size wc).alloc (Nat.le_refl _) o)
      have HD : Hid (Below w.heap.size w wc.drew) := Lib.hid hb4.drew
      have HE : Hid (∀ o, Below w.heap.size w (wc.alloc o).drew) := Lib.hid (fun o => (hb4.alloc hb4.size o).drew)
      have HS3' : Hid (w.heap.size + 3 ≤ wc.heap.size) := Lib.hid HSZ4.out
      clear hb4
      go_region_with (first
        | (go_at_call 70; refine (CV.out _ ?_).mono ?_; exact HD.out; rintro e w1 ⟨v1, rfl, hown1, hb1⟩; obtain ⟨m0, m1, m2, m3, m4⟩ := bx5 ((hb1.block (w.heap.size + 1) (show w.heap.size + 1 < wc.heap.size by have := HS3'.out; omega)).trans HT4.out.h1))
        | (go_at_call 70; refine (CV.out _ ?_).mono ?_; exact HE.out _; rintro e w1 ⟨v1, rfl, hown1, hb1⟩)
        | (go_at_call 91; (with_reducible refine (insV_A hown1 hb1 HIX.out HLX24.out).mono ?_); rintro e w2 ⟨xa', xc', rfl, hown2, hb2⟩; have q4 := (bx5 (box_kept2 hb2 HT4.out HS3'.out)).2.2.2.2; have f4 := (fz5 (box_kept2 hb2 HT4.out HS3'.out)).2.2.2.2)
        | (go_at_call 91; (with_reducible refine (insV_B hown1 hb1 HIX.out HLX24.out).mono ?_); rintro e w2 ⟨xa', xc', rfl, hown2, hb2⟩; have q4 := (bx5 (box_kept2 hb2 HT4.out HS3'.out)).2.2.2.2; have f4 := (fz5 (box_kept2 hb2 HT4.out HS3'.out)).2.2.2.2))
      all_goals
        go_wp2_with fail
        go_meet
        exact more_meet2 HT4.out HB4.out HS3'.out HO4.out hown2 hb2
    case rest =>
      obtain ⟨xa1, xc1, hT5, hN5, hV5, hb5⟩ := hcut
      obtain ⟨c0, c1, c2, c3, c4⟩ := bx5 hT5.h0
      obtain ⟨d0, d1, d2, d3, d4⟩ := bx5 hT5.h2
      obtain ⟨f0, f1, f2, f3, f4⟩ := fz5 hT5.h2
      have HB5 := Lib.hid hb5
      have HN5 := Lib.hid hN5
      have HV5 := Lib.hid hV5
      clear hT5 hN5 hV5
      go_wp2_with fail
      have hlen1 : (ns.take i ++ p :: ns.drop i).length = ns.length + 1 := by simp; omega
      have hlen2 : (xs.take i ++ (AV.mk k2 n2 s2 na2 nc2 ns2 xa2 xc2 xs2) :: xs.drop i).length = xs.length + 1 := by have := HLX.out; simp; omega
      have hfin := below_five HB5.out (b := w.heap.size + 1 + 1) (by omega) (.int .i64 6) (.int .i64 n) (.string s) (.slice na1 (ns.length + 1) nc1) (.slice xa1 (xs.length + 1) xc1)
      have hi0 := HIN.out
      rw [AV.In] at hi0
      refine bodyPost_ret (v := .tuple #[.agg #[.int .i64 6, .int .i64 n, .string s, .slice na1 (ns.length + 1) nc1, .slice xa1 (xs.length + 1) xc1], .int .i64 0]) (by simp [results, Tryd.results72, go_sem, d0, d1, d2, d3, d4]) rfl ⟨hfin, na1, nc1, xa1, xc1, by rw [hlen1, hlen2], ?_⟩
      have hN6 := HN5.out
      have hV6 := HV5.out
      rw [← hlen1] at hN6
      rw [← hlen2] at hV6
      intro WZ hWZ
      have hset : ∀ a : Addr, a.block ≠ w.heap.size + 1 + 1 → (((((wc.setCell ⟨w.heap.size + 1 + 1, 0, none⟩ (.int .i64 6)).setCell ⟨w.heap.size + 1 + 1, 1, none⟩ (.int .i64 n)).setCell ⟨w.heap.size + 1 + 1, 2, none⟩ (.string s)).setCell ⟨w.heap.size + 1 + 1, 3, none⟩ (.slice na1 (ns.length + 1) nc1)).setCell ⟨w.heap.size + 1 + 1, 4, none⟩ (.slice xa1 (xs.length + 1) xc1)).cell? a = wc.cell? a := fun a ha => by
        rw [World.cell?_setCell_far _ _ _ _ (fun e => ha (by rw [← e])), World.cell?_setCell_far _ _ _ _ (fun e => ha (by rw [← e])), World.cell?_setCell_far _ _ _ _ (fun e => ha (by rw [← e])), World.cell?_setCell_far _ _ _ _ (fun e => ha (by rw [← e])), World.cell?_setCell_far _ _ _ _ (fun e => ha (by rw [← e]))]
      have hold : ∀ z : AV, z.In w0 → z.In WZ := fun z hz => hz.old (fun a ha => by
        have h0 := HB0.out.size
        have h1 := hfin.size
        exact (hWZ a (.inl ha) (by omega)).trans ((hfin.cell (by omega)).trans (HB0.out.cell ha))) z
      refine rows_in hi0.1 hi0.2.1 hi0.2.2.1 hN6 hV6 (fun y hy => ?_) (fun y hy => ?_) (fun a ha hlt => ?_)
      · rcases List.mem_append.1 hy with hy | hy
        · exact hi0.2.2.2.2.2.2.2.1 y (List.mem_of_mem_take hy)
        · rcases List.mem_cons.1 hy with rfl | hy
          · unfold maxLen; omega
          · exact hi0.2.2.2.2.2.2.2.1 y (List.mem_of_mem_drop hy)
      · have hitem : ∀ z ∈ xs, z.In w0 := fun z hz => by
          obtain ⟨j, hj, rfl⟩ := List.mem_iff_getElem.1 hz
          obtain ⟨b, o, _, hit⟩ := HIN0.out.item (by intro e; rw [e] at hj; simp at hj)
          exact (hit j hj).2
        refine hold y ?_
        rcases List.mem_append.1 hy with hy | hy
        · exact hitem y (List.mem_of_mem_take hy)
        · rcases List.mem_cons.1 hy with rfl | hy
          · exact HXIN0.out
          · exact hitem y (List.mem_of_mem_drop hy)
      · rw [hWZ a (.inr (by omega)) (by simpa [set_size] using hlt), hset a (by omega)]
end Go.Proofs.YtijibjdgnaphiaaDoor
