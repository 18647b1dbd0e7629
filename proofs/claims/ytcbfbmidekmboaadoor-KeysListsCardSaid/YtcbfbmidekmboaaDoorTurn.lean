/- Compound keys as plain lists of bytes: how they are ordered, and how they are split; no condition of ours. -/
/- Bytes turned in place, whether a value falls, whether all values are formed: what the program's calls answer; no condition of ours. -/
import Derived.Test.YtcbfbmidekmboaaDoorKeyc
import Derived.Test.YtcbfbmidekmboaaDoorByts
import Derived.Test.YtcbfbmidekmboaaDoorHelps
namespace Go.Proofs.YtcbfbmidekmboaaDoor
open Go.ChangeShapes Go.WideShapes Go.Deep Go.RowKit Go.Lib

/-- Every byte turned. -/
def turnL (l : List UInt8) : List UInt8 := l.map (fun c => 255 - c)

theorem turn_byte (c : UInt8) : (255 - c).toNat = 255 - c.toNat := by
  have h := c.toNat_lt
  rw [UInt8.toNat_sub_of_le _ _ (by rw [UInt8.le_iff_toNat_le]; show c.toNat ≤ 255; omega)]
  rfl

theorem turnL_length (l : List UInt8) : (turnL l).length = l.length := by simp [turnL]
theorem turnL_append (a b : List UInt8) : turnL (a ++ b) = turnL a ++ turnL b := by simp [turnL]
theorem turnL_turnL (l : List UInt8) : turnL (turnL l) = l := by
  unfold turnL
  rw [List.map_map]
  have e : ((fun c : UInt8 => 255 - c) ∘ fun c => 255 - c) = id := by
    funext c
    apply UInt8.toNat_inj.1
    show (255 - (255 - c)).toNat = c.toNat
    have h := c.toNat_lt
    rw [turn_byte, turn_byte]
    omega
  rw [e, List.map_id]
theorem turnL_drop (l : List UInt8) (n : Nat) : turnL (l.drop n) = (turnL l).drop n := by unfold turnL; rw [List.map_drop]

theorem cmpP_turn : ∀ {a b : List UInt8} (r r' : List UInt8), cmpP a b ≠ 0 → cmpP (turnL a ++ r) (turnL b ++ r') = -cmpP a b
  | [], b, _, _, h => absurd (by rw [cmpP]) h
  | a :: l, [], _, _, h => absurd (by rw [cmpP]) h
  | a :: l, b :: s, r, r', h => by
    show cmpP ((255 - a) :: (turnL l ++ r)) ((255 - b) :: (turnL s ++ r')) = _
    rw [cmpP_cons, cmpP_cons, turn_byte, turn_byte]
    rw [cmpP_cons] at h
    have ha := a.toNat_lt
    have hb := b.toNat_lt
    have e : compareInt ((255 - a.toNat : Nat) : Int) ((255 - b.toNat : Nat) : Int) = -compareInt (a.toNat : Int) (b.toNat : Int) := by
      unfold compareInt
      split <;> split <;> (try split) <;> (try split) <;> omega
    rw [e]
    by_cases h0 : compareInt (a.toNat : Int) (b.toNat : Int) = 0
    · rw [lexI_of h0] at h
      rw [lexI_of h0, lexI_of (by omega)]
      exact cmpP_turn r r' h
    · rw [lexI_at h0, lexI_at (by omega)]

/-- Does the value at a place fall? -/
def fallsB (down : List Bool) (i : Nat) : Bool := down.getD i false

/-- A part of a compound key. -/
def partL (d : Bool) (x : AV) : List UInt8 := if d then turnL (AV.key x) else AV.key x
/-- How two values stand to each other in it. -/
def partC (d : Bool) (x y : AV) : Int := if d then -AV.ord x y else AV.ord x y

theorem partL_length (d : Bool) (x : AV) : (partL d x).length = (AV.key x).length := by
  unfold partL
  split
  · exact turnL_length _
  · rfl

theorem cmpP_part {d : Bool} {x y : AV} {lv lv' : Nat} {w : World} (r r' : List UInt8) (hf : AV.formedJ x lv = true) (hf' : AV.formedJ y lv' = true) (hi : x.In w) (hi' : y.In w) :
    cmpP (partL d x ++ r) (partL d y ++ r') = lexI (partC d x y) (cmpP r r') := by
  unfold partL partC
  cases d
  · simp only [Bool.false_eq_true, if_false]
    exact AV.cmpP_key x y lv lv' w r r' hf hf' hi hi'
  · simp only [if_true]
    have hk := key_cmp hf hf' hi hi'
    by_cases h : AV.ord x y = 0
    · rw [key_alike hf hf' hi hi' h, cmpP_same, h, lexI_of (by rfl)]
    · rw [cmpP_turn r r' (by rw [hk]; exact h), hk, lexI_at (by omega)]

/-- A compound key, from a place in the list on. -/
def compL (down : List Bool) : Nat → List AV → List UInt8
  | _, [] => []
  | i, x :: xs => partL (fallsB down i) x ++ compL down (i + 1) xs
/-- How two lists stand to each other. -/
def compC (down : List Bool) : Nat → List AV → List AV → Int
  | _, [], _ => 0
  | _, _ :: _, [] => 0
  | i, x :: xs, y :: ys => lexI (partC (fallsB down i) x y) (compC down (i + 1) xs ys)

theorem compL_drop {down : List Bool} {xs : List AV} {j : Nat} (h : j < xs.length) : compL down j (xs.drop j) = partL (fallsB down j) xs[j] ++ compL down (j + 1) (xs.drop (j + 1)) := by
  rw [List.drop_eq_getElem_cons h, compL]

theorem compC_drop {down : List Bool} {xs ys : List AV} {j : Nat} (h : j < xs.length) (h' : j < ys.length) : compC down j (xs.drop j) (ys.drop j) = lexI (partC (fallsB down j) xs[j] ys[j]) (compC down (j + 1) (xs.drop (j + 1)) (ys.drop (j + 1))) := by
  rw [List.drop_eq_getElem_cons h, List.drop_eq_getElem_cons h', compC]

theorem cmpP_comp {down : List Bool} {w : World} : ∀ (xs ys : List AV) (i : Nat), xs.length = ys.length → (∀ x ∈ xs, AV.formedJ x 6 = true ∧ x.In w) → (∀ y ∈ ys, AV.formedJ y 6 = true ∧ y.In w) → cmpP (compL down i xs) (compL down i ys) = compC down i xs ys
  | [], [], i, _, _, _ => by rw [compL, compC]; rfl
  | x :: xs, y :: ys, i, hl, hx, hy => by
    rw [compL, compL, compC, cmpP_part _ _ (hx x (by simp)).1 (hy y (by simp)).1 (hx x (by simp)).2 (hy y (by simp)).2, cmpP_comp xs ys (i + 1) (by simpa using hl) (fun z hz => hx z (by simp [hz])) (fun z hz => hy z (by simp [hz]))]

theorem comp_alike {down : List Bool} {w : World} : ∀ (xs ys : List AV) (i : Nat), xs.length = ys.length → (∀ x ∈ xs, AV.formedJ x 6 = true ∧ x.In w) → (∀ y ∈ ys, AV.formedJ y 6 = true ∧ y.In w) → compC down i xs ys = 0 → compL down i xs = compL down i ys
  | [], [], i, _, _, _, _ => rfl
  | x :: xs, y :: ys, i, hl, hx, hy, h => by
    rw [compC, lexI_zero] at h
    have ho : AV.ord x y = 0 := by
      have := h.1
      unfold partC at this
      split at this <;> omega
    have hk := key_alike (hx x (by simp)).1 (hy y (by simp)).1 (hx x (by simp)).2 (hy y (by simp)).2 ho
    rw [compL, compL, comp_alike xs ys (i + 1) (by simpa using hl) (fun z hz => hx z (by simp [hz])) (fun z hz => hy z (by simp [hz])) h.2]
    unfold partL
    rw [hk]

/-- What is asked of the two keys. -/
theorem comp_fits {down : List Bool} {w : World} {xs ys : List AV} (hl : xs.length = ys.length) (hx : ∀ x ∈ xs, AV.formedJ x 6 = true ∧ x.In w) (hy : ∀ y ∈ ys, AV.formedJ y 6 = true ∧ y.In w) :
    compareBytes (compL down 0 xs) (compL down 0 ys) = compC down 0 xs ys ∧ (compL down 0 xs = compL down 0 ys ↔ compC down 0 xs ys = 0) := by
  have hc := cmpP_comp (down := down) xs ys 0 hl hx hy
  have hb : compareBytes (compL down 0 xs) (compL down 0 ys) = compC down 0 xs ys := by
    by_cases h : compC down 0 xs ys = 0
    · rw [comp_alike xs ys 0 hl hx hy h, h]; exact cmpB_zero.2 rfl
    · rw [cmpB_of_cmpP (by rw [hc]; exact h), hc]
  exact ⟨hb, by rw [← hb, cmpB_zero]⟩
end Go.Proofs.YtcbfbmidekmboaaDoor

namespace Go.Proofs.YtcbfbmidekmboaaDoor
open Go.ChangeShapes Go.WideShapes Go.Deep Go.RowKit Go.Lib

theorem grown_trans {a b c : World} {r : Option Nat} (h : a.grownBy b r) (k : b.grownBy c r) : a.grownBy c r :=
  ⟨k.os.trans h.os, k.tape.trans h.tape, k.output.trans h.output, Nat.le_trans h.size k.size, fun i hi hr => (k.block i (Nat.lt_of_lt_of_le hi h.size) hr).trans (h.block i hi hr)⟩

theorem set_mid (A : List UInt8) (c d : UInt8) (R : List UInt8) (u : Value) (hu : u = .int .u8 (d.toNat : Int)) : (Lib.byteCells (A ++ c :: R)).set A.length u = Lib.byteCells (A ++ d :: R) := by
  subst hu
  rw [Lib.byteCells_append, Lib.byteCells_append, List.set_append_right _ _ (by simp [Lib.byteCells])]
  simp [Lib.byteCells]

set_option maxHeartbeats 4000000 in
set_option maxRecDepth 100000 in
theorem turn_any (B g n cap c : Nat) (l1 l2 : List UInt8) (w : World) (hn : n = l1.length + l2.length) (hown : w.ownsRow B 5 1 (.slice (some ⟨g, 0, none⟩) n cap) n (Lib.byteCells (l1 ++ l2))) (hl : l2.length ≤ 9223372036854775807) :
    Calls Tryd.prog 33 #[.slice (some ⟨g, l1.length, none⟩) l2.length c] w fun e w' => e = .returned (.tuple #[]) ∧ w'.ownsRow B 5 1 (.slice (some ⟨g, 0, none⟩) n cap) n (Lib.byteCells (l1 ++ turnL l2)) ∧ w.grownBy w' (some g) := by
  have HN := Lib.hid hn
  have HO := Lib.hid hown
  clear hn hown
  go_enter Tryd.func33, Tryd.ntmps33
  go_wp2_with fail
  go_loopg [5] l2.length (fun k i wr => ∃ j : Nat, j + k = l2.length ∧ i = .int .i64 (j : Int) ∧ wr.ownsRow B 5 1 (.slice (some ⟨g, 0, none⟩) n cap) n (Lib.byteCells (l1 ++ (turnL (l2.take j) ++ l2.drop j))) ∧ w.grownBy wr (some g))
  case atStart => exact ⟨0, by omega, rfl, by simpa [turnL] using HO.out, ⟨rfl, rfl, rfl, Nat.le_refl _, fun _ _ _ => rfl⟩⟩
  case round =>
    obtain ⟨j, hj, rfl, hown, hg⟩ := hrel
    have HJ := Lib.hid hj
    have HG := Lib.hid hg
    clear hj hg
    by_cases hlt : j < l2.length
    · obtain ⟨x, hx⟩ : ∃ x, l2[j] = x := ⟨_, rfl⟩
      have e1 : l1 ++ (turnL (l2.take j) ++ l2.drop j) = (l1 ++ turnL (l2.take j)) ++ x :: l2.drop (j + 1) := by
        rw [List.drop_eq_getElem_cons hlt, hx, List.append_assoc]
      have e2 : l1 ++ (turnL (l2.take (j + 1)) ++ l2.drop (j + 1)) = (l1 ++ turnL (l2.take j)) ++ (255 - x) :: l2.drop (j + 1) := by
        rw [List.take_succ_eq_append_getElem hlt, hx, turnL_append]
        simp [turnL]
      have el : (l1 ++ turnL (l2.take j)).length = l1.length + j := by rw [List.length_append, turnL_length, List.length_take]; omega
      rw [e1] at hown
      have h1 := hown.cellAt (l1.length + j) (by have := HN.out; omega)
      rw [← el, Lib.byteCells_append, List.getElem?_append_right (by simp [Lib.byteCells]), show (l1 ++ turnL (l2.take j)).length - (Lib.byteCells (l1 ++ turnL (l2.take j))).length = 0 by simp [Lib.byteCells], el] at h1
      have c1 : wr.cell? ⟨g, l1.length + j, none⟩ = some (.int .u8 (x.toNat : Int)) := h1
      have f1 : wr.frozen? ⟨g, l1.length + j, none⟩ = false := hown.frozenAt _
      have hx2 := turn_byte x
      have hx3 := x.toNat_lt
      have hval : Value.int .u8 (255 - (x.toNat : Int)) = .int .u8 ((255 - x).toNat : Int) := by rw [hx2]; congr 1; omega
      have hst := hown.stored (l1.length + j) (.int .u8 (255 - (x.toNat : Int)))
      rw [← el, set_mid _ _ _ _ _ hval, ← e2, el] at hst
      have HST := Lib.hid hst
      have q1 : (0 : Int) ≤ 255 - (x.toNat : Int) := by omega
      have q2 : 255 - (x.toNat : Int) ≤ 255 := by omega
      clear hx e1 e2 el h1 hx2 hx3 hval hst hown
      go_wp2_with fail
      go_roundg (gk - 1)
      case measure => have := HJ.out; omega
      case rel => exact ⟨j + 1, by have := HJ.out; omega, by go_num, HST.out.1, grown_trans HG.out HST.out.2⟩
    · have e : l1 ++ (turnL (l2.take j) ++ l2.drop j) = l1 ++ turnL l2 := by
        rw [List.take_of_length_le (by omega), List.drop_eq_nil_of_le (by omega), List.append_nil]
      rw [e] at hown
      have HO2 := Lib.hid hown
      clear e hown
      go_wp2_with fail
      go_end0
      exact ⟨rfl, HO2.out, HG.out⟩

/-- The bools lie there. -/
def BoolsIn (w : World) (da : Option Addr) (down : List Bool) : Prop := down = [] ∨ ∃ b o, da = some ⟨b, o, none⟩ ∧ ∀ j (h : j < down.length), w.cell? ⟨b, o + j, none⟩ = some (.bool down[j])

theorem BoolsIn.below {w w' : World} {da : Option Addr} {down : List Bool} (h : BoolsIn w da down) (hb : Below w.heap.size w w') : BoolsIn w' da down := by
  rcases h with h | ⟨b, o, e, h⟩
  · exact .inl h
  · exact .inr ⟨b, o, e, fun j hj => cell_kept2 hb (h j hj)⟩

set_option maxHeartbeats 4000000 in
theorem falls_any (da : Option Addr) (dc : Nat) (down : List Bool) (i : Nat) (w : World) (h : BoolsIn w da down) :
    Calls Tryd.prog 32 #[.slice da down.length dc, .int .i64 (i : Int)] w fun e w' => e = .returned (.bool (fallsB down i)) ∧ w' = w := by
  by_cases hlt : i < down.length
  · obtain ⟨b, o, rfl, hc⟩ := h.resolve_left (by intro e; rw [e] at hlt; simp at hlt)
    have c1 := hc i hlt
    have e : fallsB down i = down[i] := by unfold fallsB; simp [List.getD_eq_getElem?_getD, List.getElem?_eq_getElem hlt]
    rw [e]
    obtain ⟨d, hd⟩ : ∃ d, down[i] = d := ⟨_, rfl⟩
    rw [hd] at c1 ⊢
    clear h hc e hd
    go_enter Tryd.func32, Tryd.ntmps32
    go_wp2_with fail
    go_ret
    exact ⟨rfl, rfl⟩
  · have e : fallsB down i = false := by unfold fallsB; simp [List.getD_eq_getElem?_getD, List.getElem?_eq_none (Nat.le_of_not_lt hlt)]
    rw [e]
    clear h e
    go_enter Tryd.func32, Tryd.ntmps32
    go_wp2_with fail
    go_ret
    exact ⟨rfl, rfl⟩

set_option maxHeartbeats 4000000 in
set_option maxRecDepth 100000 in
theorem allFormed_any (xa : Option Addr) (xc : Nat) (xs : List AV) (w : World) (hits : AV.Its w xa xs) (hl : xs.length ≤ 9223372036854775807) (hT : Tabs w) : Calls Tryd.prog 31 #[.slice xa xs.length xc] w fun e w' => e = .returned (.bool (xs.all fun x => AV.formedJ x 6)) ∧ Below w.heap.size w w' := by
  have HITS := Lib.hid hits
  have HT := Lib.hid hT
  obtain ⟨C, hC⟩ : ∃ C, (xs.all fun x => AV.formedJ x 6) = C := ⟨_, rfl⟩
  rw [hC]
  have HC := Lib.hid hC
  clear hits hC hT
  go_enter Tryd.func31, Tryd.ntmps31
  go_wp2_with fail
  go_loopg [7] xs.length (fun g i wr => ∃ j : Nat, j + g = xs.length ∧ i = .int .i64 (j : Int) ∧ ((xs.drop j).all fun x => AV.formedJ x 6) = C ∧ Below w.heap.size w wr)
  case atStart => exact ⟨0, by omega, rfl, HC.out, Below.refl _ _⟩
  case round =>
    obtain ⟨j, hj, rfl, hrest, hb⟩ := hrel
    have HJ := Lib.hid hj
    have HREST := Lib.hid hrest
    clear hj hrest
    by_cases hlt : j < xs.length
    · obtain ⟨bx, ox, rfl, hit⟩ := (HITS.out).resolve_left (by intro e; rw [e] at hlt; simp at hlt)
      have hr : wr.rangeAt bx (ox + j * 5) xs[j].row := AV.rangeAt_old (fun a ha => hb.cell ha) (hit j hlt).1
      have hxin : AV.In wr xs[j] := (hit j hlt).2.below hb (Nat.le_refl _)
      have hd := HREST.out
      rw [List.drop_eq_getElem_cons hlt, List.all_cons] at hd
      obtain ⟨x, hx⟩ : ∃ x, xs[j] = x := ⟨_, rfl⟩
      rw [hx] at hr hxin hd
      have FORM := Lib.hid (fun W (h : Below wr.heap.size wr W) => Formed_any x W (hxin.below h (Nat.le_refl _)) ((HT.out.later hb).later h))
      obtain ⟨F, hF⟩ : ∃ F, AV.formedJ x 6 = F := ⟨_, rfl⟩
      simp only [hF] at FORM
      rw [hF] at hd
      have HD := Lib.hid hd
      obtain ⟨k1, n1, s1, na1, nc1, ns1, xa1, xc1, xs1⟩ := x
      have HR := Lib.hid hr
      clear hx hd hF hit hr hxin
      simp only [AV.val, AV.row] at FORM
      have hba : Below wr.heap.size wr (wr.alloc (.cells #[.int .i64 k1, .int .i64 n1, .string s1, .slice na1 ns1.length nc1, .slice xa1 xs1.length xc1] 25)) := (Below.refl _ _).alloc (Nat.le_refl _) _
      go_wp2_with ((with_reducible refine wpList_item_out HR.out ?_ ?_); rfl)
      refine (FORM.out _ hba).mono ?_
      rintro e w1 ⟨rfl, hq⟩
      have hb2 := hb.trans ((hba.trans (hq.mono hba.size)).mono hb.size)
      cases F
      · have HCF : Hid (C = false) := Lib.hid (by rw [← HD.out]; rfl)
        go_wp2_with fail
        go_ret
        exact ⟨ret_bool HCF.out.symm, hb2⟩
      · have HCT : Hid (((xs.drop (j + 1)).all fun x => AV.formedJ x 6) = C) := Lib.hid (by rw [← HD.out]; simp)
        go_wp2_with fail
        go_roundg (gk - 1)
        case measure => have := HJ.out; omega
        case rel => exact ⟨j + 1, by have := HJ.out; omega, by go_num, HCT.out, hb2⟩
    · have HCT : Hid (C = true) := Lib.hid (by rw [← HREST.out, List.drop_eq_nil_of_le (by omega)]; rfl)
      go_wp2_with fail
      go_ret
      exact ⟨ret_bool HCT.out.symm, hb⟩
end Go.Proofs.YtcbfbmidekmboaaDoor
