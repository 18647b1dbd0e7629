/- What is formed does not hang on addresses; what Put answers, as a plain function. -/
/- Plain facts of putting and getting: what is put is got; what was there, put back, gives the value again. -/
import Derived.Test.YtijibjdgnaphiaaDoorLawgets
import Derived.Test.YtijibjdgnaphiaaDoorPputa
namespace Go.Proofs.YtijibjdgnaphiaaDoor
open Go.ChangeShapes Go.WideShapes Go.Deep Go.RowKit Go.Lib

theorem allJ_eqv (m : Nat) : ∀ {xs ys : List AV}, (∀ x ∈ xs, ∀ y, AV.eqv x y = true → AV.formedJ x m = AV.formedJ y m) → xs.length = ys.length → AV.eqvAll xs ys = true → AV.allJ xs m = AV.allJ ys m
  | [], [], _, _, _ => rfl
  | [], _ :: _, _, h, _ => by simp at h
  | _ :: _, [], _, h, _ => by simp at h
  | x :: xs, y :: ys, ih, hl, h => by
    rw [AV.eqvAll, Bool.and_eq_true] at h
    rw [AV.allJ, AV.allJ, ih x (by simp) y h.1, allJ_eqv m (fun z hz => ih z (List.mem_cons_of_mem _ hz)) (by simpa using hl) h.2]

theorem formed_eqv : ∀ (x y : AV) (lv : Nat), AV.eqv x y = true → AV.formedJ x lv = AV.formedJ y lv := by
  intro x
  induction x using AV.ind with
  | h k n s na nc ns xa xc xs ih =>
    intro y lv h
    obtain ⟨k1, n1, s1, na1, nc1, ns1, xa1, xc1, ys⟩ := y
    rw [eqv_iff] at h
    obtain ⟨⟨rfl, rfl, rfl, rfl, hl⟩, ha⟩ := h
    have hall : ∀ m, AV.allJ xs m = AV.allJ ys m := fun m => allJ_eqv m (fun x hx y he => ih x hx y m he) hl ha
    have hnil : xs = [] ↔ ys = [] := by rw [← List.length_eq_zero_iff, ← List.length_eq_zero_iff, hl]
    rw [AV.formedJ, AV.formedJ]
    simp only [hl, hall, hnil]

theorem eqv_trans : ∀ {x y z : AV}, AV.eqv x y = true → AV.eqv y z = true → AV.eqv x z = true := by
  intro x
  induction x using AV.ind with
  | h k n s na nc ns xa xc xs ih =>
    intro y z hx hy
    obtain ⟨k1, n1, s1, na1, nc1, ns1, xa1, xc1, ys⟩ := y
    obtain ⟨k2, n2, s2, na2, nc2, ns2, xa2, xc2, zs⟩ := z
    rw [eqv_iff] at hx hy ⊢
    obtain ⟨⟨a1, a2, a3, a4, a5⟩, a6⟩ := hx
    obtain ⟨⟨b1, b2, b3, b4, b5⟩, b6⟩ := hy
    refine ⟨⟨a1.trans b1, a2.trans b2, a3.trans b3, a4.trans b4, a5.trans b5⟩, eqvAll_of (a5.trans b5) fun i h1 h2 => ?_⟩
    exact ih xs[i] (List.getElem_mem h1) (eqvAll_get a5 a6 i h1 (by omega)) (eqvAll_get b5 b6 i (by omega) h2)

def AV.knd : AV → Int
  | AV.mk k _ _ _ _ _ _ _ _ => k

/-- What Put answers: a value, or an error's number. -/
def putSpec (t : AV) (l : List UInt8) (x : AV) : Except Int AV :=
  if stepErr l = 0 ∧ t.knd = 6 ∧ AV.formedJ t 6 = true ∧ AV.formedJ x 6 = true then
    match AV.putAt (stepNames l) t x with
    | none => .error 4
    | some z => if AV.formedJ z 6 = true then .ok z else .error 3
  else .error 2

/-- What a call of Put leaves. -/
def PutsEnd (r : Except Int AV) (w : World) (e : Ending) (w' : World) : Prop :=
  Below w.heap.size w w' ∧ match r with
    | .ok z => ∃ z' : AV, e = .returned (.tuple #[z'.val, .int .i64 0]) ∧ z'.In w' ∧ AV.eqv z' z = true
    | .error c => e = .returned (.tuple #[AV.zero.val, .int .i64 c])
end Go.Proofs.YtijibjdgnaphiaaDoor

namespace Go.Proofs.YtijibjdgnaphiaaDoor
open Go.ChangeShapes Go.WideShapes Go.Deep Go.RowKit Go.Lib

theorem eqv_symm : ∀ {x y : AV}, AV.eqv x y = true → AV.eqv y x = true := fun {x y} h => eqv_join y x y (AV.eqv_refl y) h

/-- Both there or both not, and alike. -/
def OEqv : Option AV → Option AV → Prop
  | some x, some y => AV.eqv x y = true
  | none, none => True
  | _, _ => False

theorem place_eqv {a b : AV} (h : AV.eqv a b = true) (p : ByteArray) : a.place p = b.place p := by
  obtain ⟨k, n, s, na, nc, ns, xa, xc, xs⟩ := a
  obtain ⟨k1, n1, s1, na1, nc1, ns1, xa1, xc1, ys⟩ := b
  rw [eqv_iff] at h
  obtain ⟨⟨rfl, rfl, rfl, rfl, hl⟩, ha⟩ := h
  rw [AV.place, AV.place, hl]

theorem items_eqv {a b : AV} (h : AV.eqv a b = true) (i : Nat) : OEqv a.items[i]? b.items[i]? := by
  obtain ⟨k, n, s, na, nc, ns, xa, xc, xs⟩ := a
  obtain ⟨k1, n1, s1, na1, nc1, ns1, xa1, xc1, ys⟩ := b
  rw [eqv_iff] at h
  obtain ⟨⟨rfl, rfl, rfl, rfl, hl⟩, ha⟩ := h
  simp only [AV.items]
  by_cases hi : i < xs.length
  · rw [List.getElem?_eq_getElem hi, List.getElem?_eq_getElem (by omega)]
    exact eqvAll_get hl ha i hi (by omega)
  · rw [List.getElem?_eq_none (by omega), List.getElem?_eq_none (by omega)]
    trivial

theorem at_eqv : ∀ (ns : List ByteArray) {a b : AV}, AV.eqv a b = true → OEqv (a.at ns) (b.at ns)
  | [], a, b, h => by rw [AV.at, AV.at]; exact h
  | p :: r, a, b, h => by
    rw [AV.at, AV.at, place_eqv h p]
    cases b.place p with
    | none => trivial
    | some i =>
      have hi := items_eqv h i
      dsimp only
      cases ha : a.items[i]? <;> cases hb : b.items[i]? <;> rw [ha, hb] at hi
      · trivial
      · exact hi.elim
      · exact hi.elim
      · exact at_eqv r hi

theorem put_eqv : ∀ (ns : List ByteArray) {a b x y : AV}, AV.eqv a b = true → AV.eqv x y = true → OEqv (AV.putAt ns a x) (AV.putAt ns b y)
  | [], a, b, x, y, _, hx => by rw [AV.putAt, AV.putAt]; exact hx
  | p :: r, a, b, x, y, h, hx => by
    have hp := place_eqv h p
    have hit := items_eqv h
    obtain ⟨k, n, s, na, nc, ns, xa, xc, xs⟩ := a
    obtain ⟨k1, n1, s1, na1, nc1, ns1, xa1, xc1, ys⟩ := b
    rw [eqv_iff] at h
    obtain ⟨⟨rfl, rfl, rfl, rfl, hl⟩, ha⟩ := h
    rw [AV.putAt, AV.putAt, hp]
    cases (AV.mk k n s na1 nc1 ns xa1 xc1 ys).place p with
    | none =>
      dsimp only
      by_cases h6 : k = 6 ∧ r = []
      · rw [if_pos h6, if_pos h6]
        show AV.eqv _ _ = true
        rw [eqv_iff]
        have hle : pos ns p ≤ ns.length := pos_le ns p
        refine ⟨⟨rfl, rfl, rfl, rfl, by simp [hl]⟩, eqvAll_of (by simp [hl]) fun j h1 h2 => ?_⟩
        have key : ∀ (j : Nat) (u v : AV), (xs.take (pos ns p) ++ x :: xs.drop (pos ns p))[j]? = some u → (ys.take (pos ns p) ++ y :: ys.drop (pos ns p))[j]? = some v → AV.eqv u v = true := by
          intro j u v hu hv
          have hlt : (xs.take (pos ns p)).length = (ys.take (pos ns p)).length := by simp [hl]
          by_cases h3 : j < (xs.take (pos ns p)).length
          · rw [List.getElem?_append_left h3, List.getElem?_take] at hu
            rw [List.getElem?_append_left (by omega), List.getElem?_take] at hv
            have h4 := hit j
            simp only [AV.items] at h4
            split at hu
            · rename_i h5
              rw [if_pos h5] at hv
              rw [hu, hv] at h4
              exact h4
            · cases hu
          · rw [List.getElem?_append_right (by omega)] at hu
            rw [List.getElem?_append_right (by omega), ← hlt] at hv
            obtain ⟨d, hd⟩ : ∃ d, j - (xs.take (pos ns p)).length = d := ⟨_, rfl⟩
            rw [hd] at hu hv
            cases d with
            | zero =>
              simp only [List.getElem?_cons_zero, Option.some.injEq] at hu hv
              rw [← hu, ← hv]; exact hx
            | succ d =>
              simp only [List.getElem?_cons_succ, List.getElem?_drop] at hu hv
              have h4 := hit (pos ns p + d)
              simp only [AV.items] at h4
              rw [hu, hv] at h4
              exact h4
        exact key j _ _ (List.getElem?_eq_getElem h1) (List.getElem?_eq_getElem h2)
      · rw [if_neg h6, if_neg h6]; trivial
    | some i =>
      dsimp only
      have hi := hit i
      simp only [AV.items] at hi
      cases hu : xs[i]? <;> cases hv : ys[i]? <;> rw [hu, hv] at hi
      · trivial
      · exact hi.elim
      · exact hi.elim
      · rename_i u v
        have hr := put_eqv r (x := x) (y := y) (show AV.eqv u v = true from hi) hx
        dsimp only
        cases hz : AV.putAt r u x <;> cases hz' : AV.putAt r v y <;> rw [hz, hz'] at hr
        · trivial
        · exact hr.elim
        · exact hr.elim
        · rename_i z z'
          show AV.eqv _ _ = true
          rw [eqv_iff]
          refine ⟨⟨rfl, rfl, rfl, rfl, by simp [hl]⟩, eqvAll_of (by simp [hl]) fun j h1 h2 => ?_⟩
          rw [List.length_set] at h1
          by_cases e : j = i
          · subst e; rw [List.getElem_set_self, List.getElem_set_self]; exact hr
          · rw [List.getElem_set_ne (by omega), List.getElem_set_ne (by omega)]
            exact eqvAll_get hl ha j h1 (by omega)

/-- The place of an item stays where the item is replaced. -/
theorem place_set {k n : Int} {s : ByteArray} {na : Option Addr} {nc : Nat} {ns : List ByteArray} {xa : Option Addr} {xc : Nat} {xs : List AV} (i : Nat) (z : AV) (p : ByteArray) : (AV.mk k n s na nc ns xa xc (xs.set i z)).place p = (AV.mk k n s na nc ns xa xc xs).place p := by
  rw [AV.place, AV.place, List.length_set]

theorem pos_ins (ns : List ByteArray) (p : ByteArray) : idxOf (ns.take (pos ns p) ++ p :: ns.drop (pos ns p)) p = some (pos ns p) := by
  have hle := pos_le ns p
  have hpos : pos (ns.take (pos ns p) ++ p :: ns.drop (pos ns p)) p = pos ns p := by
    have h1 : ∀ y ∈ ns.take (pos ns p), ltB y p = true := fun y hy => by
      obtain ⟨j, hj, rfl⟩ := List.mem_iff_getElem.1 hy
      rw [List.length_take] at hj
      rw [List.getElem_take]
      exact pos_ahead ns p j (by omega) (by omega)
    obtain ⟨q, hq⟩ : ∃ q, pos ns p = q := ⟨_, rfl⟩
    rw [hq] at h1 hle ⊢
    unfold pos
    rw [List.takeWhile_append_of_pos h1, List.takeWhile_cons_of_neg (by rw [ltB_irrefl]; simp), List.append_nil, List.length_take]
    omega
  unfold idxOf
  rw [hpos, if_pos]
  rw [List.getElem?_append_right (by simp; omega)]
  simp [Nat.min_eq_left hle]

/-- What is put is got. -/
theorem put_got : ∀ (ns : List ByteArray) {t x Z : AV} {lv : Nat}, AV.formedJ t lv = true → AV.putAt ns t x = some Z → Z.at ns = some x
  | [], t, x, Z, _, _, h => by
    rw [AV.putAt] at h
    cases h
    rw [AV.at]
  | p :: r, t, x, Z, lv, hf, h => by
    obtain ⟨k, n, s, na, nc, ns, xa, xc, xs⟩ := t
    rw [AV.putAt] at h
    cases hp : (AV.mk k n s na nc ns xa xc xs).place p with
    | none =>
      rw [hp] at h
      dsimp only at h
      split at h
      · rename_i h6
        cases h
        obtain ⟨rfl, rfl⟩ := h6
        have hle := pos_le ns p
        have hln := (formed_names hf).2
        have hpl : (AV.mk 6 n s na nc (ns.take (pos ns p) ++ p :: ns.drop (pos ns p)) xa xc (xs.take (pos ns p) ++ x :: xs.drop (pos ns p))).place p = some (pos ns p) := by
          rw [AV.place, if_pos rfl, pos_ins]
        rw [AV.at, hpl]
        simp only [AV.items]
        rw [List.getElem?_append_right (by simp; omega)]
        have h0 : pos ns p - (xs.take (pos ns p)).length = 0 := by simp; omega
        rw [h0]
        simp only [List.getElem?_cons_zero]
        rw [AV.at]
      · cases h
    | some i =>
      rw [hp] at h
      dsimp only at h
      cases hu : xs[i]? with
      | none => rw [hu] at h; cases h
      | some u =>
        rw [hu] at h
        dsimp only at h
        obtain ⟨hi, hui⟩ := List.getElem?_eq_some_iff.1 hu
        cases hz : AV.putAt r u x with
        | none => rw [hz] at h; cases h
        | some z =>
          rw [hz] at h
          cases h
          rw [AV.at, place_set, hp]
          simp only [AV.items]
          rw [List.getElem?_set_self hi]
          exact put_got r (formed_item hf u (by rw [← hui]; exact List.getElem_mem hi)) hz

/-- What was there, put back, gives the value again. -/
theorem put_back : ∀ (ns : List ByteArray) {t x Z O : AV}, AV.putAt ns t x = some Z → t.at ns = some O → ∃ T, AV.putAt ns Z O = some T ∧ AV.eqv T t = true
  | [], t, x, Z, O, _, hO => by
    rw [AV.at] at hO
    cases hO
    rw [AV.putAt]
    exact ⟨_, rfl, AV.eqv_refl _⟩
  | p :: r, t, x, Z, O, h, hO => by
    obtain ⟨k, n, s, na, nc, ns, xa, xc, xs⟩ := t
    rw [AV.putAt] at h
    rw [AV.at] at hO
    cases hp : (AV.mk k n s na nc ns xa xc xs).place p with
    | none => rw [hp] at hO; cases hO
    | some i =>
      rw [hp] at h hO
      dsimp only at h hO
      simp only [AV.items] at hO
      cases hu : xs[i]? with
      | none => rw [hu] at h; cases h
      | some u =>
        rw [hu] at h hO
        dsimp only at h hO
        obtain ⟨hi, hui⟩ := List.getElem?_eq_some_iff.1 hu
        cases hz : AV.putAt r u x with
        | none => rw [hz] at h; cases h
        | some z =>
          rw [hz] at h
          cases h
          obtain ⟨T, hT, hTe⟩ := put_back r hz hO
          rw [AV.putAt, place_set, hp]
          dsimp only
          rw [List.getElem?_set_self hi]
          dsimp only
          rw [hT]
          refine ⟨_, rfl, ?_⟩
          rw [eqv_iff]
          refine ⟨⟨rfl, rfl, rfl, rfl, by simp⟩, eqvAll_of (by simp) fun j h1 h2 => ?_⟩
          by_cases e : j = i
          · subst e; rw [List.getElem_set_self, hui]; exact hTe
          · rw [List.getElem_set_ne (by omega), List.getElem_set_ne (by omega)]; exact AV.eqv_refl _

theorem formed_up : ∀ (t : AV) (lv : Nat), AV.formedJ t lv = true → AV.formedJ t (lv + 1) = true := by
  intro t
  induction t using AV.ind with
  | h k n s na nc ns xa xc xs ih =>
    intro lv h
    have all : ∀ (l : List AV) (m : Nat), (∀ x ∈ l, ∀ m, AV.formedJ x m = true → AV.formedJ x (m + 1) = true) → AV.allJ l m = true → AV.allJ l (m + 1) = true := by
      intro l m
      induction l with
      | nil => intro _ _; rfl
      | cons a l il =>
        intro hl h
        rw [AV.allJ, Bool.and_eq_true] at h ⊢
        exact ⟨hl a (by simp) m h.1, il (fun x hx => hl x (List.mem_cons_of_mem _ hx)) h.2⟩
    rw [AV.formedJ] at h ⊢
    split at h
    · cases h
    · rename_i h0
      have h1 : AV.allJ xs (lv - 1) = true → AV.allJ xs (lv + 1 - 1) = true := fun h => by
        have := all xs (lv - 1) ih h
        rwa [show lv - 1 + 1 = lv + 1 - 1 by omega] at this
      rw [if_neg (by omega)]
      repeat' split at h
      all_goals (try (cases h; done))
      all_goals simp only [Bool.and_eq_true, decide_eq_true_eq] at h
      all_goals rename_i hk
      all_goals simp_all

theorem formed_le {t : AV} {a b : Nat} (h : AV.formedJ t a = true) (hab : a ≤ b) : AV.formedJ t b = true := by
  obtain ⟨d, rfl⟩ : ∃ d, b = a + d := ⟨b - a, by omega⟩
  clear hab
  induction d with
  | zero => exact h
  | succ d ih => exact formed_up t _ ih

/-- What stands in a formed value is formed. -/
theorem at_formed : ∀ (ns : List ByteArray) {t O : AV} {lv : Nat}, AV.formedJ t lv = true → t.at ns = some O → AV.formedJ O lv = true
  | [], t, O, lv, hf, h => by
    rw [AV.at] at h
    cases h
    exact hf
  | p :: r, t, O, lv, hf, h => by
    obtain ⟨k, n, s, na, nc, ns, xa, xc, xs⟩ := t
    rw [AV.at] at h
    cases hp : (AV.mk k n s na nc ns xa xc xs).place p with
    | none => rw [hp] at h; cases h
    | some i =>
      rw [hp] at h
      simp only [AV.items] at h
      cases hu : xs[i]? with
      | none => rw [hu] at h; cases h
      | some u =>
        rw [hu] at h
        obtain ⟨hi, hui⟩ := List.getElem?_eq_some_iff.1 hu
        exact at_formed r (formed_le (formed_item hf u (by rw [← hui]; exact List.getElem_mem hi)) (Nat.sub_le _ _)) h
end Go.Proofs.YtijibjdgnaphiaaDoor
