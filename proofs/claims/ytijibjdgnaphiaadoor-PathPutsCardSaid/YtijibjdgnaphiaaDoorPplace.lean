/- A step's place in a value: plain facts on names that rise, on numbers of at most four digits, and on trees. No condition. -/
import Derived.Test.YtijibjdgnaphiaaDoorFormj
import Derived.Test.YtijibjdgnaphiaaDoorShelfg
import Derived.Sort.Walk0
namespace Go.Proofs.YtijibjdgnaphiaaDoor
open Go.ChangeShapes Go.WideShapes Go.Deep Go.RowKit Go.Lib

theorem ltB_iff (a b : ByteArray) : ltB a b = true ↔ a.data.toList < b.data.toList := by
  unfold ltB
  rw [ByteArray.toList_eq, ByteArray.toList_eq, bytesLess_eq, decide_eq_true_iff]

theorem ltB_trans {a b c : ByteArray} (h1 : ltB a b = true) (h2 : ltB b c = true) : ltB a c = true := by
  rw [ltB_iff] at *
  exact List.lt_trans h1 h2

theorem ltB_irrefl (a : ByteArray) : ltB a a = false := by
  cases h : ltB a a
  · rfl
  · rw [ltB_iff] at h
    exact absurd h (List.lt_irrefl _)

theorem rising_of : ∀ (ns : List ByteArray) (p : Option ByteArray), namesOk p ns = true → (∀ a, p = some a → ∀ y ∈ ns, ltB a y = true) ∧ ns.Pairwise (fun a b => ltB a b = true)
  | [], p, _ => ⟨by simp, List.Pairwise.nil⟩
  | n :: r, p, h => by
    rw [namesOk, Bool.and_eq_true, Bool.and_eq_true] at h
    obtain ⟨_, h2, h3⟩ := h
    obtain ⟨h4, h5⟩ := rising_of r (some n) h3
    have h6 := h4 n rfl
    refine ⟨fun a ha y hy => ?_, List.Pairwise.cons h6 h5⟩
    subst ha
    rcases List.mem_cons.1 hy with rfl | hy
    · exact h2
    · exact ltB_trans h2 (h6 y hy)

/-- How many names stand ahead. -/
def pos (ns : List ByteArray) (p : ByteArray) : Nat := (ns.takeWhile fun y => ltB y p).length

theorem pos_le (ns : List ByteArray) (p : ByteArray) : pos ns p ≤ ns.length := (List.takeWhile_sublist _).length_le

theorem pos_ahead : ∀ (ns : List ByteArray) (p : ByteArray) (t : Nat) (ht : t < ns.length), t < pos ns p → ltB ns[t] p = true
  | [], p, t, ht, _ => by simp at ht
  | n :: r, p, t, ht, h => by
    unfold pos at h
    rw [List.takeWhile_cons] at h
    split at h
    · rename_i hn
      cases t with
      | zero => exact hn
      | succ t => exact pos_ahead r p t (by simpa using ht) (by simpa [pos] using h)
    · simp at h

theorem pos_behind : ∀ (ns : List ByteArray) (p : ByteArray), ns.Pairwise (fun a b => ltB a b = true) → ∀ (t : Nat) (ht : t < ns.length), pos ns p ≤ t → ltB ns[t] p = false
  | [], p, _, t, ht, _ => by simp at ht
  | n :: r, p, hp, t, ht, h => by
    have hr := List.pairwise_cons.1 hp
    unfold pos at h
    rw [List.takeWhile_cons] at h
    split at h
    · cases t with
      | zero => simp at h
      | succ t => exact pos_behind r p hr.2 t (by simpa using ht) (by simpa [pos] using h)
    · rename_i hn
      cases t with
      | zero => simpa using hn
      | succ t =>
        cases hlt : ltB (n :: r)[t + 1] p with
        | false => rfl
        | true => exact absurd (ltB_trans (hr.1 _ (List.getElem_mem (by simpa using ht))) hlt) hn

/-- The number of a name; none: it isn't there. -/
def idxOf (ns : List ByteArray) (p : ByteArray) : Option Nat := if ns[pos ns p]? = some p then some (pos ns p) else none

theorem idx_hit {ns : List ByteArray} {p : ByteArray} (hp : ns.Pairwise (fun a b => ltB a b = true)) {j : Nat} (hj : j < ns.length) (e : ns[j] = p) : idxOf ns p = some j := by
  have hpos : pos ns p = j := by
    rcases Nat.lt_trichotomy (pos ns p) j with h | h | h
    · have h1 := pos_behind ns p hp (pos ns p) (by omega) (Nat.le_refl _)
      have h2 := List.pairwise_iff_getElem.1 hp (pos ns p) j (by omega) hj h
      rw [e, h1] at h2
      cases h2
    · exact h
    · have h1 := pos_ahead ns p j hj h
      rw [e, ltB_irrefl] at h1
      cases h1
  unfold idxOf
  rw [hpos, List.getElem?_eq_getElem hj, e, if_pos rfl]

theorem idx_none {ns : List ByteArray} {p : ByteArray} (h : ∀ j (hj : j < ns.length), ns[j] ≠ p) : idxOf ns p = none := by
  unfold idxOf
  rw [if_neg]
  intro e
  obtain ⟨h1, h2⟩ := List.getElem?_eq_some_iff.1 e
  exact h _ h1 h2

theorem idx_lt {ns : List ByteArray} {p : ByteArray} {j : Nat} (h : idxOf ns p = some j) : j < ns.length := by
  unfold idxOf at h
  split at h
  · rename_i e
    obtain rfl := Option.some.inj h
    exact (List.getElem?_eq_some_iff.1 e).1
  · cases h

/-- The number whose digits a step is. -/
def numL (l : List UInt8) : Option Nat := match Lib.parseUintB 32 l with
  | .ok u => if l.length ≤ 4 ∧ (l = [48] ∨ l.head? ≠ some 48) then some u else none
  | _ => none

theorem parseM_bound (M : Nat) : ∀ (l : List UInt8) (acc u : Nat), Lib.parseUintM M acc l = .ok u → acc ≤ M → u ≤ M
  | [], acc, u, h, ha => by
    simp only [Lib.parseUintM, NumEnd.ok.injEq] at h
    omega
  | c :: r, acc, u, h, ha => by
    rw [Lib.parseUintM] at h
    split at h
    · split at h
      · cases h
      · split at h
        · cases h
        · exact parseM_bound M r _ u h (by omega)
    · cases h

theorem parse_bound {l : List UInt8} {u : Nat} (h : Lib.parseUintB 32 l = .ok u) : u ≤ 4294967295 := by
  unfold Lib.parseUintB at h
  split at h
  · cases h
  · exact parseM_bound _ _ _ _ h (by omega)

/-- A step's place. -/
def AV.place : AV → ByteArray → Option Nat
  | AV.mk k _ _ _ _ ns _ _ xs, p => if k = 6 then idxOf ns p else if k = 5 then (match numL p.data.toList with | some u => if u < xs.length then some u else none | none => none) else none

/-- The value at a place. -/
def AV.at : AV → List ByteArray → Option AV
  | t, [] => some t
  | t, p :: r => match t.place p with
    | some i => match t.items[i]? with
      | some x => AV.at x r
      | none => none
    | none => none

/-- What a formed Object's names are. -/
theorem formed_names {n : Int} {k : Nat} {s : ByteArray} {na : Option Addr} {nc : Nat} {ns : List ByteArray} {xa : Option Addr} {xc : Nat} {xs : List AV} (h : AV.formedJ (.mk 6 n s na nc ns xa xc xs) k = true) :
    ns.Pairwise (fun a b => ltB a b = true) ∧ ns.length = xs.length := by
  rw [AV.formedJ] at h
  split at h
  · cases h
  · simp only [Int.reduceEq, or_self, if_false, if_true, Bool.and_eq_true, decide_eq_true_eq] at h
    exact ⟨(rising_of ns none h.2.2.2.2).2, h.2.2.1⟩

theorem formed_len {k n : Int} {lv : Nat} {s : ByteArray} {na : Option Addr} {nc : Nat} {ns : List ByteArray} {xa : Option Addr} {xc : Nat} {xs : List AV} (h : AV.formedJ (.mk k n s na nc ns xa xc xs) lv = true) : xs.length ≤ 24 := by
  rw [AV.formedJ] at h
  repeat' split at h
  all_goals (try (cases h; done))
  all_goals simp only [Bool.and_eq_true, decide_eq_true_eq] at h
  · rw [h.2.2.2]; simp
  · rw [h.2.2]; simp
  · rw [h.2.2.2]; simp
  · exact h.2.2.2.1
  · exact h.2.2.2.1.1

end Go.Proofs.YtijibjdgnaphiaaDoor
