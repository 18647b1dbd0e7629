/- Plain facts of putting: at the first step of another path all stays as it was. -/
import Derived.Test.YtijibjdgnaphiabDoorPback
namespace Go.Proofs.YtijibjdgnaphiabDoor
open Go.ChangeShapes Go.WideShapes Go.Deep Go.RowKit Go.Lib

theorem oeqv_refl (o : Option AV) : OEqv o o := by
  cases o with
  | none => trivial
  | some x => exact AV.eqv_refl x

theorem idx_some {ns : List ByteArray} {p : ByteArray} {i : Nat} (h : idxOf ns p = some i) : ns[i]? = some p := by
  unfold idxOf at h
  split at h
  · rename_i he
    cases h
    exact he
  · cases h

/-- What is put at one name leaves every other name's item as it was. -/
theorem put_other {t x Z : AV} {lv lv' : Nat} {p q : ByteArray} {r r' : List ByteArray} (hk : t.knd = 6) (hf : AV.formedJ t lv = true) (hz : AV.putAt (p :: r) t x = some Z) (hZ : AV.formedJ Z lv' = true) (hpq : q ≠ p) : OEqv (t.at (q :: r')) (Z.at (q :: r')) := by
  obtain ⟨k, n, s, na, nc, ns, xa, xc, xs⟩ := t
  obtain rfl : k = 6 := hk
  have hrise := (formed_names hf).1
  have hln := (formed_names hf).2
  rw [AV.putAt] at hz
  rw [AV.at, AV.at]
  cases hp : (AV.mk 6 n s na nc ns xa xc xs).place p with
  | some i =>
    rw [hp] at hz
    dsimp only at hz
    cases hu : xs[i]? with
    | none => rw [hu] at hz; cases hz
    | some u =>
      rw [hu] at hz
      dsimp only at hz
      cases hzz : AV.putAt r u x with
      | none => rw [hzz] at hz; cases hz
      | some z =>
        rw [hzz] at hz
        cases hz
        rw [place_set]
        cases hq : (AV.mk 6 n s na nc ns xa xc xs).place q with
        | none => trivial
        | some j =>
          dsimp only
          simp only [AV.items]
          have hne : i ≠ j := fun e => by
            subst e
            rw [AV.place, if_pos rfl] at hp hq
            have h1 := idx_some hp
            rw [idx_some hq] at h1
            exact hpq (Option.some.inj h1)
          rw [List.getElem?_set_ne hne]
          exact oeqv_refl _
  | none =>
    rw [hp] at hz
    dsimp only at hz
    split at hz
    rotate_left
    · cases hz
    · cases hz
      have hrise' := (formed_names hZ).1
      have hle := pos_le ns p
      obtain ⟨P, hP⟩ : ∃ P, pos ns p = P := ⟨_, rfl⟩
      rw [hP] at hrise' hle hZ ⊢
      have hln' := (formed_names hZ).2
      have pl : ∀ (ns : List ByteArray) (xs : List AV) (a b : Option Addr) (c d : Nat), (AV.mk 6 n s a c ns b d xs).place q = idxOf ns q := fun ns xs a b c d => by rw [AV.place, if_pos rfl]
      have hZplace : ∀ (a b : Option Addr) (c d : Nat) (m : Int) (str : ByteArray), (AV.mk 6 m str a c (ns.take P ++ p :: ns.drop P) b d (xs.take P ++ x :: xs.drop P)).place q = idxOf (ns.take P ++ p :: ns.drop P) q := fun a b c d m str => by rw [AV.place, if_pos rfl]
      rw [hZplace, pl]
      simp only [AV.items]
      by_cases hmem : ∃ j, ∃ h : j < ns.length, ns[j] = q
      · obtain ⟨j, hj, hjq⟩ := hmem
        rw [idx_hit hrise hj hjq]
        by_cases hjP : j < P
        · have hj1 : j < (ns.take P ++ p :: ns.drop P).length := by simp; omega
          have he : (ns.take P ++ p :: ns.drop P)[j] = q := by
            rw [List.getElem_append_left (by simp; omega), List.getElem_take]
            exact hjq
          rw [idx_hit hrise' hj1 he]
          dsimp only
          rw [List.getElem?_append_left (by simp; omega), List.getElem?_take, if_pos hjP]
          exact oeqv_refl _
        · have hj1 : j + 1 < (ns.take P ++ p :: ns.drop P).length := by simp; omega
          have he : (ns.take P ++ p :: ns.drop P)[j + 1] = q := by
            rw [List.getElem_append_right (by simp; omega)]
            simp only [List.length_take, Nat.min_eq_left hle]
            have e : j + 1 - P = (j - P) + 1 := by omega
            simp only [e, List.getElem_cons_succ, List.getElem_drop]
            rw [← hjq]
            congr 1
            omega
          rw [idx_hit hrise' hj1 he]
          dsimp only
          rw [List.getElem?_append_right (by simp; omega), List.length_take, Nat.min_eq_left (by omega), show j + 1 - P = (j - P) + 1 by omega, List.getElem?_cons_succ, List.getElem?_drop, show P + (j - P) = j by omega]
          exact oeqv_refl _
      · have h1 : idxOf ns q = none := idx_none fun j hj e => hmem ⟨j, hj, e⟩
        have h2 : idxOf (ns.take P ++ p :: ns.drop P) q = none := idx_none fun j hj e => by
          have hm : q ∈ ns.take P ++ p :: ns.drop P := by rw [← e]; exact List.getElem_mem hj
          rcases List.mem_append.1 hm with h | h
          · obtain ⟨i, hi, he⟩ := List.mem_iff_getElem.1 (List.mem_of_mem_take h)
            exact hmem ⟨i, hi, he⟩
          · rcases List.mem_cons.1 h with h | h
            · exact hpq h
            · obtain ⟨i, hi, he⟩ := List.mem_iff_getElem.1 (List.mem_of_mem_drop h)
              exact hmem ⟨i, hi, he⟩
        rw [h1, h2]
        trivial
end Go.Proofs.YtijibjdgnaphiabDoor
