/- The document's Cut; under 2^30 writes. -/
import Derived.Test.YtaaceaojgbicaaaRefr
import Derived.Deep.RegionLaw
namespace Go.Proofs.Ytaaceaojgbicaaa
open Go.ChangeShapes Go.WideShapes Go.Deep Go.RowKit Go.Lib Go.Maps

def selB (ks : List Bool) (lasts i : Nat) : Bool := decide (i < lasts) || keepB ks (i - lasts)
def rsel (ks : List Bool) (lasts : Nat) : Nat → List RW → List RW
  | _, [] => []
  | i, p :: ps => if selB ks lasts i then p :: rsel ks lasts (i + 1) ps else rsel ks lasts (i + 1) ps
theorem rsel_append (ks : List Bool) (lasts : Nat) : ∀ (i : Nat) (ps qs : List RW), rsel ks lasts i (ps ++ qs) = rsel ks lasts i ps ++ rsel ks lasts (i + ps.length) qs
  | i, [], qs => by simp [rsel]
  | i, p :: ps, qs => by
    simp only [List.cons_append, rsel, List.length_cons]
    rw [rsel_append ks lasts (i + 1) ps qs, show i + 1 + ps.length = i + (ps.length + 1) by omega]
    split <;> simp
theorem rsel_take (ks : List Bool) (lasts : Nat) {ps : List RW} {k : Nat} {p : RW} (h : ps[k]? = some p) : rsel ks lasts 0 (ps.take (k + 1)) = rsel ks lasts 0 (ps.take k) ++ (if selB ks lasts k then [p] else []) := by
  have hk := (List.getElem?_eq_some_iff.1 h).1
  rw [List.take_add_one, h, rsel_append, List.length_take, Nat.min_eq_left (by omega), Nat.zero_add]
  rfl
theorem rsel_length (ks : List Bool) (lasts : Nat) : ∀ (i : Nat) (ps : List RW), (rsel ks lasts i ps).length ≤ ps.length
  | _, [] => by simp [rsel]
  | i, p :: ps => by
    have := rsel_length ks lasts (i + 1) ps
    simp only [rsel]
    split <;> simp <;> omega
theorem rsel_late (ks : List Bool) (lasts : Nat) : ∀ (i : Nat) (ps : List RW), lasts ≤ i → (rsel ks lasts i ps).map RW.plain = kept ks (i - lasts) (ps.map RW.plain)
  | _, [], _ => rfl
  | i, p :: ps, h => by
    have ih := rsel_late ks lasts (i + 1) ps (by omega)
    rw [show i + 1 - lasts = i - lasts + 1 by omega] at ih
    simp only [rsel, List.map_cons, kept, selB, decide_eq_false (show ¬ i < lasts by omega), Bool.false_or]
    split <;> simp [ih]
theorem rsel_early (ks : List Bool) (lasts : Nat) : ∀ (i : Nat) (ps : List RW), i + ps.length ≤ lasts → rsel ks lasts i ps = ps
  | _, [], _ => rfl
  | i, p :: ps, h => by
    simp only [List.length_cons] at h
    simp only [rsel, selB, decide_eq_true (show i < lasts by omega), Bool.true_or, if_true, rsel_early ks lasts (i + 1) ps (by omega)]
theorem rsel_plain (ks : List Bool) {lasts : Nat} {ps : List RW} (h : lasts ≤ ps.length) : (rsel ks lasts 0 ps).map RW.plain = (ps.take lasts).map RW.plain ++ kept ks 0 ((ps.drop lasts).map RW.plain) := by
  conv => lhs; rw [← List.take_append_drop lasts ps]
  have hl : (ps.take lasts).length = lasts := by rw [List.length_take]; omega
  rw [rsel_append, List.map_append, hl, Nat.zero_add, rsel_late ks lasts lasts _ (Nat.le_refl _), Nat.sub_self, rsel_early ks lasts 0 _ (by omega)]

theorem ownsRow_base {w : World} {B B' : Nat} {e : TypeId} {size : Nat} {v : Value} {n : Nat} {xs : List Value} (h : w.ownsRow B e size v n xs) (hB : B' ≤ B) : w.ownsRow B' e size v n xs := by
  refine ⟨h.1, ?_⟩
  rcases h.2 with hv | ⟨g, cap, cur, rfl, hb1, rest⟩
  · exact .inl hv
  · exact .inr ⟨g, cap, cur, rfl, Nat.le_trans hB hb1, rest⟩
theorem RefAt.mono {B B' : Nat} {W : World} {rb : Nat} {v : Value} {r : RS} (h : RefAt B W rb v r) (hB : B' ≤ B) : RefAt B' W rb v r :=
  ⟨h.box, Nat.le_trans hB h.base, Nat.le_trans hB h.bw, ownsRow_base h.row hB, h.each, h.size, h.lasts⟩
/-- A disk that lies below B stays while from B on is written. -/
theorem RefAt.old {B : Nat} {W w1 w' : World} {rb : Nat} {v : Value} {r : RS} (h : RefAt B W rb v r) (h1 : Below W.heap.size W w1) (h2 : Below W.heap.size w1 w') : RefAt B w' rb v r := h.below (h1.trans h2)

def RS.cut (r : RS) (ks : List Bool) : RS := { freshR r.size with all := rsel ks r.lasts 0 r.all, lasts := (rsel ks r.lasts 0 r.all).length }
end Go.Proofs.Ytaaceaojgbicaaa
