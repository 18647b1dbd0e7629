/- put, for all values, steps and lengths. -/
import Derived.Test.YtijibjdgnaphiaaDoorPputc
namespace Go.Proofs.YtijibjdgnaphiaaDoor
open Go.ChangeShapes Go.WideShapes Go.Deep Go.RowKit Go.Lib

theorem put_any : ∀ (ns : List ByteArray) (t x : AV) (sa : Option Addr) (sc : Nat) (w0 w : World) (lv : Nat), t.In w0 → x.In w0 → Below w0.heap.size w0 w → AV.formedJ t lv = true → AV.NamesIn w sa ns → (∀ p ∈ ns, 0 < p.size ∧ p.size ≤ 60) → ns.length ≤ sc → ErrV w →
    Calls Tryd.prog 48 #[t.val, .slice sa ns.length sc, x.val] w (PutEnd (t.putAt ns x) w0.heap.size w)
  | [], t, x, sa, sc, w0, w, _, _, hx, hb, _, _, _, _, _ => by
    rw [AV.putAt]
    exact put_nil t x sa sc w0 w hx hb
  | p :: r, t, x, sa, sc, w0, w, lv, hin, hx, hb, hf, hns, hsz, hsc, hE => by
    obtain ⟨sb, so, rfl, hit⟩ := hns.resolve_left (by simp)
    have hp := hit 0 (by simp)
    have hp1 := hsz p (by simp)
    simp only [Nat.add_zero, List.getElem_cons_zero] at hp
    simp only [List.length_cons] at hsc ⊢
    cases hpl : t.place p with
    | none => exact put_no t x p r sb so sc w0 w lv hin hx hb hf hp hp1.1 hp1.2 hE hpl
    | some i =>
      have hi := place_lt hf hpl
      obtain ⟨k, n, s, na, nc, nms, xa, xc, xs⟩ := t
      simp only [AV.items] at hi
      have IH : Hid (∀ (W : World) (sa : Option Addr) (l c : Nat), Below w.heap.size w W → l = r.length → l ≤ c → (r = [] ∨ sa = some ⟨sb, so + 1, none⟩) → Calls Tryd.prog 48 #[xs[i].val, .slice sa l c, x.val] W (PutEnd (xs[i].putAt r x) w0.heap.size W)) := by
        refine Lib.hid fun W sa l c hW hl hc hr => ?_
        subst hl
        obtain ⟨b, o, _, hxs⟩ := hin.item (by intro e; rw [e] at hi; simp at hi)
        refine put_any r xs[i] x sa c w0 W (lv - 1) (hxs i hi).2 hx (hb.trans (hW.mono hb.size)) (formed_item hf _ (List.getElem_mem hi)) ?_ (fun q hq => hsz q (List.mem_cons_of_mem _ hq)) hc (hE.later hW)
        rcases hr with rfl | rfl
        · exact .inl rfl
        · refine .inr ⟨sb, so + 1, rfl, fun j hj => ?_⟩
          have h := hit (j + 1) (by simpa using hj)
          rw [show so + (j + 1) = so + 1 + j by omega] at h
          exact cell_later (by simpa using h) hW
      cases hR : xs[i].putAt r x with
      | none => exact put_stuck k n s na nc nms xa xc xs x p r sb so sc w0 w lv hin hx hb hf hp hp1.1 hp1.2 hE hsc i hpl hi hR IH
      | some Z => exact put_sets k n s na nc nms xa xc xs x p r sb so sc w0 w lv hin hx hb hf hp hp1.1 hp1.2 hE hsc i hpl hi Z hR IH
end Go.Proofs.YtijibjdgnaphiaaDoor
