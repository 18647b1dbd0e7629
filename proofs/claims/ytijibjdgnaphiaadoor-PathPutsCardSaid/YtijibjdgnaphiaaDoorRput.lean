/- The document's put, for all values, steps and lengths. -/
import Derived.Test.YtijibjdgnaphiaaDoorRputn
import Derived.Test.YtijibjdgnaphiaaDoorRputnb
import Derived.Test.YtijibjdgnaphiaaDoorRputnc
import Derived.Test.YtijibjdgnaphiaaDoorRputj
import Derived.Test.YtijibjdgnaphiaaDoorRputk
import Derived.Test.YtijibjdgnaphiaaDoorRputo
import Derived.Test.YtijibjdgnaphiaaDoorRputs
namespace Go.Proofs.YtijibjdgnaphiaaDoor
open Go.ChangeShapes Go.WideShapes Go.Deep Go.RowKit Go.Lib

theorem rput_new (n : Int) (s : ByteArray) (na : Option Addr) (nc : Nat) (ns : List ByteArray) (xa : Option Addr) (xc : Nat) (xs : List AV) (x : AV) (p : ByteArray) (sb so sc : Nat) (w0 w : World) (lv : Nat) (hin0 : (AV.mk 6 n s na nc ns xa xc xs).In w0) (hxin0 : x.In w0) (hb0 : Below w0.heap.size w0 w) (hf : AV.formedJ (.mk 6 n s na nc ns xa xc xs) lv = true)
    (hp : w.cell? ⟨sb, so, none⟩ = some (.string p)) (h2 : p.size ≤ 60) (hpl : (AV.mk 6 n s na nc ns xa xc xs).place p = none) :
    Calls Tryd.prog 49 #[(AV.mk 6 n s na nc ns xa xc xs).val, .slice (some ⟨sb, so, none⟩) 1 sc, x.val] w (PutEnd (some (.mk 6 n s na nc (ns.take (pos ns p) ++ p :: ns.drop (pos ns p)) xa xc (xs.take (pos ns p) ++ x :: xs.drop (pos ns p)))) w0.heap.size w) := by
  by_cases h : pos ns p < ns.length
  · exact rput_newa n s na nc ns xa xc xs x p sb so sc w0 w lv hin0 hxin0 hb0 hf hp h2 hpl h
  · by_cases hne : ns = []
    · exact rput_newc n s na nc ns xa xc xs x p sb so sc w0 w lv hin0 hxin0 hb0 hf hp h2 hpl hne
    · exact rput_newb n s na nc ns xa xc xs x p sb so sc w0 w lv hin0 hxin0 hb0 hf hp h2 hpl ⟨h, hne⟩

theorem put_found {k n : Int} {s : ByteArray} {na : Option Addr} {nc : Nat} {nms : List ByteArray} {xa : Option Addr} {xc : Nat} {xs : List AV} {x : AV} {p : ByteArray} {r : List ByteArray} {i : Nat} (hpl : (AV.mk k n s na nc nms xa xc xs).place p = some i) (hi : i < xs.length) :
    (AV.mk k n s na nc nms xa xc xs).putAt (p :: r) x = match xs[i].putAt r x with | some z => some (.mk k n s na nc nms xa xc (xs.set i z)) | none => none := by
  have hg : xs[i]? = some xs[i] := List.getElem?_eq_getElem hi
  rw [AV.putAt]
  simp only [hpl, hg]
  cases AV.putAt r xs[i] x <;> rfl

theorem put_new {k n : Int} {s : ByteArray} {na : Option Addr} {nc : Nat} {nms : List ByteArray} {xa : Option Addr} {xc : Nat} {xs : List AV} {x : AV} {p : ByteArray} {r : List ByteArray} (hpl : (AV.mk k n s na nc nms xa xc xs).place p = none) :
    (AV.mk k n s na nc nms xa xc xs).putAt (p :: r) x = if k = 6 ∧ r = [] then some (.mk 6 n s na nc (nms.take (pos nms p) ++ p :: nms.drop (pos nms p)) xa xc (xs.take (pos nms p) ++ x :: xs.drop (pos nms p))) else none := by
  rw [AV.putAt]
  simp only [hpl]

theorem rput_any : ∀ (r : List ByteArray) (p : ByteArray) (t x : AV) (sa : Option Addr) (sc : Nat) (w0 w : World) (lv : Nat), t.In w0 → x.In w0 → Below w0.heap.size w0 w → AV.formedJ t lv = true → AV.NamesIn w sa (p :: r) → (∀ q ∈ p :: r, 0 < q.size ∧ q.size ≤ 60) → (p :: r).length ≤ sc →
    Calls Tryd.prog 49 #[t.val, .slice sa (p :: r).length sc, x.val] w (PutEnd (t.putAt (p :: r) x) w0.heap.size w)
  | r, p, t, x, sa, sc, w0, w, lv, hin, hx, hb, hf, hns, hsz, hsc => by
    obtain ⟨sb, so, rfl, hit⟩ := hns.resolve_left (by simp)
    have hp := hit 0 (by simp)
    have hp1 := hsz p (by simp)
    simp only [Nat.add_zero, List.getElem_cons_zero] at hp
    simp only [List.length_cons] at hsc ⊢
    cases hpl : t.place p with
    | none =>
      cases hno : t.putAt (p :: r) x with
      | none => exact rput_no t x p r sb so sc w0 w lv hin hb hf hp hp1.2 hpl hno
      | some z =>
        obtain ⟨k, n, s, na, nc, nms, xa, xc, xs⟩ := t
        have h := put_new (x := x) (r := r) hpl
        rw [hno] at h
        by_cases hk : k = 6 ∧ r = []
        · rw [if_pos hk] at h
          rw [h]
          obtain ⟨rfl, rfl⟩ := hk
          exact rput_new n s na nc nms xa xc xs x p sb so sc w0 w lv hin hx hb hf hp hp1.2 hpl
        · rw [if_neg hk] at h
          cases h
    | some i =>
      have hi := place_lt hf hpl
      obtain ⟨k, n, s, na, nc, nms, xa, xc, xs⟩ := t
      simp only [AV.items] at hi
      rw [put_found hpl hi]
      cases r with
      | nil =>
        rw [AV.putAt]
        exact rput_here k n s na nc nms xa xc xs x p sb so sc w0 w lv hin hx hb hf hp hp1.2 i hpl hi
      | cons p2 r2 =>
        have IH : Hid (∀ (W : World) (sa : Option Addr) (l c : Nat), Below w.heap.size w W → l = (p2 :: r2).length → l ≤ c → sa = some ⟨sb, so + 1, none⟩ → Calls Tryd.prog 49 #[xs[i].val, .slice sa l c, x.val] W (PutEnd (xs[i].putAt (p2 :: r2) x) w0.heap.size W)) := by
          refine Lib.hid fun W sa l c hW hl hc hr => ?_
          subst hl hr
          obtain ⟨b, o, _, hxs⟩ := hin.item (by intro e; rw [e] at hi; simp at hi)
          refine rput_any r2 p2 xs[i] x _ c w0 W (lv - 1) (hxs i hi).2 hx (hb.trans (hW.mono hb.size)) (formed_item hf _ (List.getElem_mem hi)) ?_ (fun q hq => hsz q (List.mem_cons_of_mem _ hq)) hc
          refine .inr ⟨sb, so + 1, rfl, fun j hj => ?_⟩
          have h := hit (j + 1) (by simpa using hj)
          rw [show so + (j + 1) = so + 1 + j by omega] at h
          exact cell_later (by simpa using h) hW
        cases hR : xs[i].putAt (p2 :: r2) x with
        | none =>
          rw [hR] at IH
          exact rput_stuck k n s na nc nms xa xc xs x p (p2 :: r2) sb so sc w0 w lv hin hb hf hp hp1.2 i hpl hi (by simp) hsc IH
        | some Z =>
          rw [hR] at IH
          exact rput_below k n s na nc nms xa xc xs x p (p2 :: r2) sb so sc w0 w lv hin hb hf hp hp1.2 i hpl hi (by simp) hsc Z IH
  termination_by r => r.length

theorem rPut : RPut := fun p r t x sa sc w0 w lv h1 h2 h3 h4 h5 h6 h7 => rput_any r p t x sa sc w0 w lv h1 h2 h3 h4 h5 h6 h7
end Go.Proofs.YtijibjdgnaphiaaDoor
