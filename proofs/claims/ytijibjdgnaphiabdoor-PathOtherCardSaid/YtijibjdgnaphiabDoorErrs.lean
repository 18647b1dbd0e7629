/- The library's errors, as they are laid in the program's world: each is something. No condition of ours. -/
import Derived.Test.YtijibjdgnaphiabDoorTabs
import Derived.Test.YtijibjdgnaphiabDoorPfind
import Derived.ChangeBears2
namespace Go.Proofs.YtijibjdgnaphiabDoor
open Go.ChangeShapes Go.WideShapes Go.ChangeAt Go.RowKit

theorem iface_cells {P : Program} {w : World} {base : Nat} {sp : Nat → Bool} {fuel : Nat} {t : TypeId} {ms : Array (String × TypeId)} {cs : List Value} {nm : String} {d : DataW Unit} {ps : List MemPlace} (ht : P.underlying t = some (.interface ms))
    (h : DataW.trod (fun _ => ()) P w base sp false fuel t cs = some (.iface nm d, ps)) : ∃ u v, cs = [.iface u v] := by
  cases fuel with
  | zero => simp [DataW.trod] at h
  | succ n =>
    unfold DataW.trod at h
    rw [ht] at h
    split at h <;> simp_all

theorem err_cell {W : World} {l : List (String × DataW Unit)} {nm ty : String} {d : DataW Unit} {g : Nat} (h : laidMet Tryd.prog l W) (h1 : (nm, DataW.iface ty d) ∈ l) (hg : Tryd.prog.globalNamed nm = some g) (ht : (Tryd.prog.globals[g]?).map (·.type) = some 68) :
    ∃ ev, W.cell? ⟨g, 0, none⟩ = some ev ∧ (ev = .nilIface ∨ ∃ te pe, ev = .iface te pe) := by
  obtain ⟨g', t', cs, fuel, p, hg', ht', hvar, hd⟩ := Go.Lib.laidMet.reads h h1
  obtain rfl := Option.some.inj (hg.symm.trans hg')
  obtain rfl := Option.some.inj (ht.symm.trans ht')
  obtain ⟨u, v, hcs⟩ := iface_cells Tryd.underlying68 hd
  have h0 := World.var?_cell hg hvar 0
  have e : cs[0]? = some (.iface u v) := by
    rw [← Array.getElem?_toList, hcs]; rfl
  exact ⟨.iface u v, h0.trans e, .inr ⟨u, v, rfl⟩⟩

theorem errv_of {W : World} {l : List (String × DataW Unit)} (h : laidMet Tryd.prog l W) (h1 : ("strconv.ErrSyntax", (Rows.laid_strconv_ErrSyntax : DataW Unit)) ∈ l) (h2 : ("strconv.ErrRange", (Rows.laid_strconv_ErrRange : DataW Unit)) ∈ l) : ErrV W :=
  ⟨err_cell h h1 (by kernel_rfl) (by kernel_rfl), err_cell h h2 (by kernel_rfl) (by kernel_rfl)⟩
end Go.Proofs.YtijibjdgnaphiabDoor
