/- A disk in the midst of a sync, and behind one; plain; no condition. -/
import Derived.Test.YtaaceaojgbicaaaRead
namespace Go.Proofs.Ytaaceaojgbicaaa
open Go.ChangeShapes Go.WideShapes Go.Deep Go.RowKit Go.Lib Go.Maps

theorem rangeAt_only {w w' : World} {S : Nat → Prop} {b o : Nat} {cs : List Value} (h : w.rangeAt b o cs) (hO : Only S w w') (hn : ¬ S b) : w'.rangeAt b o cs := fun j v hv => by
  have h1 := h j v hv
  rw [World.cell?_of_block (w := w) (a := ⟨b, o + j, none⟩) (hO.block b (World.block_lt_of_cell? w _ h1) hn)]
  exact h1

/-- The first writes are laid over the map of what lasts. -/
def MidAt (W : World) (b : Nat) (f : Int → List UInt8) (n : Nat) : Prop := ∃ m D, W.ownsMap Try.prog 3 secElem b m D ∧ m ≤ n ∧ LastIs D f

theorem MidAt.only {W W' : World} {S : Nat → Prop} {b n : Nat} {f : Int → List UInt8} (h : MidAt W b f n) (hO : Only S W W') (hn : ¬ S b) : MidAt W' b f n := by
  obtain ⟨m, D, h1, h2⟩ := h
  exact ⟨m, D, ownsMap_only h1 hO hn, h2⟩

theorem lastIs_put {D : DataW Unit} {f : Int → List UInt8} (h : LastIs D f) (hD : IsMap D) (n : Int) (b : List UInt8) : LastIs (D.put (kInt n) (.lit (.string b))) (upd f n b) := by
  intro m hm
  by_cases e : m = n
  · subst e
    rw [atKey_put_same hD (isKey _), upd_same]
  · rw [atKey_put_other (kInt_ne e), upd_other _ e]
    exact h m hm

theorem over_take {f : Int → List UInt8} {ps : List Wr} {k : Nat} {p : Wr} (h : ps[k]? = some p) : over f (ps.take (k + 1)) = upd (over f (ps.take k)) p.1 p.2 := by
  rw [List.take_add_one, h]
  exact over_snoc _ _ _

/-- What a sync that is done leaves. -/
def DS.didSync (t : DS) : DS := { t with last := t.now, pend := [], s := wrap64 (t.s + 1) }

theorem sync_disk {w w2 : World} {a : DA} {t : DS} (h : DiskAt w a t) (hO : Only (fun k => k = a.lb) w w2) (hM : MidAt w2 a.lb (over t.last t.pend) t.k) :
    DiskAt (((w2.alloc (.map #[] 0)).setCell ⟨a.db, 2, none⟩ (.slice none 0 0)).setCell ⟨a.db, 3, none⟩ (.map (some w2.heap.size))) { a with nb := w2.heap.size, pv := .slice none 0 0 } { t with last := t.now, pend := [] } ∧
    Only a.foot w (((w2.alloc (.map #[] 0)).setCell ⟨a.db, 2, none⟩ (.slice none 0 0)).setCell ⟨a.db, 3, none⟩ (.map (some w2.heap.size))) ∧
    (∀ k, DA.foot { a with nb := w2.heap.size, pv := .slice none 0 0 } k → a.foot k ∨ w.heap.size ≤ k) := by
  have hO2 : Only (fun k => k = a.db ∨ k = a.lb) w (w2.alloc (.map #[] 0)) := (hO.mono (T := fun k => k = a.db ∨ k = a.lb) (fun _ e => .inr e)).alloc _
  have hO4 : Only (fun k => k = a.db ∨ k = a.lb) w (((w2.alloc (.map #[] 0)).setCell ⟨a.db, 2, none⟩ (.slice none 0 0)).setCell ⟨a.db, 3, none⟩ (.map (some w2.heap.size))) :=
    (hO2.setCell (p := ⟨a.db, 2, none⟩) (.inl (.inl rfl)) _).setCell (p := ⟨a.db, 3, none⟩) (.inl (.inl rfl)) _
  have hP : Only (fun k => k = a.db) (w2.alloc (.map #[] 0)) (((w2.alloc (.map #[] 0)).setCell ⟨a.db, 2, none⟩ (.slice none 0 0)).setCell ⟨a.db, 3, none⟩ (.map (some w2.heap.size))) :=
    Only.setCell (S := fun k => k = a.db) (p := ⟨a.db, 3, none⟩) (Only.setCell (S := fun k => k = a.db) (p := ⟨a.db, 2, none⟩) (Only.refl _ _) (.inl rfl) _) (.inl rfl) _
  have hlt : a.lb < w.heap.size := h.lt _ (.inr (.inl rfl))
  have hdt : a.db < w.heap.size := h.lt _ (.inl rfl)
  have hsz := hO.size
  refine ⟨⟨?_, ?_, h.size, by simp, by simp, fun n => over_length h.lastlen h.lens n, ?_, World.ownsRow_nil _ _ _ _, ?_⟩, hO4.mono (fun k e => e.elim .inl (fun e => .inr (.inl e))), ?_⟩
  · have hb : (w2.alloc (.map #[] 0)).heap[a.db]? = some (.cells (boxOf a t) 66 (0, 0)) := by
      rw [Below.heap_alloc _ _ _ (by omega)]
      exact hO.heap h.box h.db_lb
    exact DiskAt.box_poke _ (DiskAt.box_poke _ hb)
  · show a.lb ≠ w2.heap.size
    omega
  · obtain ⟨m, D, h1, h2, h3⟩ := hM
    exact ⟨m, D, ownsMap_only (h1.alloc _) hP (fun e => h.db_lb e.symm), by simpa using h2, h3⟩
  · refine ⟨_, ownsMap_only (World.ownsMap_made w2 Try.prog 3 (plainElem (H := Unit) Try.prog 3)) hP (fun e => ?_), fun n _ => .inl ⟨rfl, rfl⟩⟩
    have : w2.heap.size = a.db := e
    omega
  · intro k hk
    rcases hk with rfl | rfl | rfl | hk
    · exact .inl (.inl rfl)
    · exact .inl (.inr (.inl rfl))
    · exact .inr hsz
    · simp [Value.ownBlock] at hk

/-- A load in a region that only reads ahead of its tail. -/
theorem step_still_load {P : Program} {ops : Array Oper} {o : Oper} {a : Act} {w : World} {K : Act → Prop} (hgd : o.guard = none) (ty : TypeId) (x : Operand) (ho : o.op = .load ty x)
    (b i : Nat) (hx : a.eval x = .pointer (some ⟨b, i, none⟩)) (cs : List Value) (d : TypeDesc) (hc : w.rangeAt b i cs) (hu : P.underlying ty = some d) (hd : d.isRow = true) (hi : (P.info? ty).map (·.size) = some cs.length)
    (hK : K (a.put o.dst (.agg cs.toArray))) : if Region.wanted o (yielded ops a.tmps) = true then o.still P a w K else K (a.put o.dst undef) := by
  have hw : Region.wanted o (yielded ops a.tmps) = true := by simp [Region.wanted, hgd]
  rw [if_pos hw]
  unfold Oper.still execOp
  simp only [ho, hx, Sem.run_bind, run_loadAt_mid w b i ty cs d hc hu hd hi, Result.andThen_ok, Sem.run_pure, Oper.stillUpon_value]
  exact hK
end Go.Proofs.Ytaaceaojgbicaaa
