/- A disk behind a write that was done: its maps and rows read as they should; no condition. -/
import Derived.Test.YtaaceaojgbicaaaWbits
namespace Go.Proofs.Ytaaceaojgbicaaa
open Go.ChangeShapes Go.WideShapes Go.Deep Go.RowKit Go.Lib Go.Maps

theorem isKey (n : Int) : WideAt.IsKeyLit (kInt n) := by
  unfold kInt
  trivial
theorem kInt_ne {m n : Int} (h : m ≠ n) : kInt m ≠ kInt n := fun e => h (by simpa [kInt] using e)

theorem len_wf {n : Nat} (h : n < 1073741824) : (Lit.int .i64 (n : Int)).wf = true := WalkArith.wf_i64 ⟨by omega, by omega⟩

theorem newIs_snoc {D : DataW Unit} {f : Int → List UInt8} {ps : List Wr} (h : NewIs D f ps) (hD : IsMap D) (n : Int) (l : List UInt8) : NewIs (D.put (kInt n) (.lit (.int .i64 (ps.length : Int)))) f (ps ++ [(n, l)]) := by
  intro m hm
  by_cases e : m = n
  · subst e
    exact .inr ⟨ps.length, l, has_put_same hD (isKey _) _, atKey_put_same hD (isKey _) _ _, by simp, by rw [over_snoc]; exact upd_same _ _ _⟩
  · rcases h m hm with ⟨h1, h2⟩ | ⟨i, b, h1, h2, h3, h4⟩
    · exact .inl ⟨by rw [has_put_other (kInt_ne e)]; exact h1, by rw [over_snoc, upd_other _ e]; exact h2⟩
    · exact .inr ⟨i, b, by rw [has_put_other (kInt_ne e)]; exact h1, by rw [atKey_put_other (kInt_ne e)]; exact h2, by
        rw [List.getElem?_append_left (List.getElem?_eq_some_iff.1 h3).1]; exact h3, by rw [over_snoc, upd_other _ e]; exact h4⟩

theorem write_disk {w2 w3 w4 w5 : World} {a : DA} {s : DS} {DN : DataW Unit} {n : Int} {l : List UInt8} {g pc : Nat} {Z : Array Value} (h : DiskAt w2 a s) (hl : l.length = 256) (hn : wfI n)
    (hni : NewIs DN s.last s.pend) (hDN : IsMap DN) (hm3 : w3.ownsMap Try.prog 3 (plainElem (H := Unit) Try.prog 3) a.nb (s.pend.length + 1) (DN.put (kInt n) (.lit (.int .i64 (s.pend.length : Int)))))
    (hO3 : Only (fun k => k = a.nb) w2 w3) (hb4 : Below w3.heap.size w3 w4) (hown5 : w5.ownsRow 0 72 257 (.slice (some ⟨g, 0, none⟩) (s.pend.length + 1) pc) (s.pend.length + 1) (rows s.pend ++ wrow (n, l)))
    (hg5 : (w4.alloc (.cells Z 72)).grownBy w5 a.pv.ownBlock) (hloc : a.pv.ownBlock = some g ∨ g = (w4.alloc (.cells Z 72)).heap.size) :
    DiskAt (w5.setCell ⟨a.db, 2, none⟩ (.slice (some ⟨g, 0, none⟩) (s.pend.length + 1) pc)) { a with pv := .slice (some ⟨g, 0, none⟩) (s.pend.length + 1) pc } { s with pend := s.pend ++ [(n, l)], k := s.k + 1 } ∧
    Only a.foot w2 (w5.setCell ⟨a.db, 2, none⟩ (.slice (some ⟨g, 0, none⟩) (s.pend.length + 1) pc)) ∧
    (∀ k, DA.foot { a with pv := .slice (some ⟨g, 0, none⟩) (s.pend.length + 1) pc } k → a.foot k ∨ w2.heap.size ≤ k) := by
  have hO4 : Only (fun k => k = a.nb) w2 (w4.alloc (.cells Z 72)) := (hO3.trans (Only.of_below hb4 (fun _ => False)) (fun _ e => e.elim)).alloc _
  have hO5 : Only (fun k => k = a.nb ∨ a.pv.ownBlock = some k) w2 w5 := (hO4.mono (T := fun k => k = a.nb ∨ a.pv.ownBlock = some k) (fun _ e => .inl e)).trans (Only.of_grown (S := fun k => a.pv.ownBlock = some k) hg5 (fun k hk => hk)) (fun j e => .inl (.inr e))
  have hO6 : Only a.foot w2 (w5.setCell ⟨a.db, 2, none⟩ (.slice (some ⟨g, 0, none⟩) (s.pend.length + 1) pc)) := (hO5.mono (fun k e => e.elim (fun e => .inr (.inr (.inl e))) (fun e => .inr (.inr (.inr e))))).setCell (p := ⟨a.db, 2, none⟩) (.inl (.inl rfl)) _
  have hgdb : g ≠ a.db := by
    rcases hloc with hl | hl
    · exact fun e => h.pv_db g hl e
    · intro e
      have := heap_lt h.box
      have := hO4.size
      omega
  have hpoke : Only (fun k => k = a.db) w5 (w5.setCell ⟨a.db, 2, none⟩ (.slice (some ⟨g, 0, none⟩) (s.pend.length + 1) pc)) := Only.setCell (S := fun k => k = a.db) (p := ⟨a.db, 2, none⟩) (Only.refl _ _) (.inl rfl) _
  refine ⟨⟨?_, h.ne, h.size, ?_, ?_, h.lastlen, ?_, ?_, ?_⟩, hO6, ?_⟩
  · have hb5 : w5.heap[a.db]? = some (.cells (boxOf a s) 66 (0, 0)) := hO5.heap h.box (fun e => e.elim h.db_nb (fun e => h.pv_db _ e rfl))
    exact DiskAt.box_poke _ hb5
  · intro p hp
    rcases List.mem_append.1 hp with hp | hp
    · exact h.lens p hp
    · simp at hp; rw [hp]; exact hl
  · intro p hp
    rcases List.mem_append.1 hp with hp | hp
    · exact h.wfs p hp
    · simp at hp; rw [hp]; exact hn
  · obtain ⟨m, D, h1, h2, h3⟩ := h.last
    refine ⟨m, D, ownsMap_only (ownsMap_only h1 hO5 (fun e => e.elim (fun e => h.ne e) (fun e => h.pv_lb _ e rfl))) hpoke (fun e => h.db_lb e.symm), ?_, h3⟩
    simp only [List.length_append, List.length_cons, List.length_nil]
    omega
  · have e1 : (s.pend ++ [(n, l)]).length = s.pend.length + 1 := by simp
    have e2 : rows (s.pend ++ [(n, l)]) = rows s.pend ++ wrow (n, l) := by simp [rows]
    show World.ownsRow _ 0 72 257 _ (s.pend ++ [(n, l)]).length (rows (s.pend ++ [(n, l)]))
    rw [e1, e2]
    exact ownsRow_only hown5 hpoke (fun k hk e => by
      simp [Value.ownBlock] at hk
      exact hgdb (hk.trans e))
  · have e1 : (s.pend ++ [(n, l)]).length = s.pend.length + 1 := by simp
    refine ⟨_, ?_, newIs_snoc hni hDN n l⟩
    show World.ownsMap _ _ _ _ _ (s.pend ++ [(n, l)]).length _
    rw [e1]
    have hO35 : Only (fun k => a.pv.ownBlock = some k) w3 w5 := ((Only.of_below hb4 (fun _ => False)).alloc (.cells Z 72)).mono (T := fun k => a.pv.ownBlock = some k) (fun _ e => e.elim) |>.trans (Only.of_grown (S := fun k => a.pv.ownBlock = some k) hg5 (fun k hk => hk)) (fun j e => .inl e)
    exact ownsMap_only (ownsMap_only hm3 hO35 (fun e => h.pv_nb _ e rfl)) hpoke (fun e => h.db_nb e.symm)
  · intro k hk
    rcases hk with rfl | rfl | rfl | hk
    · exact .inl (.inl rfl)
    · exact .inl (.inr (.inl rfl))
    · exact .inl (.inr (.inr (.inl rfl)))
    · simp [Value.ownBlock] at hk
      subst hk
      rcases hloc with hl | hl
      · exact .inl (.inr (.inr (.inr hl)))
      · right
        have := hO4.size
        omega
end Go.Proofs.Ytaaceaojgbicaaa
