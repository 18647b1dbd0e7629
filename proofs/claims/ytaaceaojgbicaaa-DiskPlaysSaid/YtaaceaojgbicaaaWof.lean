/- writeOf: a write of a sector's bytes, by value; where these are just 256. -/
import Derived.Test.YtaaceaojgbicaaaSect
import Derived.Laws.CopyRow
import Derived.Laws.ResultCell
namespace Go.Proofs.Ytaaceaojgbicaaa
open Go.ChangeShapes Go.WideShapes Go.Deep Go.RowKit Go.Lib Go.Maps

/-- Bytes that lie there. -/
def BytesIn (w : World) (na : Option Addr) (l : List UInt8) : Prop :=
  l = [] ∨ ∃ b o, na = some ⟨b, o, none⟩ ∧ ∀ j (h : j < l.length), w.cell? ⟨b, o + j, none⟩ = some (.int .u8 (l[j].toNat : Int))

theorem BytesIn.only {w w' : World} {S : Nat → Prop} {na : Option Addr} {l : List UInt8} (h : BytesIn w na l) (hO : Only S w w') (hn : ∀ x, na = some x → ¬ S x.block) : BytesIn w' na l := by
  rcases h with h | ⟨b, o, e, h⟩
  · exact .inl h
  · refine .inr ⟨b, o, e, fun j hj => ?_⟩
    have h1 := h j hj
    have hlt := World.block_lt_of_cell? w _ h1
    rw [World.cell?_of_block (w := w) (w' := w') (a := ⟨b, o + j, none⟩) (hO.block b hlt (hn _ e))]
    exact h1

theorem BytesIn.below {w w' : World} {na : Option Addr} {l : List UInt8} (h : BytesIn w na l) (hb : Below w.heap.size w w') : BytesIn w' na l :=
  h.only (Only.of_below hb (fun _ => False)) (fun _ _ h => h)

theorem wpList_copy_run {P : Program} (w : World) {ops : Array Oper} {rest : List Oper} {o : Oper} {a : Act} {Q : Exit → Act → World → Prop} (hgd : o.guard = none) (d s : Operand) (t t' : TypeId)
    (ho : o.op = .call { callee := .builtin .copy, args := #[d, s], argTypes := #[t, t'] }) (v u : Value) (hd : a.eval d = v) (hs : a.eval s = u) {v' : Value} {w' : World}
    (hr : (Builtin.copy_ #[t, t'] o.type #[v, u]).run P w = .ok v' w') (h : wpList P ops Q rest (a.put o.dst v') w') : wpList P ops Q (o :: rest) a w := by
  refine wpList_plain hgd fun _ hK => ?_
  unfold Oper.wp
  simp [execOp, ho, resolve, invoke, builtin, hd, hs, hr, Result.andThen]
  exact hK _ _ h

theorem wpList_build_run {P : Program} (w : World) {ops : Array Oper} {rest : List Oper} {o : Oper} {a : Act} {Q : Exit → Act → World → Prop} (hgd : o.guard = none) (t : TypeId) (parts : Array (Nat × Operand)) (ho : o.op = .build t parts)
    (vs : Array (Nat × Value)) (hv : (parts.map fun (i, x) => (i, a.eval x)) = vs) {v' : Value} (hr : (Instr.build t vs).run P w = .ok v' w) (h : wpList P ops Q rest (a.put o.dst v') w) : wpList P ops Q (o :: rest) a w := by
  refine wpList_plain hgd fun _ hK => ?_
  unfold Oper.wp execOp
  simp only [ho, Sem.run_bind, hv, hr, Result.andThen_ok]
  exact hK _ _ h

theorem wrow_length (p : Wr) (h : p.2.length = 256) : (wrow p).length = 257 := by simp [wrow, Lib.byteCells, h]
theorem wrow_one (p : Wr) : ∀ v ∈ wrow p, v.oneCell' = true := by
  intro v hv
  rcases List.mem_cons.1 hv with rfl | hv
  · rfl
  · obtain ⟨b, _, rfl⟩ := List.mem_map.1 hv; rfl
theorem byteCells_one (l : List UInt8) : ∀ v ∈ Lib.byteCells l, v.oneCell' = true := by
  intro v hv
  obtain ⟨b, _, rfl⟩ := List.mem_map.1 hv; rfl

def zeroW : List Value := wrow (0, zeroS)
theorem zero72 (w : World) : (zeroValue 72).run Try.prog w = .ok (.agg zeroW.toArray) w := by kernel_rfl
theorem build72 (n : Int) (w : World) : (Instr.build 72 #[(0, .int .i64 n)]).run Try.prog w = .ok (.agg (wrow (n, zeroS)).toArray) w := by
  refine run_build w 72 _ _ ?_
  kernel_rfl

theorem hi72 : (Try.prog.info? 72).map (·.size) = some 257 := by kernel_rfl
theorem hi70 : (Try.prog.info? 70).map (·.size) = some 256 := by kernel_rfl
theorem hi5 : (Try.prog.info? 5).map (·.size) = some 1 := by kernel_rfl

theorem two_new (w : World) (o : Obj) (c c' : Array Value) (t : TypeId) : ((w.alloc o).alloc (.cells c t)).setRow (w.heap.size + 1) c' = (w.alloc o).alloc (.cells c' t) := by
  have := World.setRow_alloc_new (w.alloc o) c c' t
  rwa [show (w.alloc o).heap.size = w.heap.size + 1 by simp] at this
theorem two_heap (w : World) (o o' : Obj) : ((w.alloc o).alloc o').heap[w.heap.size + 1]? = some o' := by
  have := heap_alloc_last (w.alloc o) o'
  rwa [show (w.alloc o).heap.size = w.heap.size + 1 by simp] at this
theorem one_heap (w : World) (o o' : Obj) : ((w.alloc o).alloc o').heap[w.heap.size]? = some o := by
  rw [Below.heap_alloc _ _ _ (by simp)]
  exact heap_alloc_last w o

theorem one_new (w : World) (o : Obj) (c c' : Array Value) (t : TypeId) : ((w.alloc (.cells c t)).alloc o).setRow w.heap.size c' = (w.alloc (.cells c' t)).alloc o := by
  simp only [World.setRow, World.alloc]
  congr 1
  apply Array.ext_getElem?
  intro i
  rw [Array.getElem?_modify]
  by_cases h : w.heap.size = i
  · subst h
    simp [Array.getElem?_push]
  · have h' : ¬ i = w.heap.size := fun e => h e.symm
    simp [h, h', Array.getElem?_push]

theorem results32 : Try.f32.results = #[.cell 4 72] := by kernel_rfl
theorem results_cell {fn : Func} {p : Tmp} {ty : TypeId} (h : fn.results = #[.cell p ty]) (tmps : Array Value) (P : Program) (w : World) :
    (results fn tmps).run P w = ((asAddr (tmps.getD p undef)).run P w).andThen fun a w₁ => (loadVar ty a).run P w₁ := by
  simp only [results, h]
  simp [Sem.run_bind, Result.andThen]

set_option maxHeartbeats 4000000 in
set_option maxRecDepth 100000 in
theorem wof_any (n : Int) (na : Option Addr) (cap : Nat) (l : List UInt8) (w : World) (hin : BytesIn w na l) (hl : l.length = 256) :
    Calls Try.prog 32 #[.int .i64 n, .slice na 256 cap] w fun e w' => e = .returned (.agg (wrow (n, l)).toArray) ∧ Below w.heap.size w w' := by
  have Z0 := zero72
  have B0 := Lib.hid (build72 n)
  obtain ⟨Z, hZ⟩ : ∃ Z, zeroW.toArray = Z := ⟨_, rfl⟩
  obtain ⟨Z1, hZ1⟩ : ∃ Z, (wrow (n, zeroS)).toArray = Z := ⟨_, rfl⟩
  obtain ⟨Z2, hZ2⟩ : ∃ Z, (wrow (n, l)).toArray = Z := ⟨_, rfl⟩
  rw [hZ] at Z0
  rw [hZ1] at B0
  rw [hZ2]
  have hs : Hid (Z.size = 257) := Lib.hid (by rw [← hZ]; exact wrow_length (0, zeroS) zeroS_length)
  have hs1 : Hid (Z1.size = 257) := Lib.hid (by rw [← hZ1]; simpa using wrow_length (n, zeroS) zeroS_length)
  have hs2 : Hid (Z2.size = 257) := Lib.hid (by rw [← hZ2]; simpa using wrow_length (n, l) hl)
  have o1 : Hid (Z1.all (·.oneCell') = true) := Lib.hid (by rw [← hZ1]; exact all_oneCell_toArray (wrow_one _))
  have o2 : Hid (Z2.all (·.oneCell') = true) := Lib.hid (by rw [← hZ2]; exact all_oneCell_toArray (wrow_one _))
  have hcopy : Hid (∀ ty, (Builtin.copy_ #[44, 44] ty #[.slice (some ⟨w.heap.size + 1, 1, none⟩) 256 256, .slice na 256 cap]).run Try.prog ((w.alloc (.cells Z 72)).alloc (.cells Z1 72)) = .ok (.int .i64 256) ((w.alloc (.cells Z 72)).alloc (.cells Z2 72))) := by
    refine Lib.hid fun ty => ?_
    rcases hin with rfl | ⟨b, o, rfl, hb⟩
    · simp at hl
    have hr := run_copy_row (P := Try.prog) ((w.alloc (.cells Z 72)).alloc (.cells Z1 72)) 44 44 ty 5 (w.heap.size + 1) 1 256 256 ⟨b, o, none⟩ 256 cap Z1 72 (Lib.byteCells l) Try.underlying44 hi5
      (two_heap _ _ _) (by simp [Lib.byteCells, hl]) (fun j v hj => by
        have hj' : j < l.length := by
          have := (List.getElem?_eq_some_iff.1 hj).1
          simpa [Lib.byteCells] using this
        rw [byteCells_at l j hj'] at hj
        cases hj
        have h1 := hb j hj'
        have hlt := World.block_lt_of_cell? w _ h1
        rw [WideShapes.add_plain, World.cell?_of_block (w := w) (a := ⟨b, o + j, none⟩) (by
          show ((w.alloc _).alloc _).heap[b]? = w.heap[b]?
          have hlt' : b < w.heap.size := hlt
          rw [Below.heap_alloc _ _ _ (by simp; omega), Below.heap_alloc _ _ _ hlt'])]
        exact h1) (by rw [hs1.out]; simp [Lib.byteCells, hl]) (byteCells_one l)
    rw [hr, two_new]
    have e1 : (Lib.byteCells l).length = 256 := by simp [Lib.byteCells, hl]
    have e2 : (Z1.toList.take 1 ++ Lib.byteCells l ++ Z1.toList.drop (1 + (Lib.byteCells l).length)).toArray = Z2 := by
      rw [← hZ1, ← hZ2, e1, List.drop_of_length_le (by have := wrow_length (n, zeroS) zeroS_length; simp [this])]
      simp [wrow]
    rw [e2, e1]
    rfl
  clear hZ hZ1 hZ2 hin
  go_enter Try.func32, Try.ntmps32
  go_wp2_with (first | (refine wpList_build_run _ rfl 72 #[(0, .tmp 6)] rfl #[(0, .int .i64 n)] (by simp [Act.eval]) (B0.out _) ?_) | (refine wpList_store_row rfl 72 (.tmp 5) (.tmp 7) rfl (w.heap.size + 1) Z1 rfl rfl 72 Z (two_heap _ _ _) (by rw [hs1.out]; exact hi72) (by rw [hs.out, hs1.out]) o1.out ?_; rw [two_new]) | (refine wpList_copy_run _ rfl (.tmp 9) (.tmp 10) 44 44 rfl _ _ rfl rfl (hcopy.out _) ?_) | (refine wpList_load_row rfl 72 (.tmp 5) rfl (w.heap.size + 1) rfl 72 Z2 (0, 0) _ (two_heap _ _ _) Try.underlying72 rfl (by rw [hs2.out]; exact hi72) ?_) | (refine wpList_store_row rfl 72 (.tmp 4) (.tmp 12) rfl w.heap.size Z2 rfl rfl 72 Z (one_heap _ _ _) (by rw [hs2.out]; exact hi72) (by rw [hs.out, hs2.out]) o2.out ?_; rw [one_new]))
  refine bodyPost_ret (v := .agg Z2) ?_ rfl ⟨rfl, ((Below.refl _ _).alloc (Nat.le_refl _) _).alloc (by simp) _⟩
  rw [results_cell results32]
  have hld := run_loadVar_row (P := Try.prog) ((w.alloc (.cells Z2 72)).alloc (.cells Z2 72)) w.heap.size 72 72 Z2 (0, 0) _ (one_heap _ _ _) Try.underlying72 rfl (by rw [hs2.out]; exact hi72)
  show ((asAddr (.pointer (some ⟨w.heap.size, 0, none⟩))).run Try.prog _).andThen _ = _
  simp [asAddr, Result.andThen, hld]
end Go.Proofs.Ytaaceaojgbicaaa
