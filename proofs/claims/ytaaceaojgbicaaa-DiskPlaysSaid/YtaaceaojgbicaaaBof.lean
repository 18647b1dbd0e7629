/- bytesOf: the bytes of a sector, pending writes too, by value; no condition but that the number fits a machine's. -/
import Derived.Test.YtaaceaojgbicaaaRows2
namespace Go.Proofs.Ytaaceaojgbicaaa
open Go.ChangeShapes Go.WideShapes Go.Deep Go.RowKit Go.Lib Go.Maps

theorem rangeAt_alloc {w : World} {b o : Nat} {cs : List Value} (h : w.rangeAt b o cs) (hb : b < w.heap.size) {x : Obj} : (w.alloc x).rangeAt b o cs := fun j v hv => by
  rw [World.cell?_of_block (w := w) (a := ⟨b, o + j, none⟩) (Below.heap_alloc w x b hb)]
  exact h j v hv

theorem load_cell {ty : TypeId} {tmps : Array Value} {p : Addr} {v : Value} {w : World} (i : Nat) (ht : tmps.getD i undef = .pointer (some p)) (hl : (loadVar ty p).run Try.prog w = .ok v w) :
    ((asAddr (tmps.getD i undef)).run Try.prog w).andThen (fun a w₁ => (loadVar ty a).run Try.prog w₁) = .ok v w := by
  rw [ht]
  simp only [asAddr, Sem.run_pure, Result.andThen_ok]
  exact hl

theorem results34 : Try.f34.results = #[.cell 4 70] := by kernel_rfl

set_option maxHeartbeats 4000000 in
set_option maxRecDepth 100000 in
theorem bof_any {a : DA} {s : DS} {w : World} (h : DiskAt w a s) (n : Int) (hn : wfI n) :
    Calls Try.prog 34 #[ptr a, .int .i64 n] w fun e w' => e = .returned (secV (s.now n)) ∧ Below w.heap.size w w' := by
  obtain ⟨c0, c1, c2, c3, c4, c5, c6, c7, c8, c9⟩ := h.cells
  have Z0 := zero70r
  obtain ⟨DN, hnm, hni⟩ := h.new
  obtain ⟨k, D, hlm, -, hli⟩ := h.last
  have HNM := Lib.hid hnm
  have HLM := Lib.hid hlm
  have HLI := Lib.hid hli
  have HN := Lib.hid hn
  have hdb := heap_lt h.box
  have H := Lib.hid h
  obtain ⟨Z, hZ⟩ : ∃ Z, (Lib.byteCells zeroS).toArray = Z := ⟨_, rfl⟩
  have hZs : Hid (Z.size = 256) := Lib.hid (by rw [← hZ]; simp [Lib.byteCells, zeroS_length])
  rw [show secV zeroS = .agg Z by rw [← hZ]; rfl] at Z0
  clear hZ hnm hlm hli hn h
  unfold DS.now
  rcases hni n HN.out with ⟨hh, hv⟩ | ⟨i, b, hh, hat, hp, hv⟩
  · have HH := Lib.hid hh
    rw [hv]
    have hll := H.out.lastlen n
    obtain ⟨L, hL⟩ : ∃ L, (Lib.byteCells (s.last n)).toArray = L := ⟨_, rfl⟩
    have hLV : Hid (secV (s.last n) = .agg L) := Lib.hid (by rw [← hL]; rfl)
    have hLs : Hid (L.size = 256) := Lib.hid (by rw [← hL]; simp [Lib.byteCells, hll])
    have hLo : Hid (L.all (·.oneCell') = true) := Lib.hid (by rw [← hL]; exact all_oneCell_toArray (byteCells_one _))
    rw [hLV.out]
    clear hh hv hll hL hni
    unfold ptr
    go_enter Try.func34, Try.ntmps34
    go_wp2_with (first | (at_lookup; refine wpList_lookup_own_ok_int _ rfl _ _ 58 rfl 3 3 .i64 key3 Try.underlying58 Try.underlying3 (by kernel_rfl) a.nb _ DN rfl (HNM.out.alloc _) _ _ rfl (keyOf_int_mk Try.underlying3 HN.out) ?_; rw [show Maps.has DN (.int .i64 n) = false from HH.out]; intro c hat hwc; clear hat) | (at_lookup; refine wpList_lookup_sec _ rfl _ _ rfl rfl (HLM.out.alloc _) HLI.out rfl HN.out ?_; rw [hLV.out]) | (refine wpList_store_row rfl 70 (.tmp 4) (.tmp 30) rfl w.heap.size L rfl rfl 70 Z (heap_alloc_last _ _) (by rw [hLs.out]; exact hi70) (by rw [hZs.out, hLs.out]) hLo.out ?_; rw [World.setRow_alloc_new]))
    refine bodyPost_ret (v := .agg L) ?_ rfl ⟨rfl, (Below.refl _ _).alloc (Nat.le_refl _) _⟩
    rw [results_cell results34]
    have hld := run_loadVar_new (P := Try.prog) w 70 L 256 5 Try.underlying70 (by rw [hLs.out]; exact hi70)
    exact load_cell _ rfl hld
  · obtain ⟨g, cap, hpv, hc1, hc2⟩ := H.out.pendHead hp
    have hil := (List.getElem?_eq_some_iff.1 hp).1
    have HRNG := Lib.hid (H.out.pendBytes hpv hp)
    have hbl : b.length = 256 := H.out.lens _ (List.mem_of_getElem? hp)
    have hgl : Hid (g < w.heap.size) := Lib.hid (H.out.lt g (.inr (.inr (.inr (by rw [hpv]; rfl)))))
    have HH := Lib.hid hh
    have HAT := Lib.hid hat
    have hl1 : (i : Int) < (s.pend.length : Int) := by omega
    rw [hv]
    obtain ⟨L, hL⟩ : ∃ L, (Lib.byteCells b).toArray = L := ⟨_, rfl⟩
    have hLV : Hid (secV b = .agg L) := Lib.hid (by rw [← hL]; rfl)
    have hLs : Hid (L.size = 256) := Lib.hid (by rw [← hL]; simp [Lib.byteCells, hbl])
    have hLo : Hid (L.all (·.oneCell') = true) := Lib.hid (by rw [← hL]; exact all_oneCell_toArray (byteCells_one _))
    have HTL : Hid ((Lib.byteCells b).toArray = L) := Lib.hid hL
    have HBL : Hid ((Lib.byteCells b).length = 256) := Lib.hid (by simp [Lib.byteCells, hbl])
    rw [hLV.out]
    rw [hpv] at c2
    clear hh hv hL hni hat hp hpv hc1 hbl
    unfold maxLen at hc2
    unfold ptr
    go_enter Try.func34, Try.ntmps34
    go_wp2_with (first | (at_lookup; refine wpList_lookup_own_ok_int _ rfl _ _ 58 rfl 3 3 .i64 key3 Try.underlying58 Try.underlying3 (by kernel_rfl) a.nb _ DN rfl (HNM.out.alloc _) _ _ rfl (keyOf_int_mk Try.underlying3 HN.out) ?_; rw [show Maps.has DN (.int .i64 n) = true from HH.out]; intro c hat hwc; obtain rfl : c = i := (by have h1 := HAT.out; unfold kInt at h1; rw [hat] at h1; simpa using h1); clear hat) | (refine wpList_load_mid rfl 70 (.tmp 23) rfl g (i * 257 + 1) rfl (Lib.byteCells b) _ (rangeAt_alloc HRNG.out hgl.out) Try.underlying70 rfl (by rw [HBL.out]; exact hi70) ?_; rw [HTL.out]) | (refine wpList_store_row rfl 70 (.tmp 4) (.tmp 24) rfl w.heap.size L rfl rfl 70 Z (heap_alloc_last _ _) (by rw [hLs.out]; exact hi70) (by rw [hZs.out, hLs.out]) hLo.out ?_; rw [World.setRow_alloc_new]))
    refine bodyPost_ret (v := .agg L) ?_ rfl ⟨rfl, (Below.refl _ _).alloc (Nat.le_refl _) _⟩
    rw [results_cell results34]
    have hld := run_loadVar_new (P := Try.prog) w 70 L 256 5 Try.underlying70 (by rw [hLs.out]; exact hi70)
    exact load_cell _ rfl hld
end Go.Proofs.Ytaaceaojgbicaaa
