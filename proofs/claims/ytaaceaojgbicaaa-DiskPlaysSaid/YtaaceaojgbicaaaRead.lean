/- Read: what the document asks, of every disk that lies there; no condition of ours. -/
import Derived.Test.YtaaceaojgbicaaaBof
namespace Go.Proofs.Ytaaceaojgbicaaa
open Go.ChangeShapes Go.WideShapes Go.Deep Go.RowKit Go.Lib Go.Maps

/-- What is answered: the error, the bytes, the disk. -/
def DS.didRead (s : DS) (n : Int) : Int × List UInt8 × DS :=
  if s.down then (7, [], s) else if !s.hasB n then (1, [], s) else (0, s.now n, { s with r := wrap64 (s.r + 1) })

/-- Bytes in new memory, or none. -/
def Answered (l : List UInt8) (E : Int) (w : World) (e : Ending) (w' : World) : Prop :=
  (l = [] ∧ e = .returned (.tuple #[.slice none 0 0, .int .i64 E])) ∨ (∃ g, w.heap.size ≤ g ∧ e = .returned (.tuple #[.slice (some ⟨g, 0, none⟩) l.length l.length, .int .i64 E]) ∧ w'.heap[g]? = some (.cells (Lib.byteCells l).toArray 70 (0, 0)))

set_option maxHeartbeats 4000000 in
set_option maxRecDepth 100000 in
theorem read_some {a : DA} {s : DS} {w : World} (h : DiskAt w a s) (n : Int) (hn : wfI n) (hd : s.down = false) (hh : s.hasB n = true) :
    Calls Try.prog 21 #[ptr a, .int .i64 n] w fun e w' => Answered (s.now n) 0 w e w' ∧ DiskAt w' a { s with r := wrap64 (s.r + 1) } ∧ Only (fun k => k = a.db) w w' := by
  have DOWN := Lib.hid (down_any h)
  have HAS := Lib.hid (has_any h n)
  have ADD := Lib.hid (addR_any h)
  have Z0 := zero70r
  rw [hd] at DOWN
  rw [hh] at HAS
  have hlen : (s.now n).length = 256 := over_length h.lastlen h.lens n
  have BOF : Hid (∀ W, DiskAt W a { s with r := wrap64 (s.r + 1) } → _) := Lib.hid (fun W h => bof_any h n hn)
  obtain ⟨Z, hZ⟩ : ∃ Z, (Lib.byteCells zeroS).toArray = Z := ⟨_, rfl⟩
  have hZs : Hid (Z.size = 256) := Lib.hid (by rw [← hZ]; simp [Lib.byteCells, zeroS_length])
  rw [show secV zeroS = .agg Z by rw [← hZ]; rfl] at Z0
  unfold Answered
  rw [hlen]
  have HNOW : DS.now { s with r := wrap64 (s.r + 1) } n = s.now n := rfl
  obtain ⟨N, hN⟩ : ∃ N, s.now n = N := ⟨_, rfl⟩
  rw [HNOW, hN] at BOF
  rw [hN] at hlen ⊢
  obtain ⟨L, hL⟩ : ∃ L, (Lib.byteCells N).toArray = L := ⟨_, rfl⟩
  have hLs : Hid (L.size = 256) := Lib.hid (by rw [← hL]; simp [Lib.byteCells, hlen])
  have hLo : Hid (L.all (·.oneCell') = true) := Lib.hid (by rw [← hL]; exact all_oneCell_toArray (byteCells_one _))
  rw [show secV N = .agg L by rw [← hL]; rfl] at BOF
  rw [hL]
  clear hZ hL hlen hN h hn hd hh HNOW
  unfold ptr at DOWN HAS BOF ⊢
  go_enter Try.func21, Try.ntmps21
  go_wp2_with fail
  refine (DOWN.out).mono ?_
  rintro e w1 ⟨rfl, rfl⟩
  go_wp2_with fail
  refine (HAS.out).mono ?_
  rintro e w1 ⟨rfl, rfl⟩
  go_wp2_with fail
  refine (ADD.out).mono ?_
  rintro e w1 ⟨rfl, hd1, hO1⟩
  have HD1 := Lib.hid hd1
  have HO1 := Lib.hid hO1
  clear hd1 hO1
  go_wp2_with fail
  refine (BOF.out _ HD1.out).mono ?_
  rintro e w2 ⟨rfl, hb2⟩
  have HD2 := Lib.hid (HD1.out.below hb2)
  have HO2 := Lib.hid (HO1.out.trans (Only.of_below hb2 (fun _ => False)) (fun _ e => e.elim))
  clear hb2 HD1 HO1
  go_wp2_with (refine wpList_store_row rfl 70 (.tmp 6) (.tmp 19) rfl w2.heap.size L rfl rfl 70 Z (heap_alloc_last _ _) (by rw [hLs.out]; exact hi70) (by rw [hZs.out, hLs.out]) hLo.out ?_; rw [World.setRow_alloc_new])
  go_ret2
  exact ⟨.inr ⟨w2.heap.size, HO2.out.size, rfl, heap_alloc_last _ _⟩, HD2.out.below ((Below.refl _ _).alloc (Nat.le_refl _) _), HO2.out.alloc _⟩

set_option maxHeartbeats 4000000 in
set_option maxRecDepth 100000 in
theorem read_down {a : DA} {s : DS} {w : World} (h : DiskAt w a s) (n : Int) (hd : s.down = true) :
    Calls Try.prog 21 #[ptr a, .int .i64 n] w fun e w' => e = .returned (.tuple #[.slice none 0 0, .int .i64 7]) ∧ w = w' := by
  have DOWN := Lib.hid (down_any h)
  rw [hd] at DOWN
  clear h hd
  unfold ptr at DOWN ⊢
  go_enter Try.func21, Try.ntmps21
  go_wp2_with fail
  refine (DOWN.out).mono ?_
  rintro e w1 ⟨rfl, rfl⟩
  go_wp2_with fail
  go_ret2
  exact ⟨rfl, rfl⟩

set_option maxHeartbeats 4000000 in
set_option maxRecDepth 100000 in
theorem read_bad {a : DA} {s : DS} {w : World} (h : DiskAt w a s) (n : Int) (hd : s.down = false) (hh : s.hasB n = false) :
    Calls Try.prog 21 #[ptr a, .int .i64 n] w fun e w' => e = .returned (.tuple #[.slice none 0 0, .int .i64 1]) ∧ w = w' := by
  have DOWN := Lib.hid (down_any h)
  have HAS := Lib.hid (has_any h n)
  rw [hd] at DOWN
  rw [hh] at HAS
  clear h hd hh
  unfold ptr at DOWN HAS ⊢
  go_enter Try.func21, Try.ntmps21
  go_wp2_with fail
  refine (DOWN.out).mono ?_
  rintro e w1 ⟨rfl, rfl⟩
  go_wp2_with fail
  refine (HAS.out).mono ?_
  rintro e w1 ⟨rfl, rfl⟩
  go_wp2_with fail
  go_ret2
  exact ⟨rfl, rfl⟩

theorem read_any {a : DA} {s : DS} {w : World} (h : DiskAt w a s) (n : Int) (hn : wfI n) :
    Calls Try.prog 21 #[ptr a, .int .i64 n] w fun e w' => Answered (s.didRead n).2.1 (s.didRead n).1 w e w' ∧ DiskAt w' a (s.didRead n).2.2 ∧ Only (fun k => k = a.db) w w' := by
  rcases hd : s.down with _ | _
  · rcases hh : s.hasB n with _ | _
    · rw [show s.didRead n = (1, [], s) by unfold DS.didRead; rw [hd, hh]; rfl]
      exact (read_bad h n hd hh).mono fun e w' ⟨h1, h2⟩ => ⟨.inl ⟨rfl, h1⟩, h2 ▸ h, h2 ▸ Only.refl _ _⟩
    · rw [show s.didRead n = (0, s.now n, { s with r := wrap64 (s.r + 1) }) by unfold DS.didRead; rw [hd, hh]; rfl]
      exact read_some h n hn hd hh
  · rw [show s.didRead n = (7, [], s) by unfold DS.didRead; rw [hd]; rfl]
    exact (read_down h n hd).mono fun e w' ⟨h1, h2⟩ => ⟨.inl ⟨rfl, h1⟩, h2 ▸ h, h2 ▸ Only.refl _ _⟩
end Go.Proofs.Ytaaceaojgbicaaa
