/- A sector of bytes alike (the statements' own); no condition. -/
import Derived.Test.YtaaceaojgbicaaaNew
namespace Go.Proofs.Ytaaceaojgbicaaa
open Go.ChangeShapes Go.WideShapes Go.Deep Go.RowKit Go.Lib Go.Maps

theorem infoByte : (Try.prog.info? 5).map (fun i => (i.zero, i.size, i.bytes)) = some (some (.int .u8 0), 1, 1) := by kernel_rfl

/-- A call that answers these bytes in a row of its own. -/
def Gave (l : List UInt8) (w : World) : Ending → World → Prop := fun e w' => ∃ g, e = .returned (.slice (some ⟨g, 0, none⟩) l.length l.length) ∧ w.heap.size ≤ g ∧ w'.heap[g]? = some (.cells (Lib.byteCells l).toArray 5 (0, 0)) ∧ Below w.heap.size w w'

def zerosL (n : Nat) : List UInt8 := List.replicate n 0
theorem zerosL_length (n : Nat) : (zerosL n).length = n := List.length_replicate
theorem zerosL_256 : zerosL 256 = zeroS := rfl

theorem madeCells_bytes (n : Nat) : madeCells #[.int .u8 0] n = (Lib.byteCells (zerosL n)).toArray := by
  apply Array.ext'
  rw [toList_madeCells_one]
  simp [Lib.byteCells, zerosL, List.map_replicate]

theorem make_bytes (n : Nat) (hn : n ≤ 140737488355328) (w : World) : (Instr.makeSlice 44 (.int .i64 (n : Int)) (.int .i64 (n : Int))).run Try.prog w = .ok (.slice (some ⟨w.heap.size, 0, none⟩) n n) (w.alloc (.cells (Lib.byteCells (zerosL n)).toArray 5)) := by
  obtain ⟨i0, hi, hz0, hz1, hz2⟩ := info_parts infoByte
  have hr := run_make (P := Try.prog) w 44 5 i0 (.int .u8 0) Try.underlying44 hi hz0 .i64 .i64 n n (by omega) (Int.le_refl _) (by rw [hz2]; omega) (by omega)
  rw [hr, hz1]
  simp only [Int.toNat_natCast, Value.cells, Nat.mul_one, madeCells_bytes]
theorem make_256 (w : World) : (Instr.makeSlice 44 (.int .i64 256) (.int .i64 256)).run Try.prog w = .ok (.slice (some ⟨w.heap.size, 0, none⟩) 256 256) (w.alloc (.cells (Lib.byteCells zeroS).toArray 5)) := make_bytes 256 (by omega) w

def byteOf (m : Int) : UInt8 := UInt8.ofNat (m % 256).toNat
def alike (m : Int) : List UInt8 := List.replicate 256 (byteOf m)
theorem alike_length (m : Int) : (alike m).length = 256 := List.length_replicate
/-- The first k of them are laid. -/
def alikeK (m : Int) (k : Nat) : List UInt8 := List.replicate k (byteOf m) ++ List.replicate (256 - k) 0
theorem alikeK_zero (m : Int) : alikeK m 0 = zeroS := rfl
theorem alikeK_all (m : Int) : alikeK m 256 = alike m := by unfold alikeK alike; rw [show 256 - 256 = 0 from rfl, List.replicate_zero, List.append_nil]
theorem alikeK_step (m : Int) (k : Nat) (hk : k < 256) : (alikeK m k).set k (byteOf m) = alikeK m (k + 1) := by
  unfold alikeK
  obtain ⟨r, hr⟩ : ∃ r, 256 - k = r + 1 := ⟨256 - k - 1, by omega⟩
  rw [hr, show 256 - (k + 1) = r by omega, List.replicate_succ (n := r), List.set_append_right _ _ (by simp), List.length_replicate, Nat.sub_self, List.set_cons_zero]
  rw [List.replicate_succ' (n := k), List.append_assoc]
  rfl

theorem byte_int (m : Int) : ((byteOf m).toNat : Int) = m % 256 := by
  unfold byteOf
  rw [UInt8.toNat_ofNat_of_lt' (by have := Int.emod_lt_of_pos m (show (0 : Int) < 256 by omega); have := Int.emod_nonneg m (show (256 : Int) ≠ 0 by omega); show (m % 256).toNat < 2 ^ 8; omega)]
  have := Int.emod_nonneg m (show (256 : Int) ≠ 0 by omega)
  omega

theorem set_byteCells (l : List UInt8) (k : Nat) (b : UInt8) : (Lib.byteCells l).set k (.int .u8 (b.toNat : Int)) = Lib.byteCells (l.set k b) := by
  simp [Lib.byteCells, List.map_set]
theorem byteCells_at (l : List UInt8) (k : Nat) (hk : k < l.length) : (Lib.byteCells l)[k]? = some (.int .u8 (l[k].toNat : Int)) := by
  simp [Lib.byteCells, hk]
theorem alikeK_set (m : Int) (k : Nat) (hk : k < 256) : (Lib.byteCells (alikeK m k)).set k (.int .u8 (m % 256)) = Lib.byteCells (alikeK m (k + 1)) := by
  rw [← byte_int, set_byteCells, alikeK_step m k hk]
theorem alikeK_length (m : Int) (k : Nat) (hk : k ≤ 256) : (alikeK m k).length = 256 := by
  unfold alikeK
  rw [List.length_append, List.length_replicate, List.length_replicate]; omega

set_option maxHeartbeats 4000000 in
set_option maxRecDepth 100000 in
theorem sector_any (m : Int) (w : World) : Calls Try.prog 19 #[.int .i64 m] w (Gave (alike m) w) := by
  have MAKE := make_256
  go_enter Try.func19, Try.ntmps19
  go_wp2
  clear MAKE
  go_loopw [4] (fun i wr => ∃ k : Nat, k ≤ 256 ∧ i = .int .i64 k ∧ wr = w.alloc (.cells (Lib.byteCells (alikeK m k)).toArray 5)) (fun i _ => 256 - (intOf i).toNat)
  case atStart => exact ⟨0, by omega, rfl, rfl⟩
  case round =>
    obtain ⟨k, hk, rfl, rfl⟩ := hrel
    by_cases hlt : k < 256
    · have hlt' : (k : Int) < 256 := by omega
      have hat := byteCells_at (alikeK m k) k (by rw [alikeK_length m k hk]; exact hlt)
      have HSET := Lib.hid (alikeK_set m k hlt)
      go_wp2
      go_roundw
      case rel => exact ⟨k + 1, by omega, by go_num, by rw [HSET.out]⟩
      case measure => simp [intOf]; omega
    · obtain rfl : k = 256 := by omega
      go_wp2
      go_ret
      rw [alikeK_all]
      exact ⟨w.heap.size, by rw [alike_length]; rfl, Nat.le_refl _, heap_alloc_new w _, (Below.refl _ _).alloc (Nat.le_refl _) _⟩
end Go.Proofs.Ytaaceaojgbicaaa
