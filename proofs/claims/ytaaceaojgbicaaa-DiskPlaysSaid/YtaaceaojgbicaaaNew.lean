/- A new disk; no condition. -/
import Derived.Test.YtaaceaojgbicaaaSmall
namespace Go.Proofs.Ytaaceaojgbicaaa
open Go.ChangeShapes Go.WideShapes Go.Deep Go.RowKit Go.Lib Go.Maps

def clampN (n : Int) : Nat := (max 0 (min n 65536)).toNat
theorem clampN_le (n : Int) : clampN n ≤ 65536 := by unfold clampN; omega
def freshD (k : Nat) : DS := { size := k, last := fun _ => zeroS, pend := [], fused := false, left := 0, down := false, r := 0, w := 0, s := 0, k := 0 }

/-- A disk that a call has made. -/
def MadeDisk (s : DS) (w : World) : Ending → World → Prop := fun e w' => ∃ a, e = .returned (ptr a) ∧ DiskAt w' a s ∧ Below w.heap.size w w' ∧ ∀ k, a.foot k → w.heap.size ≤ k

theorem atKey_empty (k : Lit) (z : DataW Unit) : (DataW.map ([] : List (Lit × DataW Unit))).atKey k z = z := rfl

theorem made_disk (w : World) (k : Nat) (hk : k ≤ 65536) :
    DiskAt (((w.alloc (.map #[] 0)).alloc (.map #[] 0)).alloc (.cells (boxOf ⟨w.heap.size + 1 + 1, w.heap.size, w.heap.size + 1, .slice none 0 0⟩ (freshD k)) 66)) ⟨w.heap.size + 1 + 1, w.heap.size, w.heap.size + 1, .slice none 0 0⟩ (freshD k) where
  box := by simpa using heap_alloc_new ((w.alloc (.map #[] 0)).alloc (.map #[] 0)) (.cells (boxOf ⟨w.heap.size + 1 + 1, w.heap.size, w.heap.size + 1, .slice none 0 0⟩ (freshD k)) 66)
  ne := by simp
  size := hk
  lens := by simp [freshD]
  wfs := by simp [freshD]
  lastlen := fun _ => zeroS_length
  last := ⟨0, _, ((World.ownsMap_made w Try.prog 3 secElem).alloc _).alloc _, by simp [freshD], fun n _ => atKey_empty _ _⟩
  pend := World.ownsRow_nil _ _ _ _
  new := ⟨_, by
    have h := (World.ownsMap_made (w.alloc (.map #[] 0)) Try.prog 3 (plainElem (H := Unit) Try.prog 3)).alloc (.cells (boxOf ⟨w.heap.size + 1 + 1, w.heap.size, w.heap.size + 1, .slice none 0 0⟩ (freshD k)) 66)
    rw [show (w.alloc (.map #[] 0)).heap.size = w.heap.size + 1 by simp] at h
    exact h, fun n _ => .inl ⟨rfl, rfl⟩⟩

theorem made_gave (w : World) (n c : Int) (hc : c = clampN n) :
    MadeDisk (freshD (clampN n)) w (.returned (.pointer (some ⟨w.heap.size + 1 + 1, 0, none⟩))) (((w.alloc (.map #[] 0)).alloc (.map #[] 0)).alloc (.cells #[.int .i64 c, .map (some w.heap.size), .slice none 0 0, .map (some (w.heap.size + 1)), .bool false, .int .i64 0, .bool false, .int .i64 0, .int .i64 0, .int .i64 0] 66)) := by
  subst hc
  refine ⟨⟨w.heap.size + 1 + 1, w.heap.size, w.heap.size + 1, .slice none 0 0⟩, rfl, made_disk w _ (clampN_le n), (((Below.refl _ _).alloc (Nat.le_refl _) _).alloc (by simp) _).alloc (by simp; omega) _, fun k hk => ?_⟩
  rcases hk with hk | hk | hk | hk
  · have : k = w.heap.size + 1 + 1 := hk
    omega
  · have : k = w.heap.size := hk
    omega
  · have : k = w.heap.size + 1 := hk
    omega
  · simp [Value.ownBlock] at hk

set_option maxHeartbeats 4000000 in
set_option maxRecDepth 100000 in
theorem new_any (n : Int) (w : World) : Calls Try.prog 10 #[.int .i64 n] w (MadeDisk (freshD (clampN n)) w) := by
  have hmm := @run_makeMap Try.prog
  go_enter Try.func10, Try.ntmps10
  go_wp2
  all_goals
    go_ret
    exact made_gave w n _ (by unfold clampN; omega)
end Go.Proofs.Ytaaceaojgbicaaa
