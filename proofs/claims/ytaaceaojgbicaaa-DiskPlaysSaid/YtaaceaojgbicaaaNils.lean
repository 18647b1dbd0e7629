/- No disk: each call on it; no condition. -/
import Derived.Test.YtaaceaojgbicaaaAwake
namespace Go.Proofs.Ytaaceaojgbicaaa
open Go.ChangeShapes Go.WideShapes Go.Deep Go.RowKit Go.Lib Go.Maps

set_option maxHeartbeats 4000000 in
set_option maxRecDepth 100000 in
theorem read_nil (w : World) (n : Value) : Calls Try.prog 21 #[.pointer none, n] w fun e w' => e = .returned (.tuple #[.slice none 0 0, .int .i64 7]) ∧ w = w' := by
  have DOWN := Lib.hid (down_nil w)
  go_enter Try.func21, Try.ntmps21
  go_wp2_with fail
  refine (DOWN.out).mono ?_
  rintro e w1 ⟨rfl, rfl⟩
  go_wp2_with fail
  go_ret2
  exact ⟨rfl, rfl⟩

set_option maxHeartbeats 4000000 in
set_option maxRecDepth 100000 in
theorem sync_nil (w : World) : Calls Try.prog 20 #[.pointer none] w fun e w' => e = .returned (.int .i64 7) ∧ w = w' := by
  have DOWN := Lib.hid (down_nil w)
  go_enter Try.func20, Try.ntmps20
  go_wp2_with fail
  refine (DOWN.out).mono ?_
  rintro e w1 ⟨rfl, rfl⟩
  go_wp2_with fail
  go_ret
  exact ⟨rfl, rfl⟩

set_option maxHeartbeats 4000000 in
set_option maxRecDepth 100000 in
theorem cut_nil (w : World) (v : Value) : Calls Try.prog 22 #[.pointer none, v] w (MadeDisk (freshD 0) w) := by
  have SIZE := Lib.hid (size_nil w)
  have NEW := Lib.hid (new_any 0 w)
  go_enter Try.func22, Try.ntmps22
  go_wp2_with fail
  refine (SIZE.out).mono ?_
  rintro e w1 ⟨rfl, rfl⟩
  go_wp2_with fail
  refine (NEW.out).mono ?_
  rintro e w1 ⟨a, rfl, hd, hb, hf⟩
  have HD := Lib.hid hd
  have HB := Lib.hid hb
  have HF := Lib.hid hf
  clear hd hb hf
  go_wp2_with fail
  go_ret
  exact ⟨a, rfl, HD.out, HB.out, HF.out⟩

theorem results17 : Try.f17.results = #[.cell 2 36] := by kernel_rfl

set_option maxHeartbeats 4000000 in
set_option maxRecDepth 100000 in
theorem acts_nil (w : World) : Calls Try.prog 17 #[.pointer none] w fun e w' => e = .returned (.agg #[.int .i64 0, .int .i64 0, .int .i64 0]) ∧ Below w.heap.size w w' := by
  go_enter Try.func17, Try.ntmps17
  go_wp2_with fail
  refine bodyPost_ret (v := .agg #[.int .i64 0, .int .i64 0, .int .i64 0]) (by simp [results, Try.results17, go_sem]) rfl ⟨rfl, ?_⟩
  exact (((Below.refl _ _).alloc (Nat.le_refl _) _))
end Go.Proofs.Ytaaceaojgbicaaa
