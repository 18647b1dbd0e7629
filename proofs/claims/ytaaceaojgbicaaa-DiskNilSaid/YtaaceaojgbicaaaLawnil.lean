/- DiskNil: no disk has no sectors, is down, and answers ErrLost: the walk of the statement; for every number. -/
import Derived.Test.YtaaceaojgbicaaaNils
import Derived.Test.YtaaceaojgbicaaaEqacts
namespace Go.Proofs.Ytaaceaojgbicaaa
open Go.ChangeShapes Go.WideShapes Go.Deep Go.RowKit Go.Lib Go.Maps

set_option maxHeartbeats 4000000 in
set_option maxRecDepth 100000 in
theorem lawnil_any (n : Int) (w : World) : Calls Try.prog 7 #[.int .i64 n] w fun e w' => e = .returned (.bool true) ∧ Below w.heap.size w w' := by
  have AWAKE := Lib.hid (fun W => awake_any W)
  have SETF := Lib.hid (fun W => setfuse_nil n W)
  have READ := Lib.hid (fun W => read_nil W (.int .i64 n))
  have CUT := Lib.hid (fun W v => cut_nil W v)
  have SIZE := Lib.hid (fun W => size_nil W)
  have DOWN := Lib.hid (fun W => down_nil W)
  have SECT := Lib.hid (fun W => sector_any 0 W)
  have WRITE := Lib.hid (fun W v => write_nil W (.int .i64 n) v)
  have SYNC := Lib.hid (fun W => sync_nil W)
  have PEND := Lib.hid (fun W => pending_nil W)
  have ACTS := Lib.hid (fun W => acts_nil W)
  go_enter Try.func7, Try.ntmps7
  go_wp2_with fail
  refine (AWAKE.out _).mono ?_
  rintro e w1 ⟨rfl, hb1⟩
  have HB1 := Lib.hid hb1
  clear hb1
  go_wp2_with fail
  refine (SETF.out _).mono ?_
  rintro e w2 ⟨rfl, rfl⟩
  go_wp2_with fail
  refine (READ.out _).mono ?_
  rintro e w2 ⟨rfl, rfl⟩
  go_wp2_with fail
  refine (CUT.out _ _).mono ?_
  rintro e w2 ⟨a, rfl, hd, hb2, -⟩
  have HB2 := Lib.hid (HB1.out.trans (hb2.mono HB1.out.size))
  have HD := Lib.hid hd
  clear hb2 hd
  unfold ptr
  go_wp2_with fail
  refine (SIZE.out _).mono ?_
  rintro e w3 ⟨rfl, rfl⟩
  go_wp2_with fail
  refine (DOWN.out _).mono ?_
  rintro e w3 ⟨rfl, rfl⟩
  go_wp2_with fail
  refine (SECT.out _).mono ?_
  rintro e w3 ⟨g, rfl, -, -, hb3⟩
  have HD3 := Lib.hid (HD.out.below hb3)
  have HB3 := Lib.hid (HB2.out.trans (hb3.mono HB2.out.size))
  clear hb3
  go_wp2_with fail
  refine (WRITE.out _ _).mono ?_
  rintro e w4 ⟨rfl, rfl⟩
  go_wp2_with fail
  refine (SYNC.out _).mono ?_
  rintro e w4 ⟨rfl, rfl⟩
  go_wp2_with fail
  refine (PEND.out _).mono ?_
  rintro e w4 ⟨rfl, rfl⟩
  go_wp2_with fail
  refine (show Calls Try.prog 13 #[.pointer (some ⟨a.db, 0, none⟩)] _ _ from size_any HD3.out).mono ?_
  rintro e w4 ⟨rfl, rfl⟩
  dsimp only [freshD]
  go_wp2_with fail
  refine (ACTS.out _).mono ?_
  rintro e w4 ⟨rfl, hb4⟩
  have HB4 := Lib.hid (HB3.out.trans (hb4.mono HB3.out.size))
  clear hb4
  have EQ : ∀ W, (Op.equalIn 10000 36 (.agg #[.int .i64 0, .int .i64 0, .int .i64 0]) (.agg #[.int .i64 0, .int .i64 0, .int .i64 0])).run Try.prog W = .ok true W := fun W => eq_acts 9998 0 0 0 0 0 0 W
  go_wp2_with fail
  go_ret
  exact ⟨rfl, HB4.out⟩
end Go.Proofs.Ytaaceaojgbicaaa
