/- Two counts of acts are compared: three numbers each; no condition. -/
import Derived.Test.YtaaceaojgbicaaaBase
import Derived.Laws.StructEq
namespace Go.Proofs.Ytaaceaojgbicaaa
open Go.ChangeShapes Go.WideShapes Go.Deep Go.RowKit Go.Lib Go.Maps

theorem info2 : (Try.prog.info? 2).map (·.size) = some 1 := by kernel_rfl
theorem size2 (w : World) : (sizeOf 2).run Try.prog w = .ok 1 w := by kernel_rfl
theorem part2 (xs : Array Value) (i : Nat) (x : Int) (h : xs[i]? = some (.int .i64 x)) (w : World) : (part 2 xs i).run Try.prog w = .ok (.int .i64 x) w := by
  simp [part, isAgg, run_underlying Try.underlying2, h]

theorem eq_acts (d : Nat) (a b c a' b' c' : Int) (w : World) : (Op.equalIn (d + 2) 36 (.agg #[.int .i64 a, .int .i64 b, .int .i64 c]) (.agg #[.int .i64 a', .int .i64 b', .int .i64 c'])).run Try.prog w = .ok (a == a' && b == b' && c == c') w := by
  rw [Op.equalIn]
  simp only [Sem.run_bind, run_underlying Try.underlying36, Result.andThen_ok, size2]
  simp [Std.Legacy.Range.forIn_eq_forIn_range', List.range', part2, run_equalIn_int, Try.underlying2]
  by_cases h1 : a = a' <;> by_cases h2 : b = b' <;> by_cases h3 : c = c' <;> simp [h1, h2, h3]
end Go.Proofs.Ytaaceaojgbicaaa
