/- An act on both disks: alike, whatever it is; under 2^30 writes. -/
import Derived.Test.YtaaceaojgbicaaaActc
import Derived.Test.YtaaceaojgbicaaaActd
import Derived.Test.YtaaceaojgbicaaaActe
import Derived.Test.YtaaceaojgbicaaaActf
import Derived.Test.YtaaceaojgbicaaaActg
import Derived.Test.YtaaceaojgbicaaaActh
import Derived.Test.YtaaceaojgbicaaaOps
namespace Go.Proofs.Ytaaceaojgbicaaa
open Go.ChangeShapes Go.WideShapes Go.Deep Go.RowKit Go.Lib Go.Maps

theorem act_any {w W : World} {db rb K : Nat} {s : DS} (h : Both w W db rb s s K K) (hK : K < 1073741823) (o : OpV) (ho : o.Good W) :
    Calls Try.prog 12 #[.pointer (some ⟨db, 0, none⟩), .pointer (some ⟨rb, 0, none⟩), .agg #[.int .i64 o.k, .int .i64 o.n, .int .i64 o.m, .slice o.ka o.ks.length o.kc]] W (ActGave w K) := by
  obtain ⟨k, n, m, ka, kc, ks⟩ := o
  obtain ⟨wk, wn, wm, hl, hin⟩ := ho
  dsimp only at *
  by_cases h1 : k = 1
  · subst h1; exact act_1 h hK n m wn ka _ kc
  by_cases h2 : k = 2
  · subst h2; exact act_2 h hK n m wn ka _ kc
  by_cases h3 : k = 3
  · subst h3; exact act_3 h hK n m ka _ kc
  by_cases h4 : k = 4
  · subst h4; exact act_4 h n m wn ka _ kc
  by_cases h5 : k = 5
  · subst h5; exact act_5 h hK n m wn ka _ kc
  by_cases h6 : k = 6
  · subst h6; exact act_6 h hK n m ka ks kc hin hl
  exact act_none h k ⟨h1, h2, h3, h4, h5, h6⟩ n m ka _ kc
end Go.Proofs.Ytaaceaojgbicaaa
