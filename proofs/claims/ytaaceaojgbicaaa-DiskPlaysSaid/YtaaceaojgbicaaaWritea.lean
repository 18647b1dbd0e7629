/- Write: what the document asks, of every disk that lies there, and of none; the bytes may be any; under 2^30 writes. -/
import Derived.Test.YtaaceaojgbicaaaWrite
namespace Go.Proofs.Ytaaceaojgbicaaa
open Go.ChangeShapes Go.WideShapes Go.Deep Go.RowKit Go.Lib Go.Maps

set_option maxHeartbeats 4000000 in
set_option maxRecDepth 100000 in
theorem write_down {a : DA} {s : DS} {w : World} (h : DiskAt w a s) (n : Int) (v : Value) (hd : s.down = true) :
    Calls Try.prog 18 #[ptr a, .int .i64 n, v] w fun e w' => e = .returned (.int .i64 7) ∧ w = w' := by
  have DOWN := Lib.hid (down_any h)
  rw [hd] at DOWN
  clear h hd
  unfold ptr at DOWN ⊢
  go_enter Try.func18, Try.ntmps18
  go_wp2_with fail
  refine (DOWN.out).mono ?_
  rintro e w1 ⟨rfl, rfl⟩
  go_wp2_with fail
  go_ret
  exact ⟨rfl, rfl⟩

set_option maxHeartbeats 4000000 in
set_option maxRecDepth 100000 in
theorem write_nil (w : World) (n v : Value) : Calls Try.prog 18 #[.pointer none, n, v] w fun e w' => e = .returned (.int .i64 7) ∧ w = w' := by
  have DOWN := Lib.hid (down_nil w)
  go_enter Try.func18, Try.ntmps18
  go_wp2_with fail
  refine (DOWN.out).mono ?_
  rintro e w1 ⟨rfl, rfl⟩
  go_wp2_with fail
  go_ret
  exact ⟨rfl, rfl⟩

set_option maxHeartbeats 4000000 in
set_option maxRecDepth 100000 in
theorem write_bad {a : DA} {s : DS} {w : World} (h : DiskAt w a s) (n : Int) (na : Option Addr) (cap len : Nat) (hd : s.down = false) (hb : s.hasB n = false ∨ len ≠ 256) :
    Calls Try.prog 18 #[ptr a, .int .i64 n, .slice na len cap] w fun e w' => e = .returned (.int .i64 1) ∧ w = w' := by
  have DOWN := Lib.hid (down_any h)
  have HAS := Lib.hid (has_any h n)
  rw [hd] at DOWN
  clear h hd
  unfold ptr at DOWN HAS ⊢
  rcases hh : s.hasB n with _ | _
  · rw [hh] at HAS
    clear hb hh
    go_enter Try.func18, Try.ntmps18
    go_wp2_with fail
    refine (DOWN.out).mono ?_
    rintro e w1 ⟨rfl, rfl⟩
    go_wp2_with fail
    refine (HAS.out).mono ?_
    rintro e w1 ⟨rfl, rfl⟩
    go_wp2_with fail
    go_ret
    exact ⟨rfl, rfl⟩
  · have h1 : ((len : Int) == 256) = false := by
      rcases hb with hb | hb
      · rw [hh] at hb; cases hb
      · rw [beq_eq_false_iff_ne]; omega
    rw [hh] at HAS
    clear hb hh
    go_enter Try.func18, Try.ntmps18
    go_wp2_with fail
    refine (DOWN.out).mono ?_
    rintro e w1 ⟨rfl, rfl⟩
    go_wp2_with fail
    refine (HAS.out).mono ?_
    rintro e w1 ⟨rfl, rfl⟩
    go_wp2_with fail
    go_ret
    exact ⟨rfl, rfl⟩

set_option maxHeartbeats 4000000 in
set_option maxRecDepth 100000 in
theorem write_lost {a : DA} {s : DS} {w : World} (h : DiskAt w a s) (n : Int) (na : Option Addr) (cap : Nat) (hd : s.down = false) (hh : s.hasB n = true) (ho : s.okB = false) :
    Calls Try.prog 18 #[ptr a, .int .i64 n, .slice na 256 cap] w fun e w' => e = .returned (.int .i64 7) ∧ DiskAt w' a s.spent ∧ Only (fun k => k = a.db) w w' := by
  have DOWN := Lib.hid (down_any h)
  have HAS := Lib.hid (has_any h n)
  have SPEND := Lib.hid (spend_any h)
  rw [hd] at DOWN
  rw [hh] at HAS
  rw [ho] at SPEND
  clear h hd hh ho
  unfold ptr at DOWN HAS SPEND ⊢
  go_enter Try.func18, Try.ntmps18
  go_wp2_with fail
  refine (DOWN.out).mono ?_
  rintro e w1 ⟨rfl, rfl⟩
  go_wp2_with fail
  refine (HAS.out).mono ?_
  rintro e w1 ⟨rfl, rfl⟩
  go_wp2_with fail
  refine (SPEND.out).mono ?_
  rintro e w1 ⟨rfl, hd1, hO1⟩
  have HD1 := Lib.hid hd1
  have HO1 := Lib.hid hO1
  clear hd1 hO1
  go_wp2_with fail
  go_ret
  exact ⟨rfl, HD1.out, HO1.out⟩

theorem wrote_ok {s : DS} {n : Int} {l : List UInt8} (hd : s.down = false) (hh : s.hasB n = true) (hl : l.length = 256) (ho : s.okB = true) :
    s.wrote n l = (0, { s.spent with pend := s.spent.pend ++ [(n, l)], w := wrap64 (s.spent.w + 1), k := s.spent.k + 1 }) := by
  unfold DS.wrote; rw [hd, hh, hl, ho]; rfl

theorem write_any {a : DA} {s : DS} {w : World} (h : DiskAt w a s) (hk : s.k < 1073741824) (n : Int) (hn : wfI n) (na : Option Addr) (cap : Nat) (l : List UInt8) (hin : BytesIn w na l)
    (hna : ∀ x, na = some x → ¬ a.foot x.block) :
    Calls Try.prog 18 #[ptr a, .int .i64 n, .slice na l.length cap] w fun e w' => e = .returned (.int .i64 (s.wrote n l).1) ∧ Became a w (s.wrote n l).2 w' := by
  rcases hd : s.down with _ | _
  · rcases hh : s.hasB n with _ | _
    · rw [show s.wrote n l = (1, s) by unfold DS.wrote; rw [hd, hh]; rfl]
      exact (write_bad h n na cap l.length hd (.inl hh)).mono fun e w' ⟨h1, h2⟩ => ⟨h1, h2 ▸ Became.refl h⟩
    · by_cases hlen : l.length = 256
      · rcases ho : s.okB with _ | _
        · rw [show s.wrote n l = (7, s.spent) by unfold DS.wrote; rw [hd, hh, hlen, ho]; rfl, hlen]
          exact (write_lost h n na cap hd hh ho).mono fun e w' ⟨h1, h2, h3⟩ => ⟨h1, Became.same h2 (h3.mono (fun j e => .inl e))⟩
        · have := write_some h hk n hn na cap l hin hlen hd hh ho hna
          rw [← hlen] at this
          refine this.mono fun e w' ⟨h1, h2⟩ => ⟨?_, h2⟩
          rw [h1, show (s.wrote n l).1 = 0 by unfold DS.wrote; rw [hd, hh, hlen, ho]; rfl]
      · rw [show s.wrote n l = (1, s) by
          unfold DS.wrote
          rw [hd, hh, show (l.length == 256) = false from beq_eq_false_iff_ne.2 hlen]; rfl]
        exact (write_bad h n na cap l.length hd (.inr hlen)).mono fun e w' ⟨h1, h2⟩ => ⟨h1, h2 ▸ Became.refl h⟩
  · rw [show s.wrote n l = (7, s) by unfold DS.wrote; rw [hd]; rfl]
    exact (write_down h n _ hd).mono fun e w' ⟨h1, h2⟩ => ⟨h1, h2 ▸ Became.refl h⟩
end Go.Proofs.Ytaaceaojgbicaaa
