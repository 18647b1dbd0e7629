/- DiskLasts where a script is too long, or too much is kept: the statement asks its first question again; and the whole. -/
import Derived.Test.YtaaceaojgbicaaaLawlasts
namespace Go.Proofs.Ytaaceaojgbicaaa
open Go.ChangeShapes Go.WideShapes Go.Deep Go.RowKit Go.Lib Go.Maps

set_option maxHeartbeats 4000000 in
set_option maxRecDepth 100000 in
theorem lawlasts_long (na : Option Addr) (ca : Nat) (sc : List OpV) (nb : Option Addr) (cb : Nat) (mo : List OpV) (ka : Option Addr) (kc : Nat) (ks : List Bool) (w : World) (hs : ScriptIn w na sc) (hm : ScriptIn w nb mo) (hkl : ks.length ≤ 9223372036854775807) (h : fewB sc = false ∨ fewB mo = false ∨ 1000 < ks.length) :
    Calls Try.prog 4 #[.slice na sc.length ca, .slice nb mo.length cb, .slice ka ks.length kc] w fun e w' => e = .returned (.bool true) ∧ Below w.heap.size w w' := by
  have AWAKE := Lib.hid (fun W => awake_any W)
  have FEW1 := Lib.hid (fun W (h : Below w.heap.size w W) => few_any na ca sc W (hs.below h))
  have FEW2 := Lib.hid (fun W (h : Below w.heap.size w W) => few_any nb cb mo W (hm.below h))
  have HH := Lib.hid h
  clear hs hm h
  go_enter Try.func4, Try.ntmps4
  go_wp2_with fail
  refine (AWAKE.out _).mono ?_
  rintro e w1 ⟨rfl, hb1⟩
  have HB1 := Lib.hid hb1
  clear hb1
  go_wp2_with fail
  refine (FEW1.out _ HB1.out).mono ?_
  rintro e w2 ⟨rfl, rfl⟩
  rcases h1 : fewB sc with _ | _
  · clear h1
    go_wp2_with fail
    refine (AWAKE.out _).mono ?_
    rintro e w2 ⟨rfl, hb2⟩
    have HB2 := Lib.hid (HB1.out.trans (hb2.mono HB1.out.size))
    clear hb2
    go_wp2_with fail
    go_ret
    exact ⟨rfl, HB2.out⟩
  · have H1 := Lib.hid h1
    clear h1
    go_wp2_with fail
    refine (FEW2.out _ HB1.out).mono ?_
    rintro e w2 ⟨rfl, rfl⟩
    rcases h2 : fewB mo with _ | _
    · clear h2
      go_wp2_with fail
      refine (AWAKE.out _).mono ?_
      rintro e w2 ⟨rfl, hb2⟩
      have HB2 := Lib.hid (HB1.out.trans (hb2.mono HB1.out.size))
      clear hb2
      go_wp2_with fail
      go_ret
      exact ⟨rfl, HB2.out⟩
    · have hbig : (1000 : Int) < (ks.length : Int) := by
        rcases HH.out with h | h | h
        · rw [H1.out] at h; cases h
        · rw [h2] at h; cases h
        · omega
      clear h2
      go_wp2_with fail
      refine (AWAKE.out _).mono ?_
      rintro e w2 ⟨rfl, hb2⟩
      have HB2 := Lib.hid (HB1.out.trans (hb2.mono HB1.out.size))
      clear hb2
      go_wp2_with fail
      go_ret
      exact ⟨rfl, HB2.out⟩

theorem lawlasts_any (na : Option Addr) (ca : Nat) (sc : List OpV) (nb : Option Addr) (cb : Nat) (mo : List OpV) (ka : Option Addr) (kc : Nat) (ks : List Bool) (w : World) (hs : ScriptIn w na sc) (hm : ScriptIn w nb mo) (hk : BoolsIn w ka ks) (hkl : ks.length ≤ 9223372036854775807) :
    Calls Try.prog 4 #[.slice na sc.length ca, .slice nb mo.length cb, .slice ka ks.length kc] w fun e w' => e = .returned (.bool true) ∧ Below w.heap.size w w' := by
  by_cases h : fewB sc = true ∧ fewB mo = true ∧ ks.length ≤ 1000
  · exact lawlasts_some na ca sc nb cb mo ka kc ks w hs hm hk h.1 h.2.1 h.2.2
  · refine lawlasts_long na ca sc nb cb mo ka kc ks w hs hm hkl ?_
    rcases h1 : fewB sc with _ | _
    · exact .inl rfl
    · rcases h2 : fewB mo with _ | _
      · exact .inr (.inl rfl)
      · exact .inr (.inr (by
          rcases Nat.lt_or_ge 1000 ks.length with h3 | h3
          · exact h3
          · exact absurd ⟨h1, h2, h3⟩ h))
end Go.Proofs.Ytaaceaojgbicaaa
