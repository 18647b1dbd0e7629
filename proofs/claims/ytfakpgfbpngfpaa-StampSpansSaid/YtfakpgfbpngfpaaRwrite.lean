/- What the document's Write answers, and its First and Behind: the chapter's bytes, or none and the error; a name of at most 1000 bytes. -/
import Derived.Test.YtfakpgfbpngfpaaWrite
import Derived.Test.YtfakpgfbpngfpaaRfront
import Derived.Test.YtfakpgfbpngfpaaRbig
import Derived.Test.YtfakpgfbpngfpaaStep
namespace Go.Proofs.Ytfakpgfbpngfpaa
open Go.ChangeShapes Go.WideShapes Go.Deep Go.RowKit Go.Lib

/-- The name's bytes are there, the box, and the number's eight bytes. -/
structure Numbered (w : World) (T : TypeId) (cs : Array Value) (l : List UInt8) (nb : Option Addr) (cb : Nat) (m : Nat) (g o : Nat) (W : World) : Prop where
  named : Named w T cs l nb cb W
  bytes : ∀ j u, (Lib.byteCells (bigL m))[j]? = some u → W.cell? ((⟨g, o, none⟩ : Addr).add j) = some u

theorem Numbered.drew {w W : World} {T : TypeId} {cs : Array Value} {l : List UInt8} {nb : Option Addr} {cb m g o : Nat} (h : Numbered w T cs l nb cb m g o W) : Numbered w T cs l nb cb m g o W.drew := ⟨h.named.drew, h.bytes⟩

theorem Named.later {w W W' : World} {T : TypeId} {cs : Array Value} {l : List UInt8} {nb : Option Addr} {cb : Nat} (h : Named w T cs l nb cb W) (hb : Below W.heap.size W W') : Named w T cs l nb cb W' := ⟨h.boxed.later hb, bytesRow_later h.own hb⟩

theorem BytesIn.cells {w : World} {na : Option Addr} {l : List UInt8} (h : BytesIn w na l) (h0 : l ≠ []) : ∃ g o, na = some ⟨g, o, none⟩ ∧ ∀ j u, (Lib.byteCells l)[j]? = some u → w.cell? ((⟨g, o, none⟩ : Addr).add j) = some u := by
  obtain ⟨g, o, e, hc⟩ := h.resolve_left h0
  refine ⟨g, o, e, fun j u hu => ?_⟩
  have hj : j < l.length := by have := (List.getElem?_eq_some_iff.1 hu).1; simpa [Lib.byteCells] using this
  have := hc j hj
  simp only [Lib.byteCells, List.getElem?_map, List.getElem?_eq_getElem hj, Option.map_some, Option.some.injEq] at hu
  rw [WideShapes.add_plain, this, hu]

theorem Boxed.cells3 {w W W' : World} {T : TypeId} {a b c : Value} (h : Boxed w T #[a, b, c] W) (hb : Below (w.heap.size + 1) W W') : W'.cell? ⟨w.heap.size, 0, none⟩ = some a ∧ W'.cell? ⟨w.heap.size, 1, none⟩ = some b ∧ W'.cell? ⟨w.heap.size, 2, none⟩ = some c :=
  have h' : Boxed w T #[a, b, c] W' := ⟨by rw [hb.block _ (Nat.lt_succ_self _)]; exact h.box, h.below.trans (hb.mono (Nat.le_succ _))⟩
  h'.cells

set_option maxHeartbeats 2000000 in
set_option maxRecDepth 100000 in
theorem rWrite_any (na : Option Addr) (cap : Nat) (l : List UInt8) (sp : Int) (t : Nat) (w : World) (hin : BytesIn w na l) (hl : l.length ≤ 1000) (ht : t < 18446744073709551616) :
    Calls Try.prog 10 #[.agg #[.int .i64 sp, .slice na l.length cap, .int .u64 (t : Int)]] w (WriteGave (stampR sp l t) (errK sp l.length) w) := by
  obtain ⟨E, hE⟩ : ∃ E, errK sp l.length = E := ⟨_, rfl⟩
  unfold stampR
  rw [hE]
  have HB := Lib.hid (Boxed.new w 31 #[.int .i64 sp, .slice na l.length cap, .int .u64 (t : Int)])
  by_cases h0 : E = 0
  · subst h0
    obtain ⟨⟨s0, s1⟩, hl2⟩ := errK_zero.1 hE
    rw [if_pos rfl]
    have hflen := (frontL_length sp l 0).2
    obtain ⟨n, hn⟩ : ∃ n : Nat, n = 18446744073709551615 - t := ⟨_, rfl⟩
    have hi : (18446744073709551615 : Int) - (t : Int) = (n : Int) := by omega
    have hn2 : (n : Int) ≤ 18446744073709551615 := by omega
    have hs0 : frontL sp l 0 ++ bigL n = stampL sp l t := by rw [hn]; rfl
    obtain ⟨F, hF⟩ : ∃ F, frontL sp l 0 = F := ⟨_, rfl⟩
    have FRONT := Lib.hid (fun (W : World) (h : Boxed w 31 #[.int .i64 sp, .slice na l.length cap, .int .u64 (t : Int)] W) => (front_any na cap l sp 0 W s0 s1 (hin.below h.below) hl).mono (R' := fun e w1 => ∃ nb cb, e = .returned (.slice nb F.length cb) ∧ Named w 31 #[.int .i64 sp, .slice na l.length cap, .int .u64 (t : Int)] F nb cb w1)
      (fun e w1 ⟨nb, cb, he, hT⟩ => ⟨nb, cb, by rw [he, hF], h.later hT.below, by
        have := hT.own
        rw [hF] at this
        exact Joins.ownsRow_le this h.lt⟩))
    have BIG := Lib.hid (fun (W : World) (nb : Option Addr) (cb : Nat) (h : Named w 31 #[.int .i64 sp, .slice na l.length cap, .int .u64 (t : Int)] F nb cb W) => (rBig_any n W (by omega)).mono (R' := fun e w1 => ∃ g o cg, e = .returned (.slice (some ⟨g, o, none⟩) 8 cg) ∧ Numbered w 31 #[.int .i64 sp, .slice na l.length cap, .int .u64 (t : Int)] F nb cb n g o w1)
      (fun e w1 ⟨ng, cg, he, hb, hq⟩ => by
        obtain ⟨g, o, rfl, hc⟩ := hb.cells (by intro e; have := congrArg List.length e; rw [bigL_length] at this; cases this)
        exact ⟨g, o, cg, by rw [he, bigL_length], h.later hq, hc⟩))
    rw [show (((0 : UInt8).toNat : Nat) : Int) = 0 from rfl] at FRONT
    have HF8 : Hid (F.length + (bigL n).length ≤ 140737488355328) := Lib.hid (by rw [bigL_length, ← hF]; omega)
    obtain ⟨S, hS⟩ : ∃ S, stampL sp l t = S := ⟨_, rfl⟩
    rw [hF, hS] at hs0
    rw [hS]
    have HS := Lib.hid hs0
    have H200 : ¬ (200 : Int) < (l.length : Int) := by omega
    have hwr0 : Hid (IntKind.u64.wrap (n : Int) = (n : Int)) := Lib.hid (by show (n : Int) % 18446744073709551616 = _; omega)
    clear hE hin hF hS hflen hs0 hn hl2
    go_enter Try.func10, Try.ntmps10
    go_wp2_with fail
    generalize w.alloc (.cells #[.int .i64 sp, .slice na l.length cap, .int .u64 (t : Int)] 31) = W0 at *
    obtain ⟨a0, a1, a2⟩ := HB.out.cells
    go_wp2_with fail
    obtain ⟨b0, b1, b2⟩ := HB.out.drew.cells
    have hwr : IntKind.u64.wrap (n : Int) = (n : Int) := hwr0.out
    go_region_held_law (fun W => W.cell? ⟨w.heap.size, 0, none⟩ = some (.int .i64 sp) ∧ W.cell? ⟨w.heap.size, 1, none⟩ = some (.slice na l.length cap) ∧ W.cell? ⟨w.heap.size, 2, none⟩ = some (.int .u64 (t : Int)))
      (first | (with_reducible exact ⟨b0, b1, b2⟩) | (with_reducible exact ⟨m0, m1, m2⟩) | (with_reducible exact ⟨n0, n1, n2⟩) | (with_reducible exact ⟨q0, q1, q2⟩) | (trace_state; fail))
      (first
        | (go_at_call 25; refine (FRONT.out _ ?_).mono ?_; exact HB.out.drew; rintro e w1 ⟨nb, cb, rfl, hN⟩; obtain ⟨m0, m1, m2⟩ := hN.boxed.cells; have HN := Lib.hid hN; clear hN)
        | (go_at_call 26; refine (BIG.out _ _ _ HN.out).mono ?_; rintro e w2 ⟨g, o, cg, rfl, hD⟩; obtain ⟨n0, n1, n2⟩ := hD.named.boxed.cells; have HD := Lib.hid hD; clear hD)
        | (refine step_app (W := w2) rfl _ _ rfl (Took.refl HD.out.named.own) HD.out.named.boxed.lt rfl (bigL n) ⟨g, o, none⟩ 8 cg rfl rfl (by decide) HD.out.bytes HF8.out ?_; intro nd cd w3 hT; obtain ⟨q0, q1, q2⟩ := (HD.out.named.boxed.cells3 hT.below); have HT3 := Lib.hid hT; clear hT))
    have HBX : Hid (Below w.heap.size w w3) := Lib.hid (HD.out.named.boxed.below.trans (HT3.out.below.mono (Nat.le_succ _)))
    have hin3 := BytesIn.of HT3.out.own
    rw [HS.out] at hin3
    have hcap3 := row_cap HT3.out.own
    rw [HS.out] at hcap3
    have HCAP := Lib.hid hcap3
    have HI3 := Lib.hid hin3
    clear hin3 hcap3
    go_wp2_with fail
    go_ret2
    exact ⟨some ⟨nd, 0, none⟩, cd, by rw [← HS.out]; simp [bigL_length], HI3.out, HCAP.out, HBX.out⟩
  · rw [if_neg h0]
    by_cases h1 : 0 ≤ sp
    · by_cases h2 : sp ≤ 255
      · have h3 : (200 : Int) < (l.length : Int) := by
          rcases Nat.lt_or_ge 200 l.length with h | h
          · omega
          · exact absurd (hE.symm.trans (errK_zero.2 ⟨⟨h1, h2⟩, h⟩)) h0
        have e3 : E = 3 := by rw [← hE]; unfold errK; rw [if_pos ⟨h1, h2⟩, if_neg (by omega)]
        subst e3
        clear hE h0 hin
        go_enter Try.func10, Try.ntmps10
        go_wp2_with fail
        generalize w.alloc (.cells #[.int .i64 sp, .slice na l.length cap, .int .u64 (t : Int)] 31) = W0 at *
        obtain ⟨a0, a1, a2⟩ := HB.out.cells
        go_wp2_with fail
        go_ret2
        exact ⟨none, 0, rfl, .inl rfl, ⟨Nat.le_refl _, by omega⟩, HB.out.below⟩
      · have e3 : E = 1 := by rw [← hE]; unfold errK; rw [if_neg (fun h => h2 h.2)]
        have h3 : 255 < sp := by omega
        subst e3
        clear hE h0 hin h2
        go_enter Try.func10, Try.ntmps10
        go_wp2_with fail
        generalize w.alloc (.cells #[.int .i64 sp, .slice na l.length cap, .int .u64 (t : Int)] 31) = W0 at *
        obtain ⟨a0, a1, a2⟩ := HB.out.cells
        go_wp2_with fail
        go_ret2
        exact ⟨none, 0, rfl, .inl rfl, ⟨Nat.le_refl _, by omega⟩, HB.out.below⟩
    · have e3 : E = 1 := by rw [← hE]; unfold errK; rw [if_neg (fun h => h1 h.1)]
      have h3 : sp < 0 := by omega
      subst e3
      clear hE h0 hin h1
      go_enter Try.func10, Try.ntmps10
      go_wp2_with fail
      generalize w.alloc (.cells #[.int .i64 sp, .slice na l.length cap, .int .u64 (t : Int)] 31) = W0 at *
      obtain ⟨a0, a1, a2⟩ := HB.out.cells
      go_wp2_with fail
      go_ret2
      exact ⟨none, 0, rfl, .inl rfl, ⟨Nat.le_refl _, by omega⟩, HB.out.below⟩

set_option maxHeartbeats 2000000 in
set_option maxRecDepth 100000 in
theorem rFirst_any (na : Option Addr) (cap : Nat) (l : List UInt8) (sp : Int) (w : World) (hin : BytesIn w na l) (hl : l.length ≤ 1000) :
    Calls Try.prog 20 #[.int .i64 sp, .slice na l.length cap] w (Gave (frontR sp l 0) w) := by
  have CHECK := Lib.hid (rWrite_any na cap l sp 0 w hin hl (by decide))
  obtain ⟨E, hE⟩ : ∃ E, errK sp l.length = E := ⟨_, rfl⟩
  unfold frontR
  unfold WriteGave at CHECK
  rw [hE] at CHECK ⊢
  by_cases h0 : E = 0
  · subst h0
    have NAME := Lib.hid (fun W (h : Below w.heap.size w W) => front_any na cap l sp 0 W (errK_zero.1 hE).1.1 (errK_zero.1 hE).1.2 (hin.below h) hl)
    rw [if_pos rfl]
    rw [show (((0 : UInt8).toNat : Nat) : Int) = 0 from rfl] at NAME
    clear hE hin
    go_enter Try.func20, Try.ntmps20
    go_wp2_with fail
    refine (CHECK.out).mono ?_
    rintro e w1 ⟨n1, c1, rfl, hi1, -, hb1⟩
    clear hi1
    go_wp2_with fail
    refine (NAME.out _ hb1).mono ?_
    rintro e w2 ⟨nb, cb, rfl, hT⟩
    have HI := Lib.hid (BytesIn.of hT.own)
    have HB := Lib.hid (hb1.trans (hT.below.mono hb1.size))
    clear hT
    go_wp2_with fail
    go_ret
    exact ⟨nb, cb, rfl, HI.out, HB.out⟩
  · rw [if_neg h0]
    have e1 : (E == 0) = false := by rw [beq_eq_false_iff_ne]; exact h0
    clear hE hin h0
    go_enter Try.func20, Try.ntmps20
    go_wp2_with fail
    refine (CHECK.out).mono ?_
    rintro e w1 ⟨n1, c1, rfl, hi1, -, hb1⟩
    clear hi1
    go_wp2_with fail
    go_ret
    exact ⟨none, 0, rfl, .inl rfl, hb1⟩

set_option maxHeartbeats 2000000 in
set_option maxRecDepth 100000 in
theorem rBehind_any (na : Option Addr) (cap : Nat) (l : List UInt8) (sp : Int) (w : World) (hin : BytesIn w na l) (hl : l.length ≤ 1000) :
    Calls Try.prog 21 #[.int .i64 sp, .slice na l.length cap] w (Gave (frontR sp l 1) w) := by
  have CHECK := Lib.hid (rWrite_any na cap l sp 0 w hin hl (by decide))
  obtain ⟨E, hE⟩ : ∃ E, errK sp l.length = E := ⟨_, rfl⟩
  unfold frontR
  unfold WriteGave at CHECK
  rw [hE] at CHECK ⊢
  by_cases h0 : E = 0
  · subst h0
    have NAME := Lib.hid (fun W (h : Below w.heap.size w W) => front_any na cap l sp 1 W (errK_zero.1 hE).1.1 (errK_zero.1 hE).1.2 (hin.below h) hl)
    rw [if_pos rfl]
    rw [show (((1 : UInt8).toNat : Nat) : Int) = 1 from rfl] at NAME
    clear hE hin
    go_enter Try.func21, Try.ntmps21
    go_wp2_with fail
    refine (CHECK.out).mono ?_
    rintro e w1 ⟨n1, c1, rfl, hi1, -, hb1⟩
    clear hi1
    go_wp2_with fail
    refine (NAME.out _ hb1).mono ?_
    rintro e w2 ⟨nb, cb, rfl, hT⟩
    have HI := Lib.hid (BytesIn.of hT.own)
    have HB := Lib.hid (hb1.trans (hT.below.mono hb1.size))
    clear hT
    go_wp2_with fail
    go_ret
    exact ⟨nb, cb, rfl, HI.out, HB.out⟩
  · rw [if_neg h0]
    have e1 : (E == 0) = false := by rw [beq_eq_false_iff_ne]; exact h0
    clear hE hin h0
    go_enter Try.func21, Try.ntmps21
    go_wp2_with fail
    refine (CHECK.out).mono ?_
    rintro e w1 ⟨n1, c1, rfl, hi1, -, hb1⟩
    clear hi1
    go_wp2_with fail
    go_ret
    exact ⟨none, 0, rfl, .inl rfl, hb1⟩

end Go.Proofs.Ytfakpgfbpngfpaa
