/- What the program's Write answers: the chapter's bytes, or none and the error; a name of at most 1000 bytes. -/
import Derived.Test.YtfakpgfbpngfpaaFirst
import Derived.Test.YtfakpgfbpngfpaaAppt
import Derived.Lib.SmallJoins
import Derived.Deep.RegionHeldLaw
namespace Go.Proofs.Ytfakpgfbpngfpaa
open Go.ChangeShapes Go.WideShapes Go.Deep Go.RowKit Go.Lib

/-- A key's box: the world has it, and since w nothing older has turned. -/
structure Boxed (w : World) (T : TypeId) (cs : Array Value) (W : World) : Prop where
  box : W.heap[w.heap.size]? = some (.cells cs T (0, 0))
  below : Below w.heap.size w W

theorem Boxed.new (w : World) (T : TypeId) (cs : Array Value) : Boxed w T cs (w.alloc (.cells cs T)) := ⟨heap_alloc_new w _, (Below.refl _ _).alloc (Nat.le_refl _) _⟩
theorem Boxed.lt {w W : World} {T : TypeId} {cs : Array Value} (h : Boxed w T cs W) : w.heap.size < W.heap.size := by
  rcases Nat.lt_or_ge w.heap.size W.heap.size with h' | h'
  · exact h'
  · have := h.box; simp [Array.getElem?_eq_none h'] at this
theorem Boxed.later {w W W' : World} {T : TypeId} {cs : Array Value} (h : Boxed w T cs W) (hb : Below W.heap.size W W') : Boxed w T cs W' :=
  ⟨box_later h.box hb, h.below.trans (hb.mono h.below.size)⟩
theorem Boxed.drew {w W : World} {T : TypeId} {cs : Array Value} (h : Boxed w T cs W) : Boxed w T cs W.drew := ⟨h.box, h.below.drew⟩
theorem Boxed.cells {w W : World} {T : TypeId} {a b c : Value} (h : Boxed w T #[a, b, c] W) : W.cell? ⟨w.heap.size, 0, none⟩ = some a ∧ W.cell? ⟨w.heap.size, 1, none⟩ = some b ∧ W.cell? ⟨w.heap.size, 2, none⟩ = some c := by
  refine ⟨?_, ?_, ?_⟩ <;> rw [Lib.cell_of_heap h.box] <;> rfl

/-- The name's bytes are there, and the box. -/
structure Named (w : World) (T : TypeId) (cs : Array Value) (l : List UInt8) (nb : Option Addr) (cb : Nat) (W : World) : Prop where
  boxed : Boxed w T cs W
  own : W.ownsRow (w.heap.size + 1) 5 1 (.slice nb l.length cb) l.length (Lib.byteCells l)

theorem Named.drew {w W : World} {T : TypeId} {cs : Array Value} {l : List UInt8} {nb : Option Addr} {cb : Nat} (h : Named w T cs l nb cb W) : Named w T cs l nb cb W.drew := ⟨h.boxed.drew, h.own⟩

theorem row_cap {w : World} {B : Nat} {na : Option Addr} {n cap : Nat} {xs : List Value} (h : w.ownsRow B 5 1 (.slice na n cap) n xs) : n ≤ cap ∧ cap ≤ 9223372036854775807 := by
  rcases h.2 with ⟨e, h0⟩ | ⟨g, cap', cur, e, _, _, h1, h2, _⟩
  · cases e; exact ⟨Nat.le_refl _, by omega⟩
  · cases e; exact ⟨h1, by unfold maxLen at h2; omega⟩

/-- The bytes, or none. -/
def stampR (sp : Int) (l : List UInt8) (t : Nat) : List UInt8 := if errK sp l.length = 0 then stampL sp l t else []

/-- What is answered: the bytes and the error, in new memory. -/
def WriteGave (l : List UInt8) (E : Int) (w : World) : Ending → World → Prop := fun e w' => ∃ na cap, e = .returned (.tuple #[.slice na l.length cap, .int .i64 E]) ∧ BytesIn w' na l ∧ (l.length ≤ cap ∧ cap ≤ 9223372036854775807) ∧ Below w.heap.size w w'

set_option maxHeartbeats 4000000 in
set_option maxRecDepth 100000 in
theorem Write_any (na : Option Addr) (cap : Nat) (l : List UInt8) (sp : Int) (t : Nat) (w : World) (hin : BytesIn w na l) (hl : l.length ≤ 1000) (ht : t < 18446744073709551616) :
    Calls Try.prog 9 #[.agg #[.int .i64 sp, .slice na l.length cap, .int .u64 (t : Int)]] w (WriteGave (stampR sp l t) (errK sp l.length) w) := by
  have CHECK := Lib.hid (fun W => check_any na cap l.length sp W hl)
  obtain ⟨E, hE⟩ : ∃ E, errK sp l.length = E := ⟨_, rfl⟩
  unfold stampR
  rw [hE] at CHECK ⊢
  have HB := Lib.hid (Boxed.new w 25 #[.int .i64 sp, .slice na l.length cap, .int .u64 (t : Int)])
  by_cases h0 : E = 0
  · subst h0
    obtain ⟨⟨s0, s1⟩, -⟩ := errK_zero.1 hE
    rw [if_pos rfl]
    have hflen := (frontL_length sp l 0).2
    obtain ⟨F, hF⟩ : ∃ F, frontL sp l 0 = F := ⟨_, rfl⟩
    have NAME := Lib.hid (fun (W : World) (h : Boxed w 25 #[.int .i64 sp, .slice na l.length cap, .int .u64 (t : Int)] W) => (appendName_any na cap l sp 0 W s0 s1 (hin.below h.below) hl).mono (R' := fun e w1 => ∃ nb cb, e = .returned (.slice nb F.length cb) ∧ Named w 25 #[.int .i64 sp, .slice na l.length cap, .int .u64 (t : Int)] F nb cb w1)
      (fun e w1 ⟨nb, cb, he, hT⟩ => ⟨nb, cb, by rw [he, hF], h.later hT.below, by
        have := hT.own
        rw [hF] at this
        exact Joins.ownsRow_le this h.lt⟩))
    have TIME := Lib.hid (fun (W : World) (nb : Option Addr) (cb : Nat) (h : Named w 25 #[.int .i64 sp, .slice na l.length cap, .int .u64 (t : Int)] F nb cb W) => (appendTime_any (w.heap.size + 1) nb cb F t W h.own h.boxed.lt ht (by rw [← hF]; omega)).mono (R' := fun e w1 => ∃ nd cd, e = .returned (.slice nd (stampL sp l t).length cd) ∧ BytesIn w1 nd (stampL sp l t) ∧ ((stampL sp l t).length ≤ cd ∧ cd ≤ 9223372036854775807) ∧ Boxed w 25 #[.int .i64 sp, .slice na l.length cap, .int .u64 (t : Int)] w1)
      (fun e w1 ⟨nd, cd, he, hT⟩ => by
        have hs : F ++ bigL (18446744073709551615 - t) = stampL sp l t := by rw [← hF]; rfl
        rw [hs] at he hT
        exact ⟨nd, cd, he, BytesIn.of hT.own, row_cap hT.own, ⟨by rw [hT.below.block _ (Nat.lt_succ_self _)]; exact h.boxed.box, h.boxed.below.trans (hT.below.mono (Nat.le_succ _))⟩⟩))
    rw [show (((0 : UInt8).toNat : Nat) : Int) = 0 from rfl] at NAME
    obtain ⟨S, hS⟩ : ∃ S, stampL sp l t = S := ⟨_, rfl⟩
    rw [hS] at TIME ⊢
    clear hE hin hF hS hflen
    go_enter Try.func9, Try.ntmps9
    go_wp2_with fail
    generalize w.alloc (.cells #[.int .i64 sp, .slice na l.length cap, .int .u64 (t : Int)] 25) = W0 at *
    obtain ⟨a0, a1, a2⟩ := HB.out.cells
    go_wp2_with fail
    refine (CHECK.out _).mono ?_
    rintro e w1 ⟨rfl, rfl⟩
    go_wp2_with fail
    obtain ⟨b0, b1, b2⟩ := HB.out.drew.cells
    go_region_held_law (fun W => W.cell? ⟨w.heap.size, 0, none⟩ = some (.int .i64 sp) ∧ W.cell? ⟨w.heap.size, 1, none⟩ = some (.slice na l.length cap) ∧ W.cell? ⟨w.heap.size, 2, none⟩ = some (.int .u64 (t : Int)))
      (first | (with_reducible exact ⟨b0, b1, b2⟩) | (with_reducible exact ⟨m0, m1, m2⟩) | (with_reducible exact ⟨n0, n1, n2⟩))
      (first
        | (go_at_call 24; refine (NAME.out _ HB.out.drew).mono ?_; rintro e w1 ⟨nb, cb, rfl, hN⟩; obtain ⟨m0, m1, m2⟩ := hN.boxed.cells; have HN := Lib.hid hN; clear hN)
        | (go_at_call 23; refine (TIME.out _ _ _ HN.out).mono ?_; rintro e w2 ⟨nd, cd, rfl, hD, hb3, hbx⟩; obtain ⟨n0, n1, n2⟩ := hbx.cells; have HD := Lib.hid (And.intro hD (And.intro hb3 hbx.below)); clear hD hb3 hbx))
    all_goals
      go_wp2_with fail
      go_ret2
      exact ⟨nd, cd, rfl, HD.out⟩
  · rw [if_neg h0]
    have e1 : (E == 0) = false := by rw [beq_eq_false_iff_ne]; exact h0
    clear hE hin h0
    go_enter Try.func9, Try.ntmps9
    go_wp2_with fail
    generalize w.alloc (.cells #[.int .i64 sp, .slice na l.length cap, .int .u64 (t : Int)] 25) = W0 at *
    obtain ⟨a0, a1, a2⟩ := HB.out.cells
    go_wp2_with fail
    refine (CHECK.out _).mono ?_
    rintro e w1 ⟨rfl, rfl⟩
    go_wp2_with fail
    go_ret2
    exact ⟨none, 0, rfl, .inl rfl, ⟨Nat.le_refl _, by omega⟩, HB.out.below⟩
end Go.Proofs.Ytfakpgfbpngfpaa
