/- What the program's check answers, and First and Behind: bytes, or none where the space or the name may not be; a name of at most 1000 bytes. -/
import Derived.Test.YtfakpgfbpngfpaaAppn
namespace Go.Proofs.Ytfakpgfbpngfpaa
open Go.ChangeShapes Go.WideShapes Go.Deep Go.RowKit Go.Lib

/-- Which error a space and a name are answered. -/
def errK (sp : Int) (n : Nat) : Int := if 0 ≤ sp ∧ sp ≤ 255 then (if n ≤ 200 then 0 else 3) else 1

theorem errK_zero {sp : Int} {n : Nat} : errK sp n = 0 ↔ (0 ≤ sp ∧ sp ≤ 255) ∧ n ≤ 200 := by
  unfold errK
  split
  · split
    · exact ⟨fun _ => ⟨‹_›, ‹_›⟩, fun _ => rfl⟩
    · exact ⟨fun h => (by cases h), fun h => absurd h.2 ‹_›⟩
  · exact ⟨fun h => (by cases h), fun h => absurd h.1 ‹_›⟩

set_option maxHeartbeats 1000000 in
theorem check_any (na : Option Addr) (cap n : Nat) (sp : Int) (w : World) (hn : n ≤ 1000) : Calls Try.prog 22 #[.int .i64 sp, .slice na n cap] w fun e w' => e = .returned (.int .i64 (errK sp n)) ∧ w = w' := by
  by_cases h0 : 0 ≤ sp
  · by_cases h1 : sp ≤ 255
    · by_cases h2 : n ≤ 200
      · have e : errK sp n = 0 := errK_zero.2 ⟨⟨h0, h1⟩, h2⟩
        have E := Lib.hid e
        clear e
        go_enter Try.func22, Try.ntmps22
        go_wp2_with fail
        go_ret
        exact ⟨ret_i64 E.out.symm, rfl⟩
      · have e : errK sp n = 3 := by unfold errK; rw [if_pos ⟨h0, h1⟩, if_neg h2]
        have E := Lib.hid e
        have h3 : 200 < n := by omega
        clear e h2
        go_enter Try.func22, Try.ntmps22
        go_wp2_with fail
        go_ret
        exact ⟨ret_i64 E.out.symm, rfl⟩
    · have e : errK sp n = 1 := by unfold errK; rw [if_neg (fun h => h1 h.2)]
      have E := Lib.hid e
      have h3 : 255 < sp := by omega
      clear e h1
      go_enter Try.func22, Try.ntmps22
      go_wp2_with fail
      go_ret
      exact ⟨ret_i64 E.out.symm, rfl⟩
  · have e : errK sp n = 1 := by unfold errK; rw [if_neg (fun h => h0 h.1)]
    have E := Lib.hid e
    have h3 : sp < 0 := by omega
    clear e h0
    go_enter Try.func22, Try.ntmps22
    go_wp2_with fail
    go_ret
    exact ⟨ret_i64 E.out.symm, rfl⟩

/-- The bytes, or none. -/
def frontR (sp : Int) (l : List UInt8) (m : UInt8) : List UInt8 := if errK sp l.length = 0 then frontL sp l m else []

theorem took_none (w : World) : Wrote w.heap.size [] w (.returned (.slice none 0 0)) w := ⟨none, 0, rfl, Took.nil _ _⟩

set_option maxHeartbeats 1000000 in
theorem First_any (na : Option Addr) (cap : Nat) (l : List UInt8) (sp : Int) (w : World) (hin : BytesIn w na l) (hl : l.length ≤ 1000) :
    Calls Try.prog 18 #[.int .i64 sp, .slice na l.length cap] w (Wrote w.heap.size (frontR sp l 0) w) := by
  have CHECK := Lib.hid (check_any na cap l.length sp w hl)
  obtain ⟨E, hE⟩ : ∃ E, errK sp l.length = E := ⟨_, rfl⟩
  unfold frontR
  rw [hE] at CHECK ⊢
  by_cases h0 : E = 0
  · subst h0
    have NAME := Lib.hid (appendName_any na cap l sp 0 w (errK_zero.1 hE).1.1 (errK_zero.1 hE).1.2 hin hl)
    rw [if_pos rfl]
    rw [show (((0 : UInt8).toNat : Nat) : Int) = 0 from rfl] at NAME
    clear hE hin
    go_enter Try.func18, Try.ntmps18
    go_wp2_with fail
    refine (CHECK.out).mono ?_
    rintro e w1 ⟨rfl, rfl⟩
    go_wp2_with fail
    refine (NAME.out).mono ?_
    rintro e w1 ⟨nb, cb, rfl, hT⟩
    have HT := Lib.hid hT
    clear hT
    go_wp2_with fail
    go_ret
    exact ⟨nb, cb, rfl, HT.out⟩
  · rw [if_neg h0]
    have e1 : (E == 0) = false := by rw [beq_eq_false_iff_ne]; exact h0
    clear hE hin h0
    go_enter Try.func18, Try.ntmps18
    go_wp2_with fail
    refine (CHECK.out).mono ?_
    rintro e w1 ⟨rfl, rfl⟩
    go_wp2_with fail
    go_ret
    exact took_none _

set_option maxHeartbeats 1000000 in
theorem Behind_any (na : Option Addr) (cap : Nat) (l : List UInt8) (sp : Int) (w : World) (hin : BytesIn w na l) (hl : l.length ≤ 1000) :
    Calls Try.prog 19 #[.int .i64 sp, .slice na l.length cap] w (Wrote w.heap.size (frontR sp l 1) w) := by
  have CHECK := Lib.hid (check_any na cap l.length sp w hl)
  obtain ⟨E, hE⟩ : ∃ E, errK sp l.length = E := ⟨_, rfl⟩
  unfold frontR
  rw [hE] at CHECK ⊢
  by_cases h0 : E = 0
  · subst h0
    have NAME := Lib.hid (appendName_any na cap l sp 1 w (errK_zero.1 hE).1.1 (errK_zero.1 hE).1.2 hin hl)
    rw [if_pos rfl]
    rw [show (((1 : UInt8).toNat : Nat) : Int) = 1 from rfl] at NAME
    clear hE hin
    go_enter Try.func19, Try.ntmps19
    go_wp2_with fail
    refine (CHECK.out).mono ?_
    rintro e w1 ⟨rfl, rfl⟩
    go_wp2_with fail
    refine (NAME.out).mono ?_
    rintro e w1 ⟨nb, cb, rfl, hT⟩
    have HT := Lib.hid hT
    clear hT
    go_wp2_with fail
    go_ret
    exact ⟨nb, cb, rfl, HT.out⟩
  · rw [if_neg h0]
    have e1 : (E == 0) = false := by rw [beq_eq_false_iff_ne]; exact h0
    clear hE hin h0
    go_enter Try.func19, Try.ntmps19
    go_wp2_with fail
    refine (CHECK.out).mono ?_
    rintro e w1 ⟨rfl, rfl⟩
    go_wp2_with fail
    go_ret
    exact took_none _
end Go.Proofs.Ytfakpgfbpngfpaa
