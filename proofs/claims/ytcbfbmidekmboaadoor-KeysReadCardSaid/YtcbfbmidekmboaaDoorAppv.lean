/- What the program appends for a value: its key; under Go's own limit of length. -/
import Derived.Test.YtcbfbmidekmboaaDoorAppm
import Derived.Test.YtcbfbmidekmboaaDoorAppo
import Derived.Test.YtcbfbmidekmboaaDoorAppn
import Derived.Test.YtcbfbmidekmboaaDoorRdn
namespace Go.Proofs.YtcbfbmidekmboaaDoor
open Go.ChangeShapes Go.WideShapes Go.Deep Go.RowKit Go.Lib

set_option maxHeartbeats 4000000 in
set_option maxRecDepth 100000 in
theorem app_plain (k n : Int) (s : ByteArray) (sa : Option Addr) (sc : Nat) (ns : List ByteArray) (xa : Option Addr) (xc : Nat) (xs : List AV) (w : World) (B : Nat) (na : Option Addr) (cap : Nat) (l : List UInt8) (c : UInt8) (hk : (k = 0 ∧ c = 1) ∨ (k = 1 ∧ c = 2) ∨ (k = 2 ∧ c = 3))
    (hB : B ≤ w.heap.size) (hown : w.ownsRow B 5 1 (.slice na l.length cap) l.length (Lib.byteCells l)) (hlen : l.length + 1 ≤ 140737488355328) :
    Calls Tryd.prog 24 #[.slice na l.length cap, (AV.mk k n s sa sc ns xa xc xs).val] w (Wrote B (l ++ [c]) w) := by
  have H0 := Lib.hid (fun o => (Took.refl hown).alloc hB o)
  have HB := Lib.hid hB
  have HL := Lib.hid hlen
  clear hlen hown hB
  simp only [AV.val, AV.row]
  rcases hk with ⟨rfl, rfl⟩ | ⟨rfl, rfl⟩ | ⟨rfl, rfl⟩
  all_goals
    go_enter Tryd.func24, Tryd.ntmps24
    go_wp2_with (at_builtin; first | (refine wpList_lit2 rfl _ _ rfl (Took.refl (H0.out _).own) HB.out rfl [1] _ 1 rfl rfl rfl (by have := HL.out; simpa using this) ?_) | (refine wpList_lit2 rfl _ _ rfl (Took.refl (H0.out _).own) HB.out rfl [2] _ 1 rfl rfl rfl (by have := HL.out; simpa using this) ?_) | (refine wpList_lit2 rfl _ _ rfl (Took.refl (H0.out _).own) HB.out rfl [3] _ 1 rfl rfl rfl (by have := HL.out; simpa using this) ?_))
    intro nb cb W hW
    have hc0 := (box_cells (hW.box (heap_alloc_new w _) (by intro c fz h; cases h))).1
    go_wp2_with fail
    go_ret
    exact ⟨nb, cb, by simp, by simpa using (H0.out _).next hW⟩

set_option maxHeartbeats 4000000 in
set_option maxRecDepth 100000 in
theorem app_num (n : Int) (s : ByteArray) (sa : Option Addr) (sc : Nat) (ns : List ByteArray) (xa : Option Addr) (xc : Nat) (xs : List AV) (w : World) (B : Nat) (na : Option Addr) (cap : Nat) (l : List UInt8) (h0 : -9223372036854775808 ≤ n) (h1 : n < 9223372036854775808)
    (hB : B ≤ w.heap.size) (hown : w.ownsRow B 5 1 (.slice na l.length cap) l.length (Lib.byteCells l)) (hlen : l.length + 9 ≤ 140737488355328) :
    Calls Tryd.prog 24 #[.slice na l.length cap, (AV.mk 3 n s sa sc ns xa xc xs).val] w (Wrote B (l ++ (4 :: bigL (n + 9223372036854775808).toNat)) w) := by
  have H0 := Lib.hid (fun o => (Took.refl hown).alloc hB o)
  have HB := Lib.hid hB
  have HL := Lib.hid hlen
  obtain ⟨m, hm⟩ : ∃ m : Nat, (n + 9223372036854775808).toNat = m := ⟨_, rfl⟩
  have hmi : (m : Int) = n + 9223372036854775808 := by omega
  have hwrap : IntKind.u64.wrap (IntKind.u64.wrap n + 9223372036854775808) = (m : Int) := by
    rw [hmi]
    show (n % 18446744073709551616 + 9223372036854775808) % 18446744073709551616 = _
    omega
  rw [hm]
  have CALL := Lib.hid (fun (nb : Option Addr) (cb : Nat) (W : World) (hW : Took B (.slice nb (l ++ [4]).length cb) (l ++ [4]) w W) => appNumber_any B nb cb (l ++ [4]) m W hW.own (hW.size HB.out) (by omega) (by have := HL.out; simp; omega))
  clear hlen hown hB hm hmi h0 h1
  simp only [List.length_append, List.length_cons, List.length_nil, Nat.zero_add] at CALL
  simp only [AV.val, AV.row]
  go_enter Tryd.func24, Tryd.ntmps24
  go_wp2_with (at_builtin; refine wpList_lit2 rfl _ _ rfl (Took.refl (H0.out _).own) HB.out rfl [4] _ 1 rfl rfl rfl (by have := HL.out; simp; omega) ?_)
  intro nb cb W hW
  obtain ⟨hc0, hc1, _⟩ := box_cells (hW.box (heap_alloc_new w _) (by intro c fz h; cases h))
  have HW := Lib.hid ((H0.out _).next hW)
  clear hW
  go_wp2_with fail
  refine (CALL.out nb cb W HW.out).mono ?_
  rintro e W2 ⟨nc, cc, rfl, hW2⟩
  have HW2 := Lib.hid (HW.out.next hW2)
  clear hW2
  go_wp2_with fail
  go_ret
  exact ⟨nc, cc, by simp, by have := HW2.out; simpa using this⟩

set_option maxHeartbeats 4000000 in
set_option maxRecDepth 100000 in
theorem app_text (n : Int) (s : ByteArray) (sa : Option Addr) (sc : Nat) (ns : List ByteArray) (xa : Option Addr) (xc : Nat) (xs : List AV) (w : World) (B : Nat) (na : Option Addr) (cap : Nat) (l : List UInt8) (hs : s.size ≤ maxLen)
    (hB : B ≤ w.heap.size) (hown : w.ownsRow B 5 1 (.slice na l.length cap) l.length (Lib.byteCells l)) (hlen : l.length + ((textL s.data.toList).length + 1) ≤ 140737488355328) :
    Calls Tryd.prog 24 #[.slice na l.length cap, (AV.mk 4 n s sa sc ns xa xc xs).val] w (Wrote B (l ++ (5 :: textL s.data.toList)) w) := by
  have H0 := Lib.hid (fun o => (Took.refl hown).alloc hB o)
  have HB := Lib.hid hB
  have HL := Lib.hid hlen
  have CALL := Lib.hid (fun (nb : Option Addr) (cb : Nat) (W : World) (hW : Took B (.slice nb (l ++ [5]).length cb) (l ++ [5]) w W) => appText_any B nb cb (l ++ [5]) s W hW.own (hW.size HB.out) hs (by have := HL.out; simp; omega))
  obtain ⟨R, hR⟩ : ∃ R, textL s.data.toList = R := ⟨_, rfl⟩
  rw [hR] at CALL HL ⊢
  clear hlen hown hB hs hR
  simp only [List.length_append, List.length_cons, List.length_nil, Nat.zero_add] at CALL
  simp only [AV.val, AV.row]
  go_enter Tryd.func24, Tryd.ntmps24
  go_wp2_with (at_builtin; refine wpList_lit2 rfl _ _ rfl (Took.refl (H0.out _).own) HB.out rfl [5] _ 1 rfl rfl rfl (by have := HL.out; simp; omega) ?_)
  intro nb cb W hW
  obtain ⟨hc0, _, hc2, _⟩ := box_cells (hW.box (heap_alloc_new w _) (by intro c fz h; cases h))
  have HW := Lib.hid ((H0.out _).next hW)
  clear hW
  go_wp2_with fail
  refine (CALL.out nb cb W HW.out).mono ?_
  rintro e W2 ⟨nc, cc, rfl, hW2⟩
  have HW2 := Lib.hid (HW.out.next hW2)
  clear hW2
  go_wp2_with fail
  go_ret
  exact ⟨nc, cc, by simp, by have := HW2.out; simpa using this⟩

set_option maxHeartbeats 4000000 in
set_option maxRecDepth 100000 in
theorem app_list (k n : Int) (s : ByteArray) (sa : Option Addr) (sc : Nat) (ns : List ByteArray) (xa : Option Addr) (xc : Nat) (xs : List AV) (w : World) (B : Nat) (na : Option Addr) (cap : Nat) (l R : List UInt8) (c : UInt8) (hk : (k = 5 ∧ c = 6) ∨ (k = 6 ∧ c = 7))
    (hB : B ≤ w.heap.size) (hown : w.ownsRow B 5 1 (.slice na l.length cap) l.length (Lib.byteCells l)) (hlen : l.length + (R.length + 1) ≤ 140737488355328)
    (CALL : Hid (∀ (nb : Option Addr) (cb : Nat) (W : World), Took B (.slice nb (l ++ [c]).length cb) (l ++ [c]) w W → Calls Tryd.prog 37 #[.slice nb (l ++ [c]).length cb, (AV.mk k n s sa sc ns xa xc xs).val] W (Wrote B (l ++ [c] ++ R) W))) :
    Calls Tryd.prog 24 #[.slice na l.length cap, (AV.mk k n s sa sc ns xa xc xs).val] w (Wrote B (l ++ (c :: R)) w) := by
  have H0 := Lib.hid (fun o => (Took.refl hown).alloc hB o)
  have HB := Lib.hid hB
  have HL := Lib.hid hlen
  clear hlen hown hB
  simp only [List.length_append, List.length_cons, List.length_nil, Nat.zero_add] at CALL
  simp only [AV.val, AV.row] at CALL ⊢
  rcases hk with ⟨rfl, rfl⟩ | ⟨rfl, rfl⟩
  all_goals
    go_enter Tryd.func24, Tryd.ntmps24
    go_wp2_with (at_builtin; first | (refine wpList_lit2 rfl _ _ rfl (Took.refl (H0.out _).own) HB.out rfl [6] _ 1 rfl rfl rfl (by have := HL.out; simp; omega) ?_) | (refine wpList_lit2 rfl _ _ rfl (Took.refl (H0.out _).own) HB.out rfl [7] _ 1 rfl rfl rfl (by have := HL.out; simp; omega) ?_))
    intro nb cb W hW
    obtain ⟨hc0, hc1, hc2, hc3, hc4⟩ := box_cells (hW.box (heap_alloc_new w _) (by intro c fz h; cases h))
    have HW := Lib.hid ((H0.out _).next hW)
    clear hW
    go_wp2_with fail
    refine (CALL.out nb cb W HW.out).mono ?_
    rintro e W2 ⟨nc, cc, rfl, hW2⟩
    have HW2 := Lib.hid (HW.out.next hW2)
    clear hW2
    go_wp2_with fail
    go_ret
    exact ⟨nc, cc, by simp, by have := HW2.out; simpa using this⟩

theorem app_any : ∀ t : AV, AppAt t := by
  intro t
  induction t using AV.ind with
  | h k n s na nc ns xa xc xs ih =>
    intro w0 w B va cap l lv hin hb hB0 hB hown hf hlen
    have hp := AV.parts hf
    rw [AV.key] at hlen ⊢
    by_cases h012 : k = 0 ∨ k = 1 ∨ k = 2
    · rw [if_neg (by omega), if_neg (by omega), if_neg (by omega)] at hlen ⊢
      rcases h012 with rfl | rfl | rfl
      · exact app_plain 0 n s na nc ns xa xc xs w B va cap l _ (.inl ⟨rfl, rfl⟩) hB hown (by simpa using hlen)
      · exact app_plain 1 n s na nc ns xa xc xs w B va cap l _ (.inr (.inl ⟨rfl, rfl⟩)) hB hown (by simpa using hlen)
      · exact app_plain 2 n s na nc ns xa xc xs w B va cap l _ (.inr (.inr ⟨rfl, rfl⟩)) hB hown (by simpa using hlen)
    by_cases h3 : k = 3
    · subst h3
      rw [if_pos rfl] at hlen ⊢
      have := hin.num
      exact app_num n s na nc ns xa xc xs w B va cap l this.1 this.2 hB hown (by simpa [bigL_length] using hlen)
    by_cases h4 : k = 4
    · subst h4
      rw [if_neg (by omega), if_pos rfl] at hlen ⊢
      exact app_text n s na nc ns xa xc xs w B va cap l hin.text hB hown (by simpa using hlen)
    by_cases h5 : k = 5
    · subst h5
      rw [if_neg (by omega), if_neg (by omega), if_pos (.inl rfl)] at hlen ⊢
      have ha : ∃ m, AV.allJ xs m = true := by
        rcases hp with ⟨hk, _⟩ | ⟨hk, _⟩ | ⟨hk, _⟩ | ⟨_, _, _, _, h⟩ | ⟨hk, _⟩
        · omega
        · omega
        · omega
        · exact ⟨_, h⟩
        · omega
      obtain ⟨m, ha⟩ := ha
      refine app_list 5 n s na nc ns xa xc xs w B va cap l _ _ (.inl ⟨rfl, rfl⟩) hB hown (by simpa using hlen) (Lib.hid fun nb cb W hW => ?_)
      exact membersArr_any n s na nc ns xa xc xs w0 W B nb cb _ m hin.its hin.lens.2.2 (hb.trans (hW.below.mono hB0)) hB0 (hW.size hB) hW.own ha (by simp at hlen ⊢; omega) (Lib.hid ih)
    by_cases h6 : k = 6
    · subst h6
      rw [if_neg (by omega), if_neg (by omega), if_pos (.inr rfl)] at hlen ⊢
      have ha : ns.length = xs.length ∧ ∃ m, AV.allJ xs m = true := by
        rcases hp with ⟨hk, _⟩ | ⟨hk, _⟩ | ⟨hk, _⟩ | ⟨hk, _⟩ | ⟨_, _, _, hl, h⟩
        · omega
        · omega
        · omega
        · omega
        · exact ⟨hl, _, h⟩
      obtain ⟨hl, m, ha⟩ := ha
      refine app_list 6 n s na nc ns xa xc xs w B va cap l _ _ (.inr ⟨rfl, rfl⟩) hB hown (by simpa using hlen) (Lib.hid fun nb cb W hW => ?_)
      exact membersObj_any n s na nc ns xa xc xs w0 W B nb cb _ m hin.its hin.names.1 hin.names.2 hl hin.lens.2.2 (hb.trans (hW.below.mono hB0)) hB0 (hW.size hB) hW.own ha (by simp at hlen ⊢; omega) (Lib.hid ih)
    · rcases hp with ⟨hk, _⟩ | ⟨hk, _⟩ | ⟨hk, _⟩ | ⟨hk, _⟩ | ⟨hk, _⟩ <;> omega
end Go.Proofs.YtcbfbmidekmboaaDoor
