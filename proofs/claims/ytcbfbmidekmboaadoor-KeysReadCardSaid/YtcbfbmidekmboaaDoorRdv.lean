/- A value read: what the program's call answers where there is one, for words, numbers and texts; no condition of ours. -/
import Derived.Test.YtcbfbmidekmboaaDoorGrow
namespace Go.Proofs.YtcbfbmidekmboaaDoor
open Go.ChangeShapes Go.WideShapes Go.Deep Go.RowKit Go.Lib

/-- What the call that reads a value answers. -/
def ValueGave (p : Nat) (bs r : List UInt8) (t : AV) (w : World) : Ending → World → Prop := fun e w' => ∃ u : AV, e = .returned (.tuple #[u.val, .bool true]) ∧ AV.eqv t u = true ∧ u.Lies w.heap.size w'.heap.size w' ∧ Stepped p bs r w w'

theorem plain_lies {C D : Nat} {w : World} {k n : Int} {s : ByteArray} (hk : (Lit.int .i64 k).wf = true) (hn : (Lit.int .i64 n).wf = true) (hs : s.size ≤ maxLen) : (AV.mk k n s none 0 [] none 0 []).Lies C D w := fun w' _ => by
  rw [AV.In]
  exact ⟨hk, hn, hs, by simp, by simp [maxLen], by simp, by simp [maxLen], by simp, .inl rfl, (fun b o e => by cases e), .inl rfl⟩

theorem empty_of {s : ByteArray} (h : s.toList = []) : s = ⟨#[]⟩ := by
  rw [ByteArray.toList_eq] at h
  exact ByteArray.ext (Array.ext' h)

/-- The world behind a value read: its box, then the answer's. -/
theorem value_end {p q : Nat} {bs r : List UInt8} {w w3 : World} {t u : AV} {Wf : World} (hA : At p bs r w3) (hK : Kept p w w3) (hq : w.heap.size ≤ q) (hp : p < w.heap.size) (hu : AV.eqv t u = true)
    (hl : u.Lies w.heap.size w3.heap.size w3) (hlq : ∀ C D, u.Lies C D w3 → u.Lies C D Wf) (hkf : Kept q w3 Wf) {e : Ending} (he : e = .returned (.tuple #[u.val, .bool true])) : ValueGave p bs r t w e Wf :=
  ⟨u, he, hu, (hlq _ _ hl).wider (Nat.le_refl _) hkf.size, hA.other hkf (by omega), hK.fresh hkf hq⟩

theorem value_end2 {p q : Nat} {bs r : List UInt8} {w w3 : World} {t u : AV} {Wf : World} (hA : At p bs r w3) (hK : Kept p w w3) (hq : w.heap.size ≤ q) (hp : p < w.heap.size) (hu : AV.eqv t u = true) {C D : Nat}
    (hl : u.Lies C D Wf) (hC : w.heap.size ≤ C) (hD : D ≤ Wf.heap.size) (hkf : Kept q w3 Wf) {e : Ending} (he : e = .returned (.tuple #[u.val, .bool true])) : ValueGave p bs r t w e Wf :=
  ⟨u, he, hu, hl.wider hC hD, hA.other hkf (by omega), hK.fresh hkf hq⟩

/-- A list of values read lies in blocks of its own. -/
theorem list_lies {B : Nat} {W : World} {k : Int} (hk : (Lit.int .i64 k).wf = true) {na : Option Addr} {nc : Nat} {ns : List ByteArray} (hn : ns.length ≤ nc) (hm : nc ≤ maxLen) (hs : ∀ x ∈ ns, x.size ≤ maxLen)
    (hin : ∀ w' : World, (∀ k, B ≤ k → k < W.heap.size → w'.heap[k]? = W.heap[k]?) → AV.NamesIn w' na ns) {u : Value} {ya : Option Addr} {yc : Nat} {ys : List AV} (h : Row B u ya yc ys W) : (AV.mk k 0 ⟨#[]⟩ na nc ns ya yc ys).Lies B W.heap.size W := fun w' hw => by
  obtain ⟨h1, h2, h3, h4⟩ := h.lies
  rw [AV.In]
  exact ⟨hk, by decide, Nat.zero_le _, hn, hm, h1, h2, hs, hin w' hw, h4 w' hw, h3⟩

set_option maxHeartbeats 4000000 in
set_option maxRecDepth 100000 in
theorem readValue_word (w0 w : World) (p : Nat) (nb : Option Addr) (cb : Nat) (bs r : List UInt8) (k : Int) (c : UInt8) (sa : Option Addr) (sc : Nat) (xa : Option Addr) (xc : Nat) (lv : Nat) (hk : (k = 0 ∧ c = 1) ∨ (k = 1 ∧ c = 2) ∨ (k = 2 ∧ c = 3)) (hS : Src w0 p nb bs w) (hat : At p bs (c :: r) w) (hlv : 0 < lv) (hlv6 : lv ≤ 6) :
    Calls Tryd.prog 42 #[.slice nb bs.length cb, .pointer (some ⟨p, 0, none⟩), .int .i64 (lv : Int)] w (ValueGave p bs r (AV.mk k 0 ⟨#[]⟩ sa sc [] xa xc []) w) := by
  have HPL := Lib.hid hat.lt
  have hbz : Below w.heap.size w (w.alloc (.cells #[.int .i64 0, .int .i64 0, .string ⟨#[]⟩, .slice none 0 0, .slice none 0 0] 25)) := (Below.refl _ _).alloc (Nat.le_refl _) _
  have hkz : Kept p w (w.alloc (.cells #[.int .i64 0, .int .i64 0, .string ⟨#[]⟩, .slice none 0 0, .slice none 0 0] 25)) := Kept.of hbz
  have NEXT := Lib.hid (next_any w0 _ p nb cb bs c _ (hS.kept hkz) (hat.later hbz))
  have HKZ := Lib.hid hkz
  have HBX := Lib.hid (heap_alloc_new w (.cells #[.int .i64 0, .int .i64 0, .string ⟨#[]⟩, .slice none 0 0, .slice none 0 0] 25))
  have e0 : ((lv : Int) == 0) = false := by rw [beq_eq_false_iff_ne]; omega
  have hlv' : ¬ (lv : Int) = 0 := by omega
  clear hS hat hlv hlv6 hbz hkz
  rcases hk with ⟨rfl, rfl⟩ | ⟨rfl, rfl⟩ | ⟨rfl, rfl⟩
  · simp only [show (((1 : UInt8).toNat : Nat) : Int) = 1 from rfl] at NEXT
    go_enter Tryd.func42, Tryd.ntmps42
    go_wp2_with fail
    refine (NEXT.out).mono ?_
    rintro e w1 ⟨rfl, hat1, hk1⟩
    have HA1 := Lib.hid hat1
    have HB1 := Lib.hid (hk1.box HBX.out (by have := HPL.out; omega))
    have HK1 := Lib.hid (HKZ.out.trans hk1)
    have hz1 : w.heap.size < w1.heap.size := (Array.getElem?_eq_some_iff.1 HB1.out).1
    obtain ⟨d0, d1, d2, d3, d4⟩ := box_cells HB1.out
    obtain ⟨f0, f1, f2, f3, f4⟩ := fz5 HB1.out
    clear hat1 hk1
    go_wp2_with fail
    have hkf := ((Kept.refl w.heap.size w1).five (.int .i64 0) (.int .i64 0) (.string ⟨#[]⟩) (.slice none 0 0) (.slice none 0 0)).alloc (.cells #[.int .i64 0, .int .i64 0, .string ⟨#[]⟩, .slice none 0 0, .slice none 0 0] 25)
    have hfb := (Lib.alloc_old _ (.cells #[.int .i64 0, .int .i64 0, .string ⟨#[]⟩, .slice none 0 0, .slice none 0 0] 25) _ (by simp [World.setCell]; omega)).trans (five_box HB1.out (.int .i64 0) (.int .i64 0) (.string ⟨#[]⟩) (.slice none 0 0) (.slice none 0 0))
    obtain ⟨g0, g1, g2, g3, g4⟩ := box_cells hfb
    refine bodyPost_ret (v := .tuple #[.agg #[.int .i64 0, .int .i64 0, .string ⟨#[]⟩, .slice none 0 0, .slice none 0 0], .bool true]) (by simp [results, Tryd.results42, go_sem, g0, g1, g2, g3, g4]) rfl ?_
    exact value_end (u := AV.mk 0 0 ⟨#[]⟩ none 0 [] none 0 []) HA1.out HK1.out (Nat.le_refl _) HPL.out (by simp [AV.eqv, AV.eqvAll]) (plain_lies (by decide) (by decide) (Nat.zero_le _)) (fun _ _ _ => plain_lies (by decide) (by decide) (Nat.zero_le _)) hkf rfl
  · simp only [show (((2 : UInt8).toNat : Nat) : Int) = 2 from rfl] at NEXT
    go_enter Tryd.func42, Tryd.ntmps42
    go_wp2_with fail
    refine (NEXT.out).mono ?_
    rintro e w1 ⟨rfl, hat1, hk1⟩
    have HA1 := Lib.hid hat1
    have HB1 := Lib.hid (hk1.box HBX.out (by have := HPL.out; omega))
    have HK1 := Lib.hid (HKZ.out.trans hk1)
    have hz1 : w.heap.size < w1.heap.size := (Array.getElem?_eq_some_iff.1 HB1.out).1
    obtain ⟨d0, d1, d2, d3, d4⟩ := box_cells HB1.out
    obtain ⟨f0, f1, f2, f3, f4⟩ := fz5 HB1.out
    clear hat1 hk1
    go_wp2_with fail
    have hkf := ((Kept.refl w.heap.size w1).five (.int .i64 1) (.int .i64 0) (.string ⟨#[]⟩) (.slice none 0 0) (.slice none 0 0)).alloc (.cells #[.int .i64 1, .int .i64 0, .string ⟨#[]⟩, .slice none 0 0, .slice none 0 0] 25)
    have hfb := (Lib.alloc_old _ (.cells #[.int .i64 1, .int .i64 0, .string ⟨#[]⟩, .slice none 0 0, .slice none 0 0] 25) _ (by simp [World.setCell]; omega)).trans (five_box HB1.out (.int .i64 1) (.int .i64 0) (.string ⟨#[]⟩) (.slice none 0 0) (.slice none 0 0))
    obtain ⟨g0, g1, g2, g3, g4⟩ := box_cells hfb
    refine bodyPost_ret (v := .tuple #[.agg #[.int .i64 1, .int .i64 0, .string ⟨#[]⟩, .slice none 0 0, .slice none 0 0], .bool true]) (by simp [results, Tryd.results42, go_sem, g0, g1, g2, g3, g4]) rfl ?_
    exact value_end (u := AV.mk 1 0 ⟨#[]⟩ none 0 [] none 0 []) HA1.out HK1.out (Nat.le_refl _) HPL.out (by simp [AV.eqv, AV.eqvAll]) (plain_lies (by decide) (by decide) (Nat.zero_le _)) (fun _ _ _ => plain_lies (by decide) (by decide) (Nat.zero_le _)) hkf rfl
  · simp only [show (((3 : UInt8).toNat : Nat) : Int) = 3 from rfl] at NEXT
    go_enter Tryd.func42, Tryd.ntmps42
    go_wp2_with fail
    refine (NEXT.out).mono ?_
    rintro e w1 ⟨rfl, hat1, hk1⟩
    have HA1 := Lib.hid hat1
    have HB1 := Lib.hid (hk1.box HBX.out (by have := HPL.out; omega))
    have HK1 := Lib.hid (HKZ.out.trans hk1)
    have hz1 : w.heap.size < w1.heap.size := (Array.getElem?_eq_some_iff.1 HB1.out).1
    obtain ⟨d0, d1, d2, d3, d4⟩ := box_cells HB1.out
    obtain ⟨f0, f1, f2, f3, f4⟩ := fz5 HB1.out
    clear hat1 hk1
    go_wp2_with fail
    have hkf := ((Kept.refl w.heap.size w1).five (.int .i64 2) (.int .i64 0) (.string ⟨#[]⟩) (.slice none 0 0) (.slice none 0 0)).alloc (.cells #[.int .i64 2, .int .i64 0, .string ⟨#[]⟩, .slice none 0 0, .slice none 0 0] 25)
    have hfb := (Lib.alloc_old _ (.cells #[.int .i64 2, .int .i64 0, .string ⟨#[]⟩, .slice none 0 0, .slice none 0 0] 25) _ (by simp [World.setCell]; omega)).trans (five_box HB1.out (.int .i64 2) (.int .i64 0) (.string ⟨#[]⟩) (.slice none 0 0) (.slice none 0 0))
    obtain ⟨g0, g1, g2, g3, g4⟩ := box_cells hfb
    refine bodyPost_ret (v := .tuple #[.agg #[.int .i64 2, .int .i64 0, .string ⟨#[]⟩, .slice none 0 0, .slice none 0 0], .bool true]) (by simp [results, Tryd.results42, go_sem, g0, g1, g2, g3, g4]) rfl ?_
    exact value_end (u := AV.mk 2 0 ⟨#[]⟩ none 0 [] none 0 []) HA1.out HK1.out (Nat.le_refl _) HPL.out (by simp [AV.eqv, AV.eqvAll]) (plain_lies (by decide) (by decide) (Nat.zero_le _)) (fun _ _ _ => plain_lies (by decide) (by decide) (Nat.zero_le _)) hkf rfl

theorem wrap_back (n : Int) (h0 : -9223372036854775808 ≤ n) (h1 : n < 9223372036854775808) : IntKind.i64.wrap (IntKind.u64.wrap (n + 9223372036854775808 - 9223372036854775808)) = n := by
  rw [show n + 9223372036854775808 - 9223372036854775808 = n by omega]
  unfold IntKind.wrap
  simp [IntKind.bits, IntKind.signed]
  omega

set_option maxHeartbeats 4000000 in
set_option maxRecDepth 100000 in
theorem readValue_num (w0 w : World) (p : Nat) (nb : Option Addr) (cb : Nat) (bs r : List UInt8) (n : Int) (sa : Option Addr) (sc : Nat) (xa : Option Addr) (xc : Nat) (lv : Nat) (h0 : -9223372036854775808 ≤ n) (h1 : n < 9223372036854775808) (hn : (Lit.int .i64 n).wf = true) (hS : Src w0 p nb bs w) (hat : At p bs (4 :: (bigL (n + 9223372036854775808).toNat ++ r)) w) (hlv : 0 < lv) :
    Calls Tryd.prog 42 #[.slice nb bs.length cb, .pointer (some ⟨p, 0, none⟩), .int .i64 (lv : Int)] w (ValueGave p bs r (AV.mk 3 n ⟨#[]⟩ sa sc [] xa xc []) w) := by
  have HPL := Lib.hid hat.lt
  have hbz : Below w.heap.size w (w.alloc (.cells #[.int .i64 0, .int .i64 0, .string ⟨#[]⟩, .slice none 0 0, .slice none 0 0] 25)) := (Below.refl _ _).alloc (Nat.le_refl _) _
  have hkz : Kept p w (w.alloc (.cells #[.int .i64 0, .int .i64 0, .string ⟨#[]⟩, .slice none 0 0, .slice none 0 0] 25)) := Kept.of hbz
  have NEXT := Lib.hid (next_any w0 _ p nb cb bs 4 _ (hS.kept hkz) (hat.later hbz))
  obtain ⟨m, hm⟩ : ∃ m : Nat, (n + 9223372036854775808).toNat = m := ⟨_, rfl⟩
  have hmi : (m : Int) = n + 9223372036854775808 := by omega
  rw [hm] at NEXT
  have NUM := Lib.hid (fun W (h1 : Kept p w W) (h2 : At p bs (bigL m ++ r) W) => readNumber_any w0 W p nb cb bs r m (by omega) (hS.kept h1) h2)
  have hwrap : IntKind.i64.wrap (IntKind.u64.wrap ((m : Int) - 9223372036854775808)) = n := by
    rw [hmi]
    exact wrap_back n h0 h1
  have HKZ := Lib.hid hkz
  have HBX := Lib.hid (heap_alloc_new w (.cells #[.int .i64 0, .int .i64 0, .string ⟨#[]⟩, .slice none 0 0, .slice none 0 0] 25))
  have e0 : ((lv : Int) == 0) = false := by rw [beq_eq_false_iff_ne]; omega
  have hlv' : ¬ (lv : Int) = 0 := by omega
  have HN := Lib.hid hn
  simp only [show (((4 : UInt8).toNat : Nat) : Int) = 4 from rfl] at NEXT
  clear hS hat hlv hbz hkz hm hmi hn h0 h1
  go_enter Tryd.func42, Tryd.ntmps42
  go_wp2_with fail
  refine (NEXT.out).mono ?_
  rintro e w1 ⟨rfl, hat1, hk1⟩
  have HA1 := Lib.hid (hat1.later ((Below.refl _ _).alloc (Nat.le_refl _) (.cells #[.int .i64 3, .int .i64 0, .string ⟨#[]⟩, .slice none 0 0, .slice none 0 0] 25)))
  have HB1 := Lib.hid (hk1.box HBX.out (by have := HPL.out; omega))
  have HK1 := Lib.hid ((HKZ.out.trans hk1).alloc (.cells #[.int .i64 3, .int .i64 0, .string ⟨#[]⟩, .slice none 0 0, .slice none 0 0] 25))
  have hz1 : w.heap.size < w1.heap.size := (Array.getElem?_eq_some_iff.1 HB1.out).1
  have HV1 := Lib.hid (heap_alloc_new w1 (.cells #[.int .i64 3, .int .i64 0, .string ⟨#[]⟩, .slice none 0 0, .slice none 0 0] 25))
  have HB1' := Lib.hid ((Lib.alloc_old w1 (.cells #[.int .i64 3, .int .i64 0, .string ⟨#[]⟩, .slice none 0 0, .slice none 0 0] 25) _ hz1).trans HB1.out)
  clear hat1 hk1 HB1
  go_wp2_with fail
  refine (NUM.out _ HK1.out HA1.out).mono ?_
  rintro e w2 ⟨rfl, hat2, hk2⟩
  have HA2 := Lib.hid hat2
  have HB2 := Lib.hid (hk2.box HB1'.out (by have := HPL.out; omega))
  have HV2 := Lib.hid (hk2.box HV1.out (by have := HPL.out; omega))
  have HK2 := Lib.hid (HK1.out.trans hk2)
  obtain ⟨d0, d1, d2, d3, d4⟩ := box_cells HB2.out
  obtain ⟨f0, f1, f2, f3, f4⟩ := fz5 HB2.out
  obtain ⟨a0, a1, a2, a3, a4⟩ := box_cells HV2.out
  obtain ⟨b0, b1, b2, b3, b4⟩ := fz5 HV2.out
  clear hat2 hk2
  go_wp2_with fail
  have hk3 := (Kept.refl w1.heap.size w2).setAt 1 (.int .i64 n)
  have hpl := HPL.out
  have HA3 := Lib.hid (HA2.out.other hk3 (by omega))
  have HK3 := Lib.hid (HK2.out.fresh hk3 (by omega))
  have HB3 := Lib.hid (hk3.box HB2.out (by omega))
  have hkf := (Kept.refl w.heap.size (w2.setCell ⟨w1.heap.size, 1, none⟩ (.int .i64 n))).five (.int .i64 3) (.int .i64 n) (.string ⟨#[]⟩) (.slice none 0 0) (.slice none 0 0)
  have hfb := five_box HB3.out (.int .i64 3) (.int .i64 n) (.string ⟨#[]⟩) (.slice none 0 0) (.slice none 0 0)
  obtain ⟨g0, g1, g2, g3, g4⟩ := box_cells hfb
  refine bodyPost_ret (v := .tuple #[.agg #[.int .i64 3, .int .i64 n, .string ⟨#[]⟩, .slice none 0 0, .slice none 0 0], .bool true]) (by simp [results, Tryd.results42, go_sem, g0, g1, g2, g3, g4]) rfl ?_
  exact value_end (u := AV.mk 3 n ⟨#[]⟩ none 0 [] none 0 []) HA3.out HK3.out (Nat.le_refl _) HPL.out (by simp [AV.eqv, AV.eqvAll]) (plain_lies (by decide) HN.out (Nat.zero_le _)) (fun _ _ _ => plain_lies (by decide) HN.out (Nat.zero_le _)) hkf rfl

set_option maxHeartbeats 4000000 in
set_option maxRecDepth 100000 in
theorem readValue_text (w0 w : World) (p : Nat) (nb : Option Addr) (cb : Nat) (bs r : List UInt8) (s : ByteArray) (sa : Option Addr) (sc : Nat) (xa : Option Addr) (xc : Nat) (lv : Nat) (hs : s.size ≤ 60) (hS : Src w0 p nb bs w) (hat : At p bs (5 :: (textL s.data.toList ++ r)) w) (hlv : 0 < lv) :
    Calls Tryd.prog 42 #[.slice nb bs.length cb, .pointer (some ⟨p, 0, none⟩), .int .i64 (lv : Int)] w (ValueGave p bs r (AV.mk 4 0 s sa sc [] xa xc []) w) := by
  have HPL := Lib.hid hat.lt
  have hbz : Below w.heap.size w (w.alloc (.cells #[.int .i64 0, .int .i64 0, .string ⟨#[]⟩, .slice none 0 0, .slice none 0 0] 25)) := (Below.refl _ _).alloc (Nat.le_refl _) _
  have hkz : Kept p w (w.alloc (.cells #[.int .i64 0, .int .i64 0, .string ⟨#[]⟩, .slice none 0 0, .slice none 0 0] 25)) := Kept.of hbz
  have NEXT := Lib.hid (next_any w0 _ p nb cb bs 5 _ (hS.kept hkz) (hat.later hbz))
  have NUM := Lib.hid (fun W (h1 : Kept p w W) (h2 : At p bs (textL s.data.toList ++ r) W) => readText_any w0 W p nb cb bs r s hs (hS.kept h1) h2)
  have hsm : s.size ≤ maxLen := by unfold maxLen; omega
  have HKZ := Lib.hid hkz
  have HBX := Lib.hid (heap_alloc_new w (.cells #[.int .i64 0, .int .i64 0, .string ⟨#[]⟩, .slice none 0 0, .slice none 0 0] 25))
  have e0 : ((lv : Int) == 0) = false := by rw [beq_eq_false_iff_ne]; omega
  have hlv' : ¬ (lv : Int) = 0 := by omega
  have HSM := Lib.hid hsm
  simp only [show (((5 : UInt8).toNat : Nat) : Int) = 5 from rfl] at NEXT
  clear hS hat hlv hbz hkz hs hsm
  go_enter Tryd.func42, Tryd.ntmps42
  go_wp2_with fail
  refine (NEXT.out).mono ?_
  rintro e w1 ⟨rfl, hat1, hk1⟩
  have HA1 := Lib.hid (hat1.later ((Below.refl _ _).alloc (Nat.le_refl _) (.cells #[.int .i64 4, .int .i64 0, .string ⟨#[]⟩, .slice none 0 0, .slice none 0 0] 25)))
  have HB1 := Lib.hid (hk1.box HBX.out (by have := HPL.out; omega))
  have HK1 := Lib.hid ((HKZ.out.trans hk1).alloc (.cells #[.int .i64 4, .int .i64 0, .string ⟨#[]⟩, .slice none 0 0, .slice none 0 0] 25))
  have hz1 : w.heap.size < w1.heap.size := (Array.getElem?_eq_some_iff.1 HB1.out).1
  have HV1 := Lib.hid (heap_alloc_new w1 (.cells #[.int .i64 4, .int .i64 0, .string ⟨#[]⟩, .slice none 0 0, .slice none 0 0] 25))
  have HB1' := Lib.hid ((Lib.alloc_old w1 (.cells #[.int .i64 4, .int .i64 0, .string ⟨#[]⟩, .slice none 0 0, .slice none 0 0] 25) _ hz1).trans HB1.out)
  clear hat1 hk1 HB1
  go_wp2_with fail
  refine (NUM.out _ HK1.out HA1.out).mono ?_
  rintro e w2 ⟨rfl, hat2, hk2⟩
  have HA2 := Lib.hid hat2
  have HB2 := Lib.hid (hk2.box HB1'.out (by have := HPL.out; omega))
  have HV2 := Lib.hid (hk2.box HV1.out (by have := HPL.out; omega))
  have HK2 := Lib.hid (HK1.out.trans hk2)
  obtain ⟨d0, d1, d2, d3, d4⟩ := box_cells HB2.out
  obtain ⟨f0, f1, f2, f3, f4⟩ := fz5 HB2.out
  obtain ⟨a0, a1, a2, a3, a4⟩ := box_cells HV2.out
  obtain ⟨b0, b1, b2, b3, b4⟩ := fz5 HV2.out
  clear hat2 hk2
  go_wp2_with fail
  have hk3 := (Kept.refl w1.heap.size w2).setAt 2 (.string s)
  have hpl := HPL.out
  have HA3 := Lib.hid (HA2.out.other hk3 (by omega))
  have HK3 := Lib.hid (HK2.out.fresh hk3 (by omega))
  have HB3 := Lib.hid (hk3.box HB2.out (by omega))
  have hkf := (Kept.refl w.heap.size (w2.setCell ⟨w1.heap.size, 2, none⟩ (.string s))).five (.int .i64 4) (.int .i64 0) (.string s) (.slice none 0 0) (.slice none 0 0)
  have hfb := five_box HB3.out (.int .i64 4) (.int .i64 0) (.string s) (.slice none 0 0) (.slice none 0 0)
  obtain ⟨g0, g1, g2, g3, g4⟩ := box_cells hfb
  refine bodyPost_ret (v := .tuple #[.agg #[.int .i64 4, .int .i64 0, .string s, .slice none 0 0, .slice none 0 0], .bool true]) (by simp [results, Tryd.results42, go_sem, g0, g1, g2, g3, g4]) rfl ?_
  exact value_end (u := AV.mk 4 0 s none 0 [] none 0 []) HA3.out HK3.out (Nat.le_refl _) HPL.out (by simp [AV.eqv, AV.eqvAll]) (plain_lies (by decide) (by decide) HSM.out) (fun _ _ _ => plain_lies (by decide) (by decide) HSM.out) hkf rfl
end Go.Proofs.YtcbfbmidekmboaaDoor
