/- A value read by the document: where nothing begins; no condition of ours. -/
/- A value read by the document: the words; no condition of ours. -/
/- A value read by the document: a number; no condition of ours. -/
/- A text's key, and the value that holds it. -/
/- Bytes cut off at the front of a slice, told by one name; no condition of ours. -/
import Derived.Test.YtcbfbmidekmboaaDoorKeyu
import Derived.Test.YtcbfbmidekmboaaDoorRgk
namespace Go.Proofs.YtcbfbmidekmboaaDoor
open Go.ChangeShapes Go.WideShapes Go.Deep Go.RowKit Go.Lib

/-- What the document's value answers. -/
def ValGave (v0 : Value) (b : List UInt8) (lv : Nat) (w : World) : Ending → World → Prop := fun e w' => Below w.heap.size w w' ∧
  ((∃ (u : AV) (z : Value), e = .returned (.tuple #[u.val, z, .bool false]) ∧ ∀ (t : AV) (r : List UInt8), AV.formedJ t lv = true → AV.Made t → b ≠ AV.key t ++ r) ∨
  (∃ (u : AV) (r : List UInt8) (z : Value), e = .returned (.tuple #[u.val, z, .bool true]) ∧ b = AV.key u ++ r ∧ AV.Made u ∧ u.Lies w.heap.size w'.heap.size w' ∧ Tail v0 b z r))

/-- What begins with no kind is no key. -/
theorem key_kind {t : AV} {lv : Nat} (hf : AV.formedJ t lv = true) : lv ≠ 0 ∧ ∃ c l, AV.key t = c :: l ∧ 1 ≤ c.toNat ∧ c.toNat ≤ 7 := by
  obtain ⟨k, n, s, na, nc, ns, xa, xc, xs⟩ := t
  refine ⟨?_, _, _, by rw [AV.key], ?_⟩
  · intro e
    rw [AV.formedJ, if_pos e] at hf
    cases hf
  · rw [toNat_byte]
    rcases AV.parts hf with ⟨hk, _⟩ | ⟨hk, _⟩ | ⟨hk, _⟩ | ⟨hk, _⟩ | ⟨hk, _⟩ <;> omega

set_option maxHeartbeats 4000000 in
set_option maxRecDepth 100000 in
theorem dval_none (w : World) (v : Value) (lv : Nat) (hv : Sl w v []) : Calls Tryd.prog 28 #[v, .int .i64 (lv : Int)] w (ValGave v [] lv w) := by
  obtain ⟨na, cap, rfl, hin, hc1, hc2⟩ := hv
  have hbx := heap_alloc_new w (.cells #[.int .i64 0, .int .i64 0, .string ⟨#[]⟩, .slice none 0 0, .slice none 0 0] 25)
  obtain ⟨d0, d1, d2, d3, d4⟩ := box_cells hbx
  obtain ⟨f0, f1, f2, f3, f4⟩ := fz5 hbx
  have HB := Lib.hid ((Below.refl w.heap.size w).alloc (Nat.le_refl _) (.cells #[.int .i64 0, .int .i64 0, .string ⟨#[]⟩, .slice none 0 0, .slice none 0 0] 25))
  clear hbx hin hc1 hc2
  go_enter Tryd.func28, Tryd.ntmps28
  go_wp2_with fail
  refine bodyPost_ret (v := .tuple #[.agg #[.int .i64 0, .int .i64 0, .string ⟨#[]⟩, .slice none 0 0, .slice none 0 0], .slice none 0 0, .bool false]) (by simp [results, Tryd.results28, go_sem, d0, d1, d2, d3, d4]) rfl ⟨HB.out, .inl ⟨AV.num 0 0, _, rfl, fun t r hf _ e => ?_⟩⟩
  obtain ⟨_, c, l, e2, _⟩ := key_kind hf
  rw [e2] at e
  cases e

set_option maxHeartbeats 4000000 in
set_option maxRecDepth 100000 in
theorem dval_level (w : World) (v : Value) (c : UInt8) (b : List UInt8) (hv : Sl w v (c :: b)) : Calls Tryd.prog 28 #[v, .int .i64 ((0 : Nat) : Int)] w (ValGave v (c :: b) 0 w) := by
  obtain ⟨na, cap, rfl, hin, hc1, hc2⟩ := hv
  obtain ⟨n, hn⟩ : ∃ n, (c :: b).length = n := ⟨_, rfl⟩
  have hn2 : n = b.length + 1 := by rw [← hn]; rfl
  have e1 : ((n : Int) == 0) = false := by rw [beq_eq_false_iff_ne]; omega
  have e2 : ¬ (n : Int) = 0 := by omega
  have e3 : ¬ n = 0 := by omega
  rw [hn]
  have hbx := heap_alloc_new w (.cells #[.int .i64 0, .int .i64 0, .string ⟨#[]⟩, .slice none 0 0, .slice none 0 0] 25)
  obtain ⟨d0, d1, d2, d3, d4⟩ := box_cells hbx
  obtain ⟨f0, f1, f2, f3, f4⟩ := fz5 hbx
  have HB := Lib.hid ((Below.refl w.heap.size w).alloc (Nat.le_refl _) (.cells #[.int .i64 0, .int .i64 0, .string ⟨#[]⟩, .slice none 0 0, .slice none 0 0] 25))
  clear hbx hin hc1 hc2 hn hn2
  go_enter Tryd.func28, Tryd.ntmps28
  go_wp2_with fail
  refine bodyPost_ret (v := .tuple #[.agg #[.int .i64 0, .int .i64 0, .string ⟨#[]⟩, .slice none 0 0, .slice none 0 0], .slice none 0 0, .bool false]) (by simp [results, Tryd.results28, go_sem, d0, d1, d2, d3, d4]) rfl ⟨HB.out, .inl ⟨AV.num 0 0, _, rfl, fun t r hf _ e => (key_kind hf).1 rfl⟩⟩

set_option maxHeartbeats 4000000 in
set_option maxRecDepth 100000 in
theorem dval_kind (w : World) (v : Value) (lv : Nat) (c : UInt8) (b : List UInt8) (hlv : lv ≠ 0) (hk : c.toNat < 1 ∨ 7 < c.toNat) (hv : Sl w v (c :: b)) : Calls Tryd.prog 28 #[v, .int .i64 (lv : Int)] w (ValGave v (c :: b) lv w) := by
  obtain ⟨na, cap, rfl, hin, hc1, hc2⟩ := hv
  obtain ⟨n, hn⟩ : ∃ n, (c :: b).length = n := ⟨_, rfl⟩
  have hn2 : n = b.length + 1 := by rw [← hn]; rfl
  have e1 : ((n : Int) == 0) = false := by rw [beq_eq_false_iff_ne]; omega
  have e2 : ¬ (n : Int) = 0 := by omega
  have e3 : ¬ n = 0 := by omega
  have e4 : (0 : Int) < (n : Int) := by omega
  have g1 : ((lv : Int) == 0) = false := by rw [beq_eq_false_iff_ne]; omega
  have g2 : ¬ (lv : Int) = 0 := by omega
  rw [hn]
  have hbx := heap_alloc_new w (.cells #[.int .i64 0, .int .i64 0, .string ⟨#[]⟩, .slice none 0 0, .slice none 0 0] 25)
  obtain ⟨d0, d1, d2, d3, d4⟩ := box_cells hbx
  obtain ⟨f0, f1, f2, f3, f4⟩ := fz5 hbx
  have hb := (Below.refl w.heap.size w).alloc (Nat.le_refl _) (.cells #[.int .i64 0, .int .i64 0, .string ⟨#[]⟩, .slice none 0 0, .slice none 0 0] 25)
  have HB := Lib.hid hb
  obtain ⟨q, o, rfl⟩ : ∃ q o, na = some ⟨q, o, none⟩ := by
    rcases hin with h | ⟨q, o, rfl, _⟩
    · cases h
    · exact ⟨q, o, rfl⟩
  have c0 : (w.alloc (.cells #[.int .i64 0, .int .i64 0, .string ⟨#[]⟩, .slice none 0 0, .slice none 0 0] 25)).cell? ⟨q, o, none⟩ = some (.int .u8 (c.toNat : Int)) := by
    rcases hin.below hb with h | ⟨q', o', e, h⟩
    · cases h
    · simp only [Option.some.injEq, Addr.mk.injEq, and_true] at e
      obtain ⟨rfl, rfl⟩ := e
      have := h 0 (by simp)
      simpa using this
  have HK := Lib.hid hk
  clear hbx hin hc1 hc2 hn hn2 hb hk
  have fin : ∀ (t : AV) (r : List UInt8), AV.formedJ t lv = true → AV.Made t → c :: b ≠ AV.key t ++ r := fun t r hf _ e => by
    obtain ⟨_, c', l, e2, h1, h2⟩ := key_kind hf
    rw [e2, List.cons_append, List.cons.injEq] at e
    obtain ⟨rfl, _⟩ := e
    have := HK.out
    omega
  have FIN := Lib.hid fin
  clear fin
  rcases HK.out with h1 | h7
  · have c1 : (c.toNat : Int) < 1 := by omega
    go_enter Tryd.func28, Tryd.ntmps28
    go_wp2_with fail
    refine bodyPost_ret (v := .tuple #[.agg #[.int .i64 0, .int .i64 0, .string ⟨#[]⟩, .slice none 0 0, .slice none 0 0], .slice none 0 0, .bool false]) (by simp [results, Tryd.results28, go_sem, d0, d1, d2, d3, d4]) rfl ⟨HB.out, .inl ⟨AV.num 0 0, _, rfl, FIN.out⟩⟩
  · have c1 : ¬ (c.toNat : Int) < 1 := by omega
    have c2 : (7 : Int) < (c.toNat : Int) := by omega
    go_enter Tryd.func28, Tryd.ntmps28
    go_wp2_with fail
    refine bodyPost_ret (v := .tuple #[.agg #[.int .i64 0, .int .i64 0, .string ⟨#[]⟩, .slice none 0 0, .slice none 0 0], .slice none 0 0, .bool false]) (by simp [results, Tryd.results28, go_sem, d0, d1, d2, d3, d4]) rfl ⟨HB.out, .inl ⟨AV.num 0 0, _, rfl, FIN.out⟩⟩
end Go.Proofs.YtcbfbmidekmboaaDoor

namespace Go.Proofs.YtcbfbmidekmboaaDoor
open Go.ChangeShapes Go.WideShapes Go.Deep Go.RowKit Go.Lib

theorem word_lies {k : Int} (hk : 0 ≤ k ∧ k ≤ 2) (C D : Nat) (w : World) : (AV.num k 0).Lies C D w := by
  have hw : (Lit.int .i64 k).wf = true := by
    have h1 : IntKind.i64.min = -9223372036854775808 := rfl
    have h2 : IntKind.i64.max = 9223372036854775807 := rfl
    simp only [Lit.wf, Bool.and_eq_true, decide_eq_true_eq]
    omega
  exact plain_lies hw (by decide) (Nat.zero_le _)

theorem word_made {k : Int} (hk : 0 ≤ k ∧ k ≤ 2) : AV.Made (AV.num k 0) := by
  rw [AV.num, AV.Made]
  exact ⟨by omega, by rw [if_neg (by omega)], .inr rfl, by rw [if_neg (by omega)], .inr (.inr rfl), by rw [AV.MadeAll]; trivial⟩

theorem word_key {k : Int} {c : UInt8} {b : List UInt8} (hk : 0 ≤ k ∧ k ≤ 2) (h : (c.toNat : Int) - 1 = k) : c :: b = AV.key (AV.num k 0) ++ b := by
  rw [AV.num, AV.key, if_neg (by omega), if_neg (by omega), if_neg (by omega)]
  have e : (k + 1).toNat = c.toNat := by omega
  rw [e, UInt8.ofNat_toNat]
  rfl

end Go.Proofs.YtcbfbmidekmboaaDoor

namespace Go.Proofs.YtcbfbmidekmboaaDoor
open Go.ChangeShapes Go.WideShapes Go.Deep Go.RowKit Go.Lib

/-- Too few bytes are no number's. -/
theorem short_key {c : UInt8} {b : List UInt8} (hc : (c.toNat : Int) = 4) (hb : b.length < 8) {lv : Nat} (t : AV) (r : List UInt8) (hf : AV.formedJ t lv = true) (_hm : AV.Made t) : c :: b ≠ AV.key t ++ r := by
  obtain ⟨k, n, s, na, nc, ns, xa, xc, xs⟩ := t
  intro e
  have hp := AV.parts hf
  rw [AV.key, List.cons_append, List.cons.injEq] at e
  obtain ⟨e1, e2⟩ := e
  have e3 := congrArg UInt8.toNat e1
  rw [toNat_byte] at e3
  have hk : k = 3 := by rcases hp with ⟨hk, _⟩ | ⟨hk, _⟩ | ⟨hk, _⟩ | ⟨hk, _⟩ | ⟨hk, _⟩ <;> omega
  rw [if_pos hk] at e2
  have := congrArg List.length e2
  rw [List.length_append, bigL_length] at this
  omega

set_option maxHeartbeats 4000000 in
set_option maxRecDepth 100000 in
theorem dval_short (w : World) (v : Value) (lv : Nat) (c : UInt8) (b : List UInt8) (hlv : lv ≠ 0) (hk : (c.toNat : Int) = 4) (hb8 : b.length < 8) (hv : Sl w v (c :: b)) : Calls Tryd.prog 28 #[v, .int .i64 (lv : Int)] w (ValGave v (c :: b) lv w) := by
  obtain ⟨na, cap, rfl, hin, hc1, hc2⟩ := hv
  obtain ⟨n, hn⟩ : ∃ n, (c :: b).length = n := ⟨_, rfl⟩
  have hn2 : n = b.length + 1 := by rw [← hn]; rfl
  have e1 : ((n : Int) == 0) = false := by rw [beq_eq_false_iff_ne]; omega
  have e2 : ¬ (n : Int) = 0 := by omega
  have e3 : ¬ n = 0 := by omega
  have e4 : (0 : Int) < (n : Int) := by omega
  have e5 : (1 : Int) ≤ (n : Int) := by omega
  have g1 : ((lv : Int) == 0) = false := by rw [beq_eq_false_iff_ne]; omega
  have g2 : ¬ (lv : Int) = 0 := by omega
  have h8 : (((n - 1 : Nat)) : Int) < 8 := by omega
  have h9 : (n : Int) - 1 < 8 := by omega
  rw [hn] at hc1
  rw [hn]
  have e6 : (n : Int) ≤ (cap : Int) := by omega
  have hbx := heap_alloc_new w (.cells #[.int .i64 0, .int .i64 0, .string ⟨#[]⟩, .slice none 0 0, .slice none 0 0] 25)
  obtain ⟨d0, d1, d2, d3, d4⟩ := box_cells hbx
  obtain ⟨f0, f1, f2, f3, f4⟩ := fz5 hbx
  have hb := (Below.refl w.heap.size w).alloc (Nat.le_refl _) (.cells #[.int .i64 0, .int .i64 0, .string ⟨#[]⟩, .slice none 0 0, .slice none 0 0] 25)
  have HB := Lib.hid hb
  obtain ⟨q, o, rfl⟩ : ∃ q o, na = some ⟨q, o, none⟩ := by
    rcases hin with h | ⟨q, o, rfl, _⟩
    · cases h
    · exact ⟨q, o, rfl⟩
  have c0 : (w.alloc (.cells #[.int .i64 0, .int .i64 0, .string ⟨#[]⟩, .slice none 0 0, .slice none 0 0] 25)).cell? ⟨q, o, none⟩ = some (.int .u8 (c.toNat : Int)) := by
    rcases hin.below hb with h | ⟨q', o', e, h⟩
    · cases h
    · simp only [Option.some.injEq, Addr.mk.injEq, and_true] at e
      obtain ⟨rfl, rfl⟩ := e
      have := h 0 (by simp)
      simpa using this
  have HK := Lib.hid hk
  have HN2 := Lib.hid hn2
  have HC1 := Lib.hid hc1
  have HC2 := Lib.hid hc2
  have HT := Lib.hid (hin.cut1 (cr := cap) (by omega))
  have NO := Lib.hid (fun t r hf hm => short_key (b := b) (lv := lv) hk hb8 t r hf hm)
  clear hbx hin hc1 hc2 hn hn2 hb
  rw [hk] at c0
  have HB3 := Lib.hid (two_below w (.cells #[.int .i64 3, .int .i64 0, .string ⟨#[]⟩, .slice none 0 0, .slice none 0 0] 25) (.cells #[.int .i64 3, .int .i64 0, .string ⟨#[]⟩, .slice none 0 0, .slice none 0 0] 25))
  have HQ := Lib.hid (two_boxes w #[.int .i64 3, .int .i64 0, .string ⟨#[]⟩, .slice none 0 0, .slice none 0 0] (.cells #[.int .i64 3, .int .i64 0, .string ⟨#[]⟩, .slice none 0 0, .slice none 0 0] 25))
  go_enter Tryd.func28, Tryd.ntmps28
  go_wp2_with fail
  all_goals
    obtain ⟨q0, q1, q2, q3, q4⟩ := box_cells HQ.out
    refine bodyPost_ret (v := .tuple #[.agg #[.int .i64 3, .int .i64 0, .string ⟨#[]⟩, .slice none 0 0, .slice none 0 0], .slice none 0 0, .bool false]) (by simp [results, Tryd.results28, go_sem, q0, q1, q2, q3, q4]) rfl ⟨HB3.out, .inl ⟨AV.num 3 0, _, rfl, NO.out⟩⟩
end Go.Proofs.YtcbfbmidekmboaaDoor

namespace Go.Proofs.YtcbfbmidekmboaaDoor
open Go.ChangeShapes Go.WideShapes Go.Deep Go.RowKit Go.Lib

theorem two_second (w : World) (o1 : Obj) (cs : Array Value) : ((w.alloc o1).alloc (.cells cs 25)).heap[w.heap.size + 1]? = some (.cells cs 25 (0, 0)) := by
  have h := heap_alloc_new (w.alloc o1) (.cells cs 25)
  rw [show (w.alloc o1).heap.size = w.heap.size + 1 by simp] at h
  exact h

/-- Bytes that begin with no text are no text's key. -/
theorem text_key {c : UInt8} {b : List UInt8} (hc : (c.toNat : Int) = 5) (hb : ∀ s r : List UInt8, b ≠ textL s ++ r) {lv : Nat} (t : AV) (r : List UInt8) (hf : AV.formedJ t lv = true) (_hm : AV.Made t) : c :: b ≠ AV.key t ++ r := by
  obtain ⟨k, n, s, na, nc, ns, xa, xc, xs⟩ := t
  intro e
  have hp := AV.parts hf
  rw [AV.key, List.cons_append, List.cons.injEq] at e
  obtain ⟨e1, e2⟩ := e
  have e3 := congrArg UInt8.toNat e1
  rw [toNat_byte] at e3
  have hk : k = 4 := by rcases hp with ⟨hk, _⟩ | ⟨hk, _⟩ | ⟨hk, _⟩ | ⟨hk, _⟩ | ⟨hk, _⟩ <;> omega
  rw [if_neg (by omega), if_pos hk] at e2
  exact hb _ _ e2

theorem text_made (X : List UInt8) : AV.Made (.mk 4 0 ⟨X.toArray⟩ none 0 [] none 0 []) := by
  rw [AV.Made]
  exact ⟨by omega, by rw [if_neg (by omega)], .inl rfl, by rw [if_neg (by omega)], .inr (.inr rfl), by rw [AV.MadeAll]; trivial⟩

theorem text_head {c : UInt8} {b X r : List UInt8} (hc : (c.toNat : Int) = 5) (h : b = textL X ++ r) : c :: b = AV.key (.mk 4 0 ⟨X.toArray⟩ none 0 [] none 0 []) ++ r := by
  rw [AV.key, if_neg (by omega), if_pos rfl, h]
  have e : ((4 : Int) + 1).toNat = c.toNat := by omega
  rw [e, UInt8.ofNat_toNat]
  rfl
end Go.Proofs.YtcbfbmidekmboaaDoor

namespace Go.Proofs.YtcbfbmidekmboaaDoor
open Go.ChangeShapes Go.WideShapes Go.Deep Go.RowKit Go.Lib

theorem slice_at (W : World) (b o n cap k : Nat) (h0 : 0 < k) (hn : k ≤ n) (_hc : n ≤ cap) (hk : k ≤ 100) :
    (Instr.slice 28 (.slice (some ⟨b, o, none⟩) n cap) (some (.int .i64 (k : Int))) none none).run Tryd.prog W = .ok (.slice (some (if cap = k then ⟨b, o, none⟩ else ⟨b, o + k, none⟩)) (n - k) (cap - k)) W := by
  have ht' : Tryd.prog.underlying 28 = some (.slice (Tryd.prog.elem 28)) := by kernel_rfl
  have he : Tryd.prog.elem 28 = 5 := by kernel_rfl
  have hz : (Go.sizeOf 5).run Tryd.prog W = .ok 1 W := by
    obtain ⟨i0, hi, hz0, hz1, hz2⟩ := info_parts infoByte
    simp [sizeOf, typeInfo, hi, hz1]
  rw [run_slice_l W 28 _ _ _ ht' .i64 _ (by omega) (by omega), he, hz]
  by_cases h1 : cap = k
  · simp [Result.andThen, sliced, h1]
  · have h2 : ¬ k = 0 := by omega
    simp [Result.andThen, sliced, Addr.add, h1, h2]

theorem BytesIn.skip {w : World} {b o k : Nat} {l : List UInt8} (h : BytesIn w (some ⟨b, o, none⟩) l) : BytesIn w (some ⟨b, o + k, none⟩) (l.drop k) := by
  rcases h with h | ⟨b', o', e, h⟩
  · exact .inl (by rw [h]; simp)
  · simp only [Option.some.injEq, Addr.mk.injEq, and_true] at e
    obtain ⟨rfl, rfl⟩ := e
    refine .inr ⟨b, o + k, rfl, fun j hj => ?_⟩
    rw [List.length_drop] at hj
    have := h (k + j) (by omega)
    rw [List.getElem_drop, show o + k + j = o + (k + j) by omega]
    exact this

theorem BytesIn.somewhere {w : World} {na : Option Addr} {c : UInt8} {l : List UInt8} (h : BytesIn w na (c :: l)) : ∃ b o, na = some ⟨b, o, none⟩ ∧ w.cell? ⟨b, o, none⟩ = some (.int .u8 (c.toNat : Int)) := by
  obtain ⟨b, o, rfl, hat⟩ := h.resolve_left (by simp)
  have h0 := hat 0 (by simp)
  exact ⟨b, o, rfl, by simpa using h0⟩

/-- So many bytes off. -/
theorem Sl.skip {w : World} {v : Value} {l : List UInt8} (h : Sl w v l) (k : Nat) (h0 : 0 < k) (hk : k ≤ 100) (hl : k ≤ l.length) : ∃ b o cap, v = .slice (some ⟨b, o, none⟩) l.length cap ∧ (∀ j (hj : j < l.length), w.cell? ⟨b, o + j, none⟩ = some (.int .u8 (l[j].toNat : Int))) ∧ l.length ≤ cap ∧ cap ≤ 9223372036854775807 ∧
    ∃ na : Option Addr, (∀ W, (Instr.slice 28 (.slice (some ⟨b, o, none⟩) l.length cap) (some (.int .i64 (k : Int))) none none).run Tryd.prog W = .ok (.slice na (l.drop k).length (cap - k)) W) ∧ Tail v l (.slice na (l.drop k).length (cap - k)) (l.drop k) := by
  obtain ⟨na, cap, rfl, hin, hc1, hc2⟩ := h
  obtain ⟨b, o, rfl, hat⟩ := id hin |>.resolve_left (by intro e; rw [e] at hl; simp at hl; omega)
  refine ⟨b, o, cap, rfl, hat, hc1, hc2, some (if cap = k then ⟨b, o, none⟩ else ⟨b, o + k, none⟩), fun W => ?_, fun W hW => ⟨_, _, rfl, ?_, by rw [List.length_drop]; omega, by omega⟩⟩
  · rw [List.length_drop]
    exact slice_at W b o l.length cap k h0 hl hc1 hk
  · by_cases hz : cap = k
    · exact .inl (List.length_eq_zero_iff.1 (by rw [List.length_drop]; omega))
    · rw [if_neg hz]
      exact hW.bytes.skip

/-- One byte off. -/
theorem Sl.next {w : World} {v : Value} {c : UInt8} {l : List UInt8} (h : Sl w v (c :: l)) : ∃ b o cap, v = .slice (some ⟨b, o, none⟩) (l.length + 1) cap ∧ w.cell? ⟨b, o, none⟩ = some (.int .u8 (c.toNat : Int)) ∧ l.length + 1 ≤ cap ∧ cap ≤ 9223372036854775807 ∧
    ∃ na : Option Addr, (∀ W, (Instr.slice 28 (.slice (some ⟨b, o, none⟩) (l.length + 1) cap) (some (.int .i64 1)) none none).run Tryd.prog W = .ok (.slice na l.length (cap - 1)) W) ∧ Tail v (c :: l) (.slice na l.length (cap - 1)) l := by
  obtain ⟨b, o, cap, rfl, hat, h1, h2, na, hrun, hs⟩ := h.skip 1 (by omega) (by omega) (by simp)
  have h0 := hat 0 (by simp)
  exact ⟨b, o, cap, rfl, by simpa using h0, by simpa using h1, h2, na, hrun, hs⟩
end Go.Proofs.YtcbfbmidekmboaaDoor
