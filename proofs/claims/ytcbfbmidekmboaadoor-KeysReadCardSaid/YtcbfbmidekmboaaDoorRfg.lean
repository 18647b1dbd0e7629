/- A text read by the document: what the call answers, whatever the bytes are; no condition of ours. -/
import Derived.Test.YtcbfbmidekmboaaDoorRno
import Derived.Test.YtcbfbmidekmboaaDoorBsame
namespace Go.Proofs.YtcbfbmidekmboaaDoor
open Go.ChangeShapes Go.WideShapes Go.Deep Go.RowKit Go.Lib

theorem esc_split {c d : UInt8} {A B : List UInt8} (h : escL c ++ A = escL d ++ B) : c = d ∧ A = B := by
  unfold escL at h
  by_cases hc : c = 0
  · rw [if_pos hc] at h
    by_cases hd : d = 0
    · rw [if_pos hd] at h
      simp only [List.cons_append, List.nil_append, List.cons.injEq, true_and] at h
      exact ⟨hc.trans hd.symm, h⟩
    · rw [if_neg hd] at h
      simp only [List.cons_append, List.nil_append, List.cons.injEq] at h
      exact absurd h.1.symm hd
  · rw [if_neg hc] at h
    by_cases hd : d = 0
    · rw [if_pos hd] at h
      simp only [List.cons_append, List.nil_append, List.cons.injEq] at h
      exact absurd h.1 hc
    · rw [if_neg hd] at h
      simp only [List.cons_append, List.nil_append, List.cons.injEq] at h
      exact h

theorem text_split : ∀ {X rest s r : List UInt8}, escsL X ++ rest = textL s ++ r → ∃ s', s = X ++ s' ∧ rest = textL s' ++ r
  | [], rest, s, r, h => ⟨s, rfl, h⟩
  | c :: X, rest, [], r, h => by
    have h2 : escL c ++ (escsL X ++ rest) = 0 :: 0 :: r := by
      have e : escsL (c :: X) = escL c ++ escsL X := by simp [escsL]
      rw [e, List.append_assoc] at h
      exact h
    unfold escL at h2
    by_cases hc : c = 0
    · rw [if_pos hc] at h2
      simp only [List.cons_append, List.nil_append, List.cons.injEq, true_and] at h2
      exact absurd h2.1 (by decide)
    · rw [if_neg hc] at h2
      simp only [List.cons_append, List.nil_append, List.cons.injEq] at h2
      exact absurd h2.1 hc
  | c :: X, rest, d :: s, r, h => by
    have e : escsL (c :: X) = escL c ++ escsL X := by simp [escsL]
    rw [e, textL_cons, List.append_assoc, List.append_assoc] at h
    obtain ⟨rfl, h2⟩ := esc_split h
    obtain ⟨s', rfl, h3⟩ := text_split h2
    exact ⟨s', rfl, h3⟩

/-- Bytes in a slice. -/
def Sl (w : World) (v : Value) (l : List UInt8) : Prop := ∃ na cap, v = .slice na l.length cap ∧ BytesIn w na l ∧ l.length ≤ cap ∧ cap ≤ 9223372036854775807

theorem Sl.below {w w' : World} {v : Value} {l : List UInt8} (h : Sl w v l) (hb : Below w.heap.size w w') : Sl w' v l := by
  obtain ⟨na, cap, h1, h2, h3, h4⟩ := h
  exact ⟨na, cap, h1, h2.below hb, h3, h4⟩

theorem BytesIn.tail {w : World} {b o : Nat} {c : UInt8} {l : List UInt8} (h : BytesIn w (some ⟨b, o, none⟩) (c :: l)) : BytesIn w (some ⟨b, o + 1, none⟩) l := by
  rcases h with h | ⟨b', o', e, h⟩
  · cases h
  · simp only [Option.some.injEq, Addr.mk.injEq, and_true] at e
    obtain ⟨rfl, rfl⟩ := e
    refine .inr ⟨b, o + 1, rfl, fun j hj => ?_⟩
    have := h (j + 1) (by simpa using hj)
    rw [show o + 1 + j = o + (j + 1) by omega]
    simpa using this

theorem BytesIn.cut1 {w : World} {q o cr : Nat} {c : UInt8} {l : List UInt8} (h : BytesIn w (some ⟨q, o, none⟩) (c :: l)) (hc : l.length + 1 ≤ cr) : BytesIn w (if cr = 1 then some ⟨q, o, none⟩ else some ⟨q, o + 1, none⟩) l := by
  by_cases h1 : cr = 1
  · have : l = [] := List.length_eq_zero_iff.1 (by omega)
    rw [this]
    exact .inl rfl
  · rw [if_neg h1]
    exact h.tail

theorem BytesIn.cut2 {w : World} {q o cr : Nat} {c d : UInt8} {l : List UInt8} (h : BytesIn w (some ⟨q, o, none⟩) (c :: d :: l)) (hc : l.length + 2 ≤ cr) : BytesIn w (if cr = 2 then some ⟨q, o, none⟩ else some ⟨q, o + 2, none⟩) l := by
  by_cases h1 : cr = 2
  · have : l = [] := List.length_eq_zero_iff.1 (by omega)
    rw [this]
    exact .inl rfl
  · rw [if_neg h1]
    exact h.tail.tail

theorem text_split2 {d : UInt8} {rest s r : List UInt8} (hd0 : d ≠ 0) (hd : d ≠ 255) : (0 : UInt8) :: d :: rest ≠ textL s ++ r := by
  intro e
  cases s with
  | nil =>
    have e2 : (0 : UInt8) :: d :: rest = 0 :: 0 :: r := e
    simp only [List.cons.injEq, true_and] at e2
    exact hd0 e2.1
  | cons x s =>
    rw [textL_cons, List.append_assoc] at e
    unfold escL at e
    by_cases hx : x = 0
    · rw [if_pos hx] at e
      simp only [List.cons_append, List.nil_append, List.cons.injEq, true_and] at e
      exact hd e.1
    · rw [if_neg hx] at e
      simp only [List.cons_append, List.nil_append, List.cons.injEq] at e
      exact hx e.1.symm

/-- What is left of a slice of bytes: wherever that lies, this does. -/
def Tail (v : Value) (b : List UInt8) (z : Value) (r : List UInt8) : Prop := ∀ W : World, Sl W v b → Sl W z r

theorem Tail.trans {v z z' : Value} {b r r' : List UInt8} (h : Tail v b z r) (h' : Tail z r z' r') : Tail v b z' r' := fun W hW => h' W (h W hW)

theorem Sl.bytes {W : World} {na : Option Addr} {cap : Nat} {b : List UInt8} (h : Sl W (.slice na b.length cap) b) : BytesIn W na b := by
  obtain ⟨na', cap', e, h, _⟩ := h
  simp only [Value.slice.injEq, true_and] at e
  rw [e.1]
  exact h

/-- What the document's get answers. -/
def GetGave (v0 : Value) (b : List UInt8) (w : World) : Ending → World → Prop := fun e w' => Below w.heap.size w w' ∧ ((e = .returned (.tuple #[.string ⟨#[]⟩, .slice none 0 0, .bool false]) ∧ ∀ s r : List UInt8, b ≠ textL s ++ r) ∨
  (∃ (X r : List UInt8) (v : Value), e = .returned (.tuple #[.string ⟨X.toArray⟩, v, .bool true]) ∧ b = textL X ++ r ∧ Tail v0 b v r))

set_option maxHeartbeats 4000000 in
set_option maxRecDepth 100000 in
theorem get_any (w : World) (v : Value) (b : List UInt8) (hv : Sl w v b) (hlen : b.length ≤ 100000) : Calls Tryd.prog 43 #[v] w (GetGave v b w) := by
  obtain ⟨na, cap, rfl, hin, hc1, hc2⟩ := hv
  have HIN := Lib.hid hin
  have HC1 := Lib.hid hc1
  have HC2 := Lib.hid hc2
  have HLEN := Lib.hid hlen
  clear hin hc1 hc2 hlen
  go_enter Tryd.func43, Tryd.ntmps43
  go_wp2_with fail
  go_loopg [0, 5] b.length (fun g s o wr => ∃ (X rest : List UInt8) (nr : Option Addr) (cr : Nat), rest.length ≤ g ∧ X.length + rest.length ≤ b.length ∧ b = escsL X ++ rest ∧ s = .slice nr rest.length cr ∧ BytesIn w nr rest ∧ rest.length ≤ cr ∧ cr ≤ 9223372036854775807 ∧ wr.ownsRow w.heap.size 5 1 o X.length (Lib.byteCells X) ∧ Below w.heap.size w wr ∧ (∀ W : World, BytesIn W na b → BytesIn W nr rest))
  case atStart => exact ⟨[], b, na, cap, Nat.le_refl _, by simp, by simp [escsL], rfl, HIN.out, HC1.out, HC2.out, World.ownsRow_nil _ _ _ _, Below.refl _ _, fun _ h => h⟩
  case round =>
    obtain ⟨X, rest, nr, cr, hg, hxl, hb, rfl, hin, hc1, hc2, hown, hbw, hall⟩ := hrel
    obtain ⟨nx, cx, rfl⟩ := bytesRow_slice hown
    have HG := Lib.hid hg
    have HXL := Lib.hid hxl
    have HB := Lib.hid hb
    have HC2 := Lib.hid hc2
    have HOWN := Lib.hid hown
    have HALL := Lib.hid hall
    clear hg hxl hb hc2 hown hall
    have stop : ∀ (hs : ∀ s' r, rest ≠ textL s' ++ r) (s r : List UInt8), b ≠ textL s ++ r := fun hs s r e => by
      obtain ⟨s', _, h⟩ := text_split (HB.out.symm.trans e)
      exact hs s' r h
    have hz : ∀ s' : List UInt8, 2 ≤ (textL s').length := fun s' => by have := (textL_length s').1; omega
    match rest, hin, hc1, stop with
    | [], hin, hc1, stop =>
      have HS := Lib.hid (stop fun s' r e => by have := congrArg List.length e; rw [List.length_append] at this; have := hz s'; simp at *; omega)
      clear stop hz
      go_wp2_with fail
      refine bodyPost_ret (v := .tuple #[.string ⟨#[]⟩, .slice none 0 0, .bool false]) (by simp [results, Tryd.results43, go_sem]) rfl ⟨hbw, .inl ⟨rfl, HS.out⟩⟩
    | [c], hin, hc1, stop =>
      have HS := Lib.hid (stop fun s' r e => by have := congrArg List.length e; rw [List.length_append] at this; have := hz s'; simp at *; omega)
      clear stop hz
      go_wp2_with fail
      refine bodyPost_ret (v := .tuple #[.string ⟨#[]⟩, .slice none 0 0, .bool false]) (by simp [results, Tryd.results43, go_sem]) rfl ⟨hbw, .inl ⟨rfl, HS.out⟩⟩
    | c :: d :: rest, hin, hc1, stop =>
      obtain ⟨q, o, rfl⟩ : ∃ q o, nr = some ⟨q, o, none⟩ := by
        rcases hin with h | ⟨q, o, rfl, _⟩
        · cases h
        · exact ⟨q, o, rfl⟩
      have hcell : ∀ (W : World), Below w.heap.size w W → W.cell? ⟨q, o, none⟩ = some (.int .u8 (c.toNat : Int)) ∧ W.cell? ⟨q, o + 1, none⟩ = some (.int .u8 (d.toNat : Int)) := fun W hW => by
        rcases hin.below hW with h | ⟨q', o', e, h⟩
        · cases h
        · simp only [Option.some.injEq, Addr.mk.injEq, and_true] at e
          obtain ⟨rfl, rfl⟩ := e
          exact ⟨by have := h 0 (by simp); simpa using this, by have := h 1 (by simp); simpa using this⟩
      have ⟨c0, c1⟩ := hcell wr hbw
      have HT0 := Lib.hid hin
      have HCELL := Lib.hid hcell
      have HBW := Lib.hid hbw
      have HSTOP := Lib.hid stop
      obtain ⟨n, hn⟩ : ∃ n, (c :: d :: rest).length = n := ⟨_, rfl⟩
      have hn2 : n = rest.length + 2 := by rw [← hn]; rfl
      have HN2 := Lib.hid hn2
      rw [hn] at HG HXL hc1
      have hl1 : (2 : Int) ≤ (n : Int) := by omega
      have hl2 : (1 : Int) < (n : Int) := by omega
      have hl3 : (0 : Int) < (n : Int) := by omega
      rw [hn]
      clear hin hcell hbw stop hz hn hn2
      by_cases hc : c = 0
      · subst hc
        by_cases hd0 : d = 0
        · subst hd0
          have e0 : (((0 : UInt8).toNat : Nat) : Int) = 0 := rfl
          rw [e0] at c0 c1
          have hbk := fun m => bytes_back (bytesRow_later HOWN.out (show Below wr.heap.size wr (wr.drewN m) from ⟨rfl, rfl, rfl, Nat.le_refl _, fun _ _ => rfl⟩))
          have hc1' : (n : Int) ≤ (cr : Int) := by omega
          go_wp2_with fail
          go_quiet (fail)
          have hb2 : Below w.heap.size w (wr.drewN nq) := HBW.out.trans (Below.mono (show Below wr.heap.size wr (wr.drewN nq) from ⟨rfl, rfl, rfl, Nat.le_refl _, fun _ _ => rfl⟩) HBW.out.size)
          have HB2 := Lib.hid hb2
          have HT2 := Lib.hid (fun (W : World) (h : BytesIn W na b) => (HALL.out W h).cut2 (cr := cr) (by have := HN2.out; omega))
          generalize hnr : (if cr = 2 then some (⟨q, o, none⟩ : Addr) else some ⟨q, o + 2, none⟩) = nr2 at HT2 ⊢
          clear hb2 hnr
          go_wp2_with fail
          have en : n - 2 = rest.length := by have := HN2.out; omega
          refine bodyPost_ret (v := .tuple #[.string ⟨X.toArray⟩, .slice nr2 (n - 2) (cr - 2), .bool true]) (by simp [results, Tryd.results43, go_sem]) rfl ⟨HB2.out, .inr ⟨X, rest, _, rfl, ?_, fun W hW => ⟨_, cr - 2, by rw [en], HT2.out W hW.bytes, by have := HN2.out; omega, by have := HC2.out; omega⟩⟩⟩
          rw [HB.out]
          simp [textL, escsL]
        · by_cases hd : d = 255
          · subst hd
            have e0 : (((0 : UInt8).toNat : Nat) : Int) = 0 := rfl
            have e255 : (((255 : UInt8).toNat : Nat) : Int) = 255 := rfl
            rw [e0] at c0
            rw [e255] at c1
            have hc1' : (n : Int) ≤ (cr : Int) := by omega
            have hcr1 : ¬ cr = 1 := by omega
            have hB1 := HBW.out.size
            clear hd0
            go_wp2_with (at_builtin; refine wpList_lit rfl _ _ rfl (Took.refl HOWN.out) hB1 rfl [0] _ 1 rfl rfl rfl (by have := HLEN.out; have := HXL.out; simp; omega) ?_)
            intro nc cc W3 hW3
            have HO3 : Hid (W3.ownsRow w.heap.size 5 1 (.slice nc (X.length + 1) cc) (X ++ [0]).length (Lib.byteCells (X ++ [0]))) := Lib.hid hW3.own
            have HB3 := Lib.hid (HBW.out.trans (hW3.below))
            have d0 := (HCELL.out W3 HB3.out).1
            rw [e0] at d0
            clear hW3 c0 c1
            go_wp2_with fail
            all_goals
              go_roundg (gk - 1)
              case measure => have := HG.out; omega
              case rel =>
                have en : n - 1 - 1 = rest.length := by have := HN2.out; omega
                first
                  | refine ⟨X ++ [0], rest, _, cr - 1 - 1, by have := HG.out; have := HN2.out; omega, by have := HXL.out; have := HN2.out; rw [List.length_append]; simp only [List.length_cons, List.length_nil]; omega, by rw [HB.out]; simp [escsL, escL], by rw [en], ?_, by have := HN2.out; omega, by have := HC2.out; omega, by simpa using HO3.out, HB3.out, ?_⟩
                  | refine ⟨X ++ [0], rest, _, 0, by have := HG.out; have := HN2.out; omega, by have := HXL.out; have := HN2.out; rw [List.length_append]; simp only [List.length_cons, List.length_nil]; omega, by rw [HB.out]; simp [escsL, escL], by rw [en], ?_, by have := HN2.out; omega, by have := HC2.out; omega, by simpa using HO3.out, HB3.out, ?_⟩
                · first
                    | exact HT0.out.tail.tail
                    | (have hr0 : rest = [] := List.length_eq_zero_iff.1 (by have := HN2.out; omega)
                       rw [hr0]
                       exact .inl rfl)
                · first
                    | exact fun W h => (HALL.out W h).tail.tail
                    | (have hr0 : rest = [] := List.length_eq_zero_iff.1 (by have := HN2.out; omega)
                       rw [hr0]
                       exact fun _ _ => .inl rfl)
          · have HS := Lib.hid (HSTOP.out fun s' r => text_split2 hd0 hd)
            have e0 : (((0 : UInt8).toNat : Nat) : Int) = 0 := rfl
            rw [e0] at c0
            have hz1 : ((d.toNat : Int) == 0) = false := by rw [beq_eq_false_iff_ne]; have := zero_lt_byte hd0; omega
            have hz2 : ¬ (d.toNat : Int) = 0 := by have := zero_lt_byte hd0; omega
            have hz4 : ¬ (d.toNat : Int) = 255 := by
              intro e
              refine hd (UInt8.toNat_inj.1 ?_)
              have e2 : (255 : UInt8).toNat = 255 := rfl
              omega
            have hz3 : ((d.toNat : Int) == 255) = false := by rw [beq_eq_false_iff_ne]; exact hz4
            clear hd0 hd e0
            go_wp2_with fail
            refine bodyPost_ret (v := .tuple #[.string ⟨#[]⟩, .slice none 0 0, .bool false]) (by simp [results, Tryd.results43, go_sem]) rfl ⟨HBW.out, .inl ⟨rfl, HS.out⟩⟩
      · have hz1 : ((c.toNat : Int) == 0) = false := by rw [beq_eq_false_iff_ne]; have := zero_lt_byte hc; omega
        have hz2 : ¬ (c.toNat : Int) = 0 := by have := zero_lt_byte hc; omega
        have HC := Lib.hid hc
        clear hc
        have hc1' : (n : Int) ≤ (cr : Int) := by omega
        have hB1 := HBW.out.size
        go_wp2_with (at_builtin; refine wpList_lit rfl _ _ rfl (Took.refl HOWN.out) hB1 rfl [c] _ 1 rfl rfl (byte_of c) (by have := HLEN.out; have := HXL.out; simp; omega) ?_)
        intro nc cc W3 hW3
        have HO3 : Hid (W3.ownsRow w.heap.size 5 1 (.slice nc (X.length + 1) cc) (X ++ [c]).length (Lib.byteCells (X ++ [c]))) := Lib.hid hW3.own
        have HB3 := Lib.hid (HBW.out.trans (hW3.below))
        have d0 := (HCELL.out W3 HB3.out).1
        clear hW3 c0 c1
        go_wp2_with fail
        all_goals
          go_roundg (gk - 1)
          case measure => have := HG.out; omega
          case rel =>
            have en : n - 1 = (d :: rest).length := by have := HN2.out; simp only [List.length_cons]; omega
            refine ⟨X ++ [c], d :: rest, _, cr - 1, by have := HG.out; omega, by have := HXL.out; rw [List.length_append]; simp only [List.length_cons, List.length_nil] at en ⊢; omega, by rw [HB.out]; simp [escsL, escL, HC.out], by rw [en], ?_, by omega, by have := HC2.out; omega, by simpa using HO3.out, HB3.out, ?_⟩
            · first
                | exact HT0.out.tail
                | (exfalso; have := HN2.out; omega)
            · first
                | exact fun W h => (HALL.out W h).tail
                | (exfalso; have := HN2.out; omega)
end Go.Proofs.YtcbfbmidekmboaaDoor
