/- put: a step that leads to an item. -/
import Derived.Test.YtijibjdgnaphiaaDoorPputa
import Derived.Deep.DeepCutAuto
namespace Go.Proofs.YtijibjdgnaphiaaDoor
open Go.ChangeShapes Go.WideShapes Go.Deep Go.RowKit Go.Lib

theorem range5 {w : World} {b o : Nat} {c0 c1 c2 c3 c4 : Value} (h : w.rangeAt b o [c0, c1, c2, c3, c4]) :
    w.cell? ⟨b, o, none⟩ = some c0 ∧ w.cell? ⟨b, o + 1, none⟩ = some c1 ∧ w.cell? ⟨b, o + 2, none⟩ = some c2 ∧ w.cell? ⟨b, o + 3, none⟩ = some c3 ∧ w.cell? ⟨b, o + 4, none⟩ = some c4 :=
  ⟨h 0 _ rfl, h 1 _ rfl, h 2 _ rfl, h 3 _ rfl, h 4 _ rfl⟩

theorem box_past {V w5 : World} {b : Nat} {cs : Array Value} (h : V.heap[b]? = some (.cells cs 25 (0, 0))) (hb : Below V.heap.size V w5) : w5.heap[b]? = some (.cells cs 25 (0, 0)) := (hb.block _ (block_lt h)).trans h

theorem three_past {w w3 W : World} {a b c : Array Value} (hT : Three w.heap.size a b c w3) (hB : Below w.heap.size w w3) (hW : Below w3.heap.size w3 W) : Three w.heap.size a b c W ∧ Below w.heap.size w W :=
  ⟨hT.later (B := w3.heap.size) hW (by have := block_lt hT.h2; omega), hB.trans (hW.mono hB.size)⟩

/-- The box was made behind the call, .. -/
theorem past_new {w3 w5 : World} (h5 : Below w3.drew.heap.size w3.drew w5) (o : Obj) : Below w3.heap.size w3 (w5.alloc o) := by
  have h : Below w3.heap.size w3 w5 := (Below.refl _ _).drew.trans h5
  exact h.alloc h.size o

/-- .. or ahead of it. -/
theorem past_old {w3 w5 : World} {o : Obj} (h5 : Below (w3.alloc o).drew.heap.size (w3.alloc o).drew w5) : Below w3.heap.size w3 w5 :=
  ((Below.refl _ _).alloc (Nat.le_refl _) o).drew.trans (h5.mono (((Below.refl w3.heap.size w3).alloc (Nat.le_refl _) o).drew.size))

set_option maxHeartbeats 3200000 in
set_option maxRecDepth 100000 in
theorem put_stuck (k n : Int) (s : ByteArray) (na : Option Addr) (nc : Nat) (ns : List ByteArray) (xa : Option Addr) (xc : Nat) (xs : List AV) (x : AV) (p : ByteArray) (r : List ByteArray) (sb so sc : Nat) (w0 w : World) (lv : Nat) (hin0 : (AV.mk k n s na nc ns xa xc xs).In w0) (hxin0 : x.In w0) (hb0 : Below w0.heap.size w0 w) (hf : AV.formedJ (.mk k n s na nc ns xa xc xs) lv = true)
    (hp : w.cell? ⟨sb, so, none⟩ = some (.string p)) (h1 : 0 < p.size) (h2 : p.size ≤ 60) (hE : ErrV w) (hsc : r.length + 1 ≤ sc) (i : Nat) (hpl : (AV.mk k n s na nc ns xa xc xs).place p = some i) (hi : i < xs.length) (hRes : xs[i].putAt r x = none)
    (IH : Hid (∀ (W : World) (sa : Option Addr) (l c : Nat), Below w.heap.size w W → l = r.length → l ≤ c → (r = [] ∨ sa = some ⟨sb, so + 1, none⟩) → Calls Tryd.prog 48 #[xs[i].val, .slice sa l c, x.val] W (PutEnd (xs[i].putAt r x) w0.heap.size W))) :
    Calls Tryd.prog 48 #[(AV.mk k n s na nc ns xa xc xs).val, .slice (some ⟨sb, so, none⟩) (r.length + 1) sc, x.val] w (PutEnd ((AV.mk k n s na nc ns xa xc xs).putAt (p :: r) x) w0.heap.size w) := by
  have FI := Lib.hid (fun W (h : Below w.heap.size w W) => find_any (AV.mk k n s na nc ns xa xc xs) p W ((hin0.below hb0 (Nat.le_refl _)).below h (Nat.le_refl _)) h1 h2 (hE.later h) lv hf)
  have HPUT : Hid ((AV.mk k n s na nc ns xa xc xs).putAt (p :: r) x = match xs[i].putAt r x with | some z => some (.mk k n s na nc ns xa xc (xs.set i z)) | none => none) := by
    refine Lib.hid ?_
    rw [AV.putAt]
    simp only [hpl]
    rw [List.getElem?_eq_getElem hi]
    dsimp only
    cases AV.putAt r xs[i] x <;> rfl
  rw [HPUT.out]
  clear HPUT
  unfold FindEnd at FI
  rw [findI_some hpl, hpl] at FI
  have HIN0 := Lib.hid hin0
  have HXIN0 := Lib.hid hxin0
  have HB0 := Lib.hid hb0
  have HS0 : Hid (w0.heap.size ≤ w.heap.size) := Lib.hid hb0.size
  have hx24 := formed_len hf
  obtain ⟨bx, ox, rfl, hit⟩ := hin0.item (by intro e; rw [e] at hi; simp at hi)
  obtain ⟨hr, hyin⟩ := hit i hi
  have HYIN := Lib.hid hyin
  have hr1 : w.rangeAt bx (ox + i * 5) xs[i].row := AV.rangeAt_old (fun a ha => hb0.cell ha) hr
  obtain ⟨y, hy⟩ : ∃ y, xs[i] = y := ⟨_, rfl⟩
  rw [hy] at hr1 IH HYIN ⊢
  have HY := Lib.hid hy
  rw [hy] at hRes
  obtain ⟨R, hR⟩ : ∃ R, y.putAt r x = R := ⟨_, rfl⟩
  rw [hR] at IH hRes ⊢
  clear hpl hf hE hin0 hxin0 h1 h2 hb0 hit hr hyin hy hR
  obtain ⟨k2, n2, s2, na2, nc2, ns2, xa2, xc2, xs2⟩ := x
  obtain ⟨k3, n3, s3, na3, nc3, ns3, xa3, xc3, xs3⟩ := y
  simp only [AV.val, AV.row] at FI IH hr1 ⊢
  have HR1 := Lib.hid hr1
  have HB3 : Hid (Below w.heap.size w (((w.alloc (.cells #[.int .i64 k, .int .i64 n, .string s, .slice na ns.length nc, .slice (some ⟨bx, ox, none⟩) xs.length xc] 25)).alloc (.cells #[.int .i64 k2, .int .i64 n2, .string s2, .slice na2 ns2.length nc2, .slice xa2 xs2.length xc2] 25)).alloc (.cells #[.int .i64 0, .int .i64 0, .string ⟨#[]⟩, .slice none 0 0, .slice none 0 0] 25))) :=
    Lib.hid ((((Below.refl _ _).alloc (Nat.le_refl _) _).alloc (by simp) _).alloc (by simp; omega) _)
  have HT := Lib.hid (three_new w #[.int .i64 k, .int .i64 n, .string s, .slice na ns.length nc, .slice (some ⟨bx, ox, none⟩) xs.length xc] #[.int .i64 k2, .int .i64 n2, .string s2, .slice na2 ns2.length nc2, .slice xa2 xs2.length xc2] #[.int .i64 0, .int .i64 0, .string ⟨#[]⟩, .slice none 0 0, .slice none 0 0])
  have hrl : decide ((r.length : Int) + 1 = 0) = false := by rw [decide_eq_false_iff_not]; omega
  have hrl2 : (0 : Int) < (r.length : Int) + 1 := by omega
  clear hr1
  go_enter Tryd.func48, Tryd.ntmps48
  go_upto_region 1 with fail
  generalize (((w.alloc (.cells #[.int .i64 k, .int .i64 n, .string s, .slice na ns.length nc, .slice (some ⟨bx, ox, none⟩) xs.length xc] 25)).alloc (.cells #[.int .i64 k2, .int .i64 n2, .string s2, .slice na2 ns2.length nc2, .slice xa2 xs2.length xc2] 25)).alloc (.cells #[.int .i64 0, .int .i64 0, .string ⟨#[]⟩, .slice none 0 0, .slice none 0 0] 25)) = W3 at *
  have hp3 := cell_later hp HB3.out
  obtain ⟨a0, a1, a2, a3, a4⟩ := bx5 HT.out.h0
  have hq0 := fun d os => cell_regrown a0 d os
  have hq1 := fun d os => cell_regrown a1 d os
  have hq2 := fun d os => cell_regrown a2 d os
  have hq3 := fun d os => cell_regrown a3 d os
  have hq4 := fun d os => cell_regrown a4 d os
  have hq5 := fun d os => cell_regrown hp3 d os
  go_upto_region 3 with fail
  refine wp_region_quiet_below (by kernel_rfl) (by kernel_rfl) ?_
  repeat (go_big_quiet_step (exact Calls.regrown_of (FI.out _ (HB3.out.trans ((below_regrown _ _ _).mono HB3.out.size)))))
  refine wpQuiet_nil ?_
  intro _ hw'
  obtain ⟨⟨dq, osq⟩, hw''⟩ := hw'
  subst hw''
  have hbq := below_regrown W3 dq osq
  clear hq0 hq1 hq2 hq3 hq4 hq5
  generalize Go.Sort.grow (redrawn W3 dq) osq = w3 at *
  have HT3 := Lib.hid (HT.out.later (B := W3.heap.size) hbq (by have := block_lt HT.out.h2; omega))
  have HB4 := Lib.hid (HB3.out.trans (hbq.mono HB3.out.size))
  clear a0 a1 a2 a3 a4 hbq HB3 HT hp3 FI
  have a4 := (bx5 HT3.out.h0).2.2.2.2
  obtain ⟨b0, b1, b2, b3, b4⟩ := bx5 HT3.out.h1
  obtain ⟨g0, g1, g2, g3, g4⟩ := range5 (AV.rangeAt_old (fun a ha => HB4.out.cell ha) HR1.out)
  have lat : ∀ {a : Addr} {v : Value}, w3.cell? a = some v → ∀ o, (w3.alloc o).cell? a = some v := fun h o => cell_later h ((Below.refl w3.heap.size w3).alloc (Nat.le_refl _) o)
  have a4' := lat a4
  have b0' := lat b0
  have b1' := lat b1
  have b2' := lat b2
  have b3' := lat b3
  have b4' := lat b4
  have g0' := lat g0
  have g1' := lat g1
  have g2' := lat g2
  have g3' := lat g3
  have g4' := lat g4
  have HD : Hid (Below w.heap.size w w3.drew) := Lib.hid HB4.out.drew
  have HE : Hid (∀ o, Below w.heap.size w (w3.alloc o).drew) := Lib.hid (fun o => (HB4.out.alloc HB4.out.size o).drew)
  have HBOX : Hid ((w3.alloc (.cells #[.int .i64 0, .int .i64 0, .string ⟨#[]⟩, .slice none 0 0, .slice none 0 0] 25)).drew.heap[w3.heap.size]? = some (.cells #[.int .i64 0, .int .i64 0, .string ⟨#[]⟩, .slice none 0 0, .slice none 0 0] 25 (0, 0))) := Lib.hid (heap_alloc_new w3 _)
  have hi' : (i : Int) < (xs.length : Int) := by omega
  have hsc1 : (1 : Int) ≤ (r.length : Int) + 1 := by omega
  clear lat HR1
  have hcase : sc = 1 ∧ r = [] ∨ ¬ sc = 1 := by
    by_cases h : sc = 1
    · exact .inl ⟨h, List.length_eq_zero_iff.1 (by omega)⟩
    · exact .inr h
  subst hRes
  unfold PutEnd at IH
  simp only [AV.zero, AV.val, AV.row, List.length_nil] at IH
  rcases hcase with ⟨rfl, rfl⟩ | hs1
  all_goals
    go_upto_region 6 with fail
    go_cut [10, 11] (fun s10 s11 wx => s11 = .int .i64 4 ∧ Three w.heap.size #[.int .i64 k, .int .i64 n, .string s, .slice na ns.length nc, .slice (some ⟨bx, ox, none⟩) xs.length xc] #[.int .i64 k2, .int .i64 n2, .string s2, .slice na2 ns2.length nc2, .slice xa2 xs2.length xc2] #[.int .i64 0, .int .i64 0, .string ⟨#[]⟩, .slice none 0 0, .slice none 0 0] wx ∧ Below w.heap.size w wx)
    case first =>
      go_region_with (first
        | (go_at_call 48; (with_reducible refine (IH.out _ _ _ _ HD.out (by first | rfl | omega) (by first | exact Nat.zero_le _ | omega) (by first | exact .inl rfl | exact .inr rfl)).mono ?_); rintro e w5 ⟨hb5, rfl⟩)
        | (go_at_call 48; (with_reducible refine (IH.out _ _ _ _ (HE.out _) (by first | rfl | omega) (by first | exact Nat.zero_le _ | omega) (by first | exact .inl rfl | exact .inr rfl)).mono ?_); rintro e w5 ⟨hb5, rfl⟩; obtain ⟨u0, u1, u2, u3, u4⟩ := bx5 (box_past HBOX.out hb5); obtain ⟨v0, v1, v2, v3, v4⟩ := fz5 (box_past HBOX.out hb5)))
      all_goals
        go_wp2_with fail
        go_meet
        first
          | with_reducible exact ⟨rfl, three_past HT3.out HB4.out (past_new hb5 _)⟩
          | with_reducible exact ⟨rfl, three_past HT3.out HB4.out (below_five (past_old hb5) (Nat.le_refl _) _ _ _ _ _)⟩
    case rest =>
      obtain ⟨rfl, hT4, hB4⟩ := hcut
      obtain ⟨c0, c1, c2, c3, c4⟩ := bx5 hT4.h2
      obtain ⟨f0, f1, f2, f3, f4⟩ := fz5 hT4.h2
      have HB5 := Lib.hid hB4
      clear hT4 hB4
      go_wp2_with fail
      have hfin := below_five HB5.out (b := w.heap.size + 1 + 1) (by omega) (.int .i64 0) (.int .i64 0) (.string ⟨#[]⟩) (.slice none 0 0) (.slice none 0 0)
      refine bodyPost_ret (v := .tuple #[.agg #[.int .i64 0, .int .i64 0, .string ⟨#[]⟩, .slice none 0 0, .slice none 0 0], .int .i64 4]) (by simp [results, Tryd.results48, go_sem, c0, c1, c2, c3, c4]) rfl ⟨hfin, rfl⟩
end Go.Proofs.YtijibjdgnaphiaaDoor
