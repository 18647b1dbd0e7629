/- The document's put: a step that leads to an item, where nothing can be put below it. -/
import Derived.Test.YtijibjdgnaphiaaDoorRputi
namespace Go.Proofs.YtijibjdgnaphiaaDoor
open Go.ChangeShapes Go.WideShapes Go.Deep Go.RowKit Go.Lib

set_option maxHeartbeats 6400000 in
set_option maxRecDepth 100000 in
theorem rput_stuck (k n : Int) (s : ByteArray) (na : Option Addr) (nc : Nat) (ns : List ByteArray) (xa : Option Addr) (xc : Nat) (xs : List AV) (x : AV) (p : ByteArray) (r : List ByteArray) (sb so sc : Nat) (w0 w : World) (lv : Nat) (hin0 : (AV.mk k n s na nc ns xa xc xs).In w0) (hb0 : Below w0.heap.size w0 w) (hf : AV.formedJ (.mk k n s na nc ns xa xc xs) lv = true)
    (hp : w.cell? ⟨sb, so, none⟩ = some (.string p)) (h2 : p.size ≤ 60) (i : Nat) (hpl : (AV.mk k n s na nc ns xa xc xs).place p = some i) (hi : i < xs.length) (hr : r ≠ []) (hsc : r.length + 1 ≤ sc)
    (IH : Hid (∀ (W : World) (sa : Option Addr) (l c : Nat), Below w.heap.size w W → l = r.length → l ≤ c → sa = some ⟨sb, so + 1, none⟩ → Calls Tryd.prog 49 #[xs[i].val, .slice sa l c, x.val] W (PutEnd none w0.heap.size W))) :
    Calls Tryd.prog 49 #[(AV.mk k n s na nc ns xa xc xs).val, .slice (some ⟨sb, so, none⟩) (r.length + 1) sc, x.val] w (PutEnd none w0.heap.size w) := by
  obtain ⟨i9, j9, z90, z91, z92⟩ := info_parts info9
  obtain ⟨i25, j25, z250, z251, z252⟩ := info_parts info25
  have hin := hin0.below hb0 (Nat.le_refl _)
  have FI := Lib.hid (fun W (h : Below w.heap.size w W) => rplace_any (AV.mk k n s na nc ns xa xc xs) p W (hin.below h (Nat.le_refl _)) (by omega) lv hf)
  rw [hpl] at FI
  simp only [numI] at FI
  have hx24 := formed_len hf
  have hn24 := formed_names24 hf
  have hns0 := formed_zero2 hf
  have hxc : xs.length ≤ xc ∧ xc ≤ maxLen := by
    have h := hin
    rw [AV.In] at h
    exact ⟨h.2.2.2.2.2.1, h.2.2.2.2.2.2.1⟩
  have HIN0 := Lib.hid hin0
  have HB0 := Lib.hid hb0
  have HS0 : Hid (w0.heap.size ≤ w.heap.size) := Lib.hid hb0.size
  have HFO := Lib.hid hf
  obtain ⟨bx, ox, rfl, hit⟩ := hin.item (by intro e; rw [e] at hi; simp at hi)
  have HIT := Lib.hid (fun t ht => (hit t ht).1)
  have HNS := Lib.hid hin.names
  have hr1 : w.rangeAt bx (ox + i * 5) xs[i].row := (hit i hi).1
  obtain ⟨y, hy⟩ : ∃ y, xs[i] = y := ⟨_, rfl⟩
  rw [hy] at hr1 IH
  have hrl0 : 0 < r.length := List.length_pos_iff.2 hr
  clear hpl hf hin hin0 hb0 hit hy
  obtain ⟨k2, n2, s2, na2, nc2, ns2, xa2, xc2, xs2⟩ := x
  obtain ⟨k3, n3, s3, na3, nc3, ns3, xa3, xc3, xs3⟩ := y
  simp only [AV.val, AV.row] at FI IH hr1 ⊢
  have HR1 := Lib.hid hr1
  have hrl : (1 : Int) < (r.length : Int) + 1 := by omega
  have hrl2 : (0 : Int) < (r.length : Int) + 1 := by omega
  clear hr1
  have HB3 : Hid (Below w.heap.size w (((w.alloc (.cells #[.int .i64 k, .int .i64 n, .string s, .slice na ns.length nc, .slice (some ⟨bx, ox, none⟩) xs.length xc] 25)).alloc (.cells #[.int .i64 k2, .int .i64 n2, .string s2, .slice na2 ns2.length nc2, .slice xa2 xs2.length xc2] 25)).alloc (.cells #[.int .i64 0, .int .i64 0, .string ⟨#[]⟩, .slice none 0 0, .slice none 0 0] 25))) :=
    Lib.hid ((((Below.refl _ _).alloc (Nat.le_refl _) _).alloc (by simp) _).alloc (by simp; omega) _)
  have HT := Lib.hid (three_new w #[.int .i64 k, .int .i64 n, .string s, .slice na ns.length nc, .slice (some ⟨bx, ox, none⟩) xs.length xc] #[.int .i64 k2, .int .i64 n2, .string s2, .slice na2 ns2.length nc2, .slice xa2 xs2.length xc2] #[.int .i64 0, .int .i64 0, .string ⟨#[]⟩, .slice none 0 0, .slice none 0 0])
  go_enter Tryd.func49, Tryd.ntmps49
  go_upto_region 1 with fail
  generalize (((w.alloc (.cells #[.int .i64 k, .int .i64 n, .string s, .slice na ns.length nc, .slice (some ⟨bx, ox, none⟩) xs.length xc] 25)).alloc (.cells #[.int .i64 k2, .int .i64 n2, .string s2, .slice na2 ns2.length nc2, .slice xa2 xs2.length xc2] 25)).alloc (.cells #[.int .i64 0, .int .i64 0, .string ⟨#[]⟩, .slice none 0 0, .slice none 0 0] 25)) = W3 at *
  have hp3 := cell_later hp HB3.out
  obtain ⟨a0, a1, a2, a3, a4⟩ := bx5 HT.out.h0
  have hq0 := fun d os => cell_regrown a0 d os
  have hq1 := fun d os => cell_regrown a1 d os
  have hq2 := fun d os => cell_regrown a2 d os
  have hq3 := fun d os => cell_regrown a3 d os
  have hq4 := fun d os => cell_regrown a4 d os
  have hq5 := fun d os => cell_regrown hp3 d os
  refine wp_region_quiet_below (by kernel_rfl) (by kernel_rfl) ?_
  repeat (go_big_quiet_step (exact Calls.regrown_of (FI.out _ (HB3.out.trans ((below_regrown _ _ _).mono HB3.out.size)))))
  refine wpQuiet_nil ?_
  intro _ hw'
  obtain ⟨⟨dq, osq⟩, hw''⟩ := hw'
  subst hw''
  have hbq := below_regrown W3 dq osq
  clear hq0 hq1 hq2 hq3 hq4 hq5
  generalize Go.Sort.grow (redrawn W3 dq) osq = w3 at *
  have HT3 := Lib.hid (HT.out.later (B := W3.heap.size) hbq (by have := block_lt HT.out.h2; omega))
  have HB4 := Lib.hid (HB3.out.trans (hbq.mono HB3.out.size))
  clear a0 a1 a2 a3 a4 hbq HB3 HT hp3 FI hp
  have a4 := (bx5 HT3.out.h0).2.2.2.2
  obtain ⟨b0, b1, b2, b3, b4⟩ := bx5 HT3.out.h1
  obtain ⟨g0, g1, g2, g3, g4⟩ := range5 (AV.rangeAt_old (fun a ha => HB4.out.cell ha) HR1.out)
  have lat : ∀ {a : Addr} {v : Value}, w3.cell? a = some v → ∀ o, (w3.alloc o).cell? a = some v := fun h o => cell_later h ((Below.refl w3.heap.size w3).alloc (Nat.le_refl _) o)
  have a4' := lat a4
  have b0' := lat b0
  have b1' := lat b1
  have b2' := lat b2
  have b3' := lat b3
  have b4' := lat b4
  have g0' := lat g0
  have g1' := lat g1
  have g2' := lat g2
  have g3' := lat g3
  have g4' := lat g4
  have HD : Hid (Below w.heap.size w w3.drew) := Lib.hid HB4.out.drew
  have HE : Hid (∀ o, Below w.heap.size w (w3.alloc o).drew) := Lib.hid (fun o => (HB4.out.alloc HB4.out.size o).drew)
  have HBOX : Hid ((w3.alloc (.cells #[.int .i64 0, .int .i64 0, .string ⟨#[]⟩, .slice none 0 0, .slice none 0 0] 25)).drew.heap[w3.heap.size]? = some (.cells #[.int .i64 0, .int .i64 0, .string ⟨#[]⟩, .slice none 0 0, .slice none 0 0] 25 (0, 0))) := Lib.hid (heap_alloc_new w3 _)
  have hi' : (i : Int) < (xs.length : Int) := by omega
  have hsc1 : (1 : Int) ≤ (r.length : Int) + 1 := by omega
  have hs1 : ¬ sc = 1 := by omega
  clear lat HR1
  unfold PutEnd at IH
  simp only [AV.zero, AV.val, AV.row, List.length_nil] at IH
  go_upto_region 6 with fail
  go_cut [9, 10] (fun s10 s11 wx => s11 = .int .i64 4 ∧ Three w.heap.size #[.int .i64 k, .int .i64 n, .string s, .slice na ns.length nc, .slice (some ⟨bx, ox, none⟩) xs.length xc] #[.int .i64 k2, .int .i64 n2, .string s2, .slice na2 ns2.length nc2, .slice xa2 xs2.length xc2] #[.int .i64 0, .int .i64 0, .string ⟨#[]⟩, .slice none 0 0, .slice none 0 0] wx ∧ Below w.heap.size w wx)
  case first =>
    go_region_with (first
      | (go_at_call 49; (with_reducible refine (IH.out _ _ _ _ HD.out (by first | rfl | omega) (by first | exact Nat.zero_le _ | omega) rfl).mono ?_); rintro e w5 ⟨hb5, rfl⟩)
      | (go_at_call 49; (with_reducible refine (IH.out _ _ _ _ (HE.out _) (by first | rfl | omega) (by first | exact Nat.zero_le _ | omega) rfl).mono ?_); rintro e w5 ⟨hb5, rfl⟩; obtain ⟨u0, u1, u2, u3, u4⟩ := bx5 (box_past HBOX.out hb5); obtain ⟨v0, v1, v2, v3, v4⟩ := fz5 (box_past HBOX.out hb5)))
    all_goals
      go_wp2_with fail
      go_meet
      first
        | with_reducible exact ⟨rfl, three_past HT3.out HB4.out (past_new hb5 _)⟩
        | with_reducible exact ⟨rfl, three_past HT3.out HB4.out (below_five (past_old hb5) (Nat.le_refl _) _ _ _ _ _)⟩
  case rest =>
    obtain ⟨rfl, hT4, hB4⟩ := hcut
    obtain ⟨c0, c1, c2, c3, c4⟩ := bx5 hT4.h2
    obtain ⟨f0, f1, f2, f3, f4⟩ := fz5 hT4.h2
    have HB5 := Lib.hid hB4
    clear hT4 hB4
    go_wp2_with fail
    have hfin := below_five HB5.out (b := w.heap.size + 1 + 1) (by omega) (.int .i64 0) (.int .i64 0) (.string ⟨#[]⟩) (.slice none 0 0) (.slice none 0 0)
    refine bodyPost_ret (v := .tuple #[.agg #[.int .i64 0, .int .i64 0, .string ⟨#[]⟩, .slice none 0 0, .slice none 0 0], .int .i64 4]) (by simp [results, Tryd.results49, go_sem, c0, c1, c2, c3, c4]) rfl ⟨hfin, rfl⟩
end Go.Proofs.YtijibjdgnaphiaaDoor
