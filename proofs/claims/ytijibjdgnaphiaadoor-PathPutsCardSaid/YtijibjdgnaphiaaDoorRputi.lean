/- What is being filled stays so behind draws. -/
/- The document's put: where the last step leads to an item. -/
import Derived.Test.YtijibjdgnaphiaaDoorRputo
namespace Go.Proofs.YtijibjdgnaphiaaDoor
open Go.ChangeShapes Go.WideShapes Go.Deep Go.RowKit Go.Lib

theorem Out.drewN {Q : Nat} {k : Int} {W0 W : World} {na : Option Addr} {nc : Nat} {ns : List ByteArray} {xa : Option Addr} {xc : Nat} {xs : List AV} (h : Out Q k W0 na nc ns xa xc xs W) (q : Nat) : Out Q k W0 na nc ns xa xc xs (W.drewN q) :=
  ⟨h.box, h.nown, h.iown, h.past.trans ⟨rfl, rfl, rfl, Nat.le_refl _, fun _ _ => rfl⟩⟩
end Go.Proofs.YtijibjdgnaphiaaDoor

namespace Go.Proofs.YtijibjdgnaphiaaDoor
open Go.ChangeShapes Go.WideShapes Go.Deep Go.RowKit Go.Lib

theorem names_src {W : World} {na : Option Addr} {ns : List ByteArray} (h : AV.NamesIn W na ns) : (na = none → ns.length = 0) ∧ ∀ a, na = some a → ∀ j u, (ns.map Value.string)[j]? = some u → W.cell? (a.add j) = some u := by
  rcases h with rfl | ⟨b, o, rfl, hit⟩
  · exact ⟨fun _ => rfl, fun a _ j u hu => by simp at hu⟩
  · refine ⟨(fun h => by cases h), fun a ha j u hu => ?_⟩
    cases ha
    rw [List.getElem?_map, Option.map_eq_some_iff] at hu
    obtain ⟨y, hy, rfl⟩ := hu
    obtain ⟨hj, rfl⟩ := List.getElem?_eq_some_iff.1 hy
    rw [WideShapes.add_plain]
    exact hit j hj

theorem rows_src {W : World} {b o : Nat} {ys : List AV} (h : ∀ t (ht : t < ys.length), W.rangeAt b (o + t * 5) ys[t].row) : ∀ j u, (rows ys)[j]? = some u → W.cell? ((⟨b, o, none⟩ : Addr).add j) = some u := fun j u hu => by
  have hj : j < ys.length * 5 := by
    have := (List.getElem?_eq_some_iff.1 hu).1
    rwa [rows_length] at this
  have ht : j / 5 < ys.length := by omega
  have e : j = j / 5 * 5 + j % 5 := by omega
  rw [e, rows_at ys (j / 5) (j % 5) ht (by omega)] at hu
  have := h (j / 5) ht (j % 5) u hu
  rw [WideShapes.add_plain, show o + j = o + j / 5 * 5 + j % 5 by omega]
  exact this

theorem names_one (ns : List ByteArray) : ∀ u ∈ ns.map Value.string, u.oneCell' = true := by
  intro u hu
  obtain ⟨y, _, rfl⟩ := List.mem_map.1 hu
  rfl

/-- The value that was built lies there. -/
theorem built_apart {w0 W9 W : World} {P Q : Nat} {k : Int} {na : Option Addr} {nc : Nat} {ns : List ByteArray} {xa : Option Addr} {xc : Nat} {xs : List AV} (hO : Out Q k W9 na nc ns xa xc xs W) (hk : (Lit.int .i64 k).wf = true) (hP : P ≤ Q) (hsz : ∀ x ∈ ns, x.size ≤ maxLen)
    {Wf : World} (hWf : ∀ a : Addr, Q + 1 ≤ a.block → a.block < W.heap.size → Wf.cell? a = W.cell? a) (hWs : W.heap.size ≤ Wf.heap.size) (hX : ∀ x ∈ xs, x.Apart w0.heap.size P Wf) : (AV.mk k 0 ⟨#[]⟩ na nc ns xa xc xs).Apart w0.heap.size P Wf := by
  intro WZ hWZ
  exact rows_in hk (by decide) (Nat.zero_le _) hO.nown hO.iown hsz (fun x hx => hX x hx WZ hWZ) fun a h1 h2 => (hWZ a (.inr (by omega)) (by omega)).trans (hWf a h1 h2)

theorem formed_names24 {k n : Int} {s : ByteArray} {na : Option Addr} {nc : Nat} {ns : List ByteArray} {xa : Option Addr} {xc : Nat} {xs : List AV} {lv : Nat} (h : AV.formedJ (.mk k n s na nc ns xa xc xs) lv = true) : ns.length ≤ 24 := by
  have hl := formed_len h
  rw [AV.formedJ] at h
  repeat' split at h
  all_goals (try (cases h; done))
  all_goals simp only [Bool.and_eq_true, decide_eq_true_eq] at h
  · rw [h.2.2.1]; simp
  · rw [h.2.1]; simp
  · rw [h.2.2.1]; simp
  · rw [h.2.2.1]; simp
  · have := h.2.2.1; omega

/-- A value with items has no number and no text. -/
theorem formed_zero2 {k n : Int} {s : ByteArray} {na : Option Addr} {nc : Nat} {ns : List ByteArray} {xa : Option Addr} {xc : Nat} {xs : List AV} {lv : Nat} (h : AV.formedJ (.mk k n s na nc ns xa xc xs) lv = true) : xs ≠ [] ∨ k = 6 → n = 0 ∧ s = ⟨#[]⟩ := by
  intro hne
  have e : s.toList = [] → s = ⟨#[]⟩ := fun h => toList_inj (h.trans (by simp [ByteArray.toList_eq]))
  rw [AV.formedJ] at h
  split at h
  · cases h
  split at h
  · rename_i hk
    simp only [Bool.and_eq_true, decide_eq_true_eq] at h
    rcases hne with hne | hne
    · exact absurd h.2.2.2 hne
    · omega
  split at h
  · rename_i hk
    simp only [Bool.and_eq_true, decide_eq_true_eq] at h
    rcases hne with hne | hne
    · exact absurd h.2.2 hne
    · omega
  split at h
  · rename_i hk
    simp only [Bool.and_eq_true, decide_eq_true_eq] at h
    rcases hne with hne | hne
    · exact absurd h.2.2.2 hne
    · omega
  split at h
  · simp only [Bool.and_eq_true, decide_eq_true_eq] at h
    exact ⟨h.1, e h.2.1⟩
  split at h
  · simp only [Bool.and_eq_true, decide_eq_true_eq] at h
    exact ⟨h.1, e h.2.1⟩
  · cases h

set_option maxHeartbeats 6400000 in
set_option maxRecDepth 100000 in
theorem rput_here (k n : Int) (s : ByteArray) (na : Option Addr) (nc : Nat) (ns : List ByteArray) (xa : Option Addr) (xc : Nat) (xs : List AV) (x : AV) (p : ByteArray) (sb so sc : Nat) (w0 w : World) (lv : Nat) (hin0 : (AV.mk k n s na nc ns xa xc xs).In w0) (hxin0 : x.In w0) (hb0 : Below w0.heap.size w0 w) (hf : AV.formedJ (.mk k n s na nc ns xa xc xs) lv = true)
    (hp : w.cell? ⟨sb, so, none⟩ = some (.string p)) (h2 : p.size ≤ 60) (i : Nat) (hpl : (AV.mk k n s na nc ns xa xc xs).place p = some i) (hi : i < xs.length) :
    Calls Tryd.prog 49 #[(AV.mk k n s na nc ns xa xc xs).val, .slice (some ⟨sb, so, none⟩) 1 sc, x.val] w (PutEnd (some (.mk k n s na nc ns xa xc (xs.set i x))) w0.heap.size w) := by
  obtain ⟨i9, j9, z90, z91, z92⟩ := info_parts info9
  obtain ⟨i25, j25, z250, z251, z252⟩ := info_parts info25
  have hin := hin0.below hb0 (Nat.le_refl _)
  have FI := Lib.hid (fun W (h : Below w.heap.size w W) => rplace_any (AV.mk k n s na nc ns xa xc xs) p W (hin.below h (Nat.le_refl _)) (by omega) lv hf)
  rw [hpl] at FI
  simp only [numI] at FI
  have hx24 := formed_len hf
  have hn24 := formed_names24 hf
  have hns0 := formed_zero2 hf
  have hxc : xs.length ≤ xc ∧ xc ≤ maxLen := by
    have h := hin
    rw [AV.In] at h
    exact ⟨h.2.2.2.2.2.1, h.2.2.2.2.2.2.1⟩
  have HIN0 := Lib.hid hin0
  have HXIN0 := Lib.hid hxin0
  have HB0 := Lib.hid hb0
  have HFO := Lib.hid hf
  obtain ⟨bx, ox, rfl, hit⟩ := hin.item (by intro e; rw [e] at hi; simp at hi)
  have HIT := Lib.hid (fun t ht => (hit t ht).1)
  have HNS := Lib.hid hin.names
  clear hpl hf hin hin0 hxin0 hb0 hit
  obtain ⟨k2, n2, s2, na2, nc2, ns2, xa2, xc2, xs2⟩ := x
  simp only [AV.val, AV.row] at FI ⊢
  have HB3 : Hid (Below w.heap.size w (((w.alloc (.cells #[.int .i64 k, .int .i64 n, .string s, .slice na ns.length nc, .slice (some ⟨bx, ox, none⟩) xs.length xc] 25)).alloc (.cells #[.int .i64 k2, .int .i64 n2, .string s2, .slice na2 ns2.length nc2, .slice xa2 xs2.length xc2] 25)).alloc (.cells #[.int .i64 0, .int .i64 0, .string ⟨#[]⟩, .slice none 0 0, .slice none 0 0] 25))) :=
    Lib.hid ((((Below.refl _ _).alloc (Nat.le_refl _) _).alloc (by simp) _).alloc (by simp; omega) _)
  have HT := Lib.hid (three_new w #[.int .i64 k, .int .i64 n, .string s, .slice na ns.length nc, .slice (some ⟨bx, ox, none⟩) xs.length xc] #[.int .i64 k2, .int .i64 n2, .string s2, .slice na2 ns2.length nc2, .slice xa2 xs2.length xc2] #[.int .i64 0, .int .i64 0, .string ⟨#[]⟩, .slice none 0 0, .slice none 0 0])
  go_enter Tryd.func49, Tryd.ntmps49
  go_upto_region 1 with fail
  generalize (((w.alloc (.cells #[.int .i64 k, .int .i64 n, .string s, .slice na ns.length nc, .slice (some ⟨bx, ox, none⟩) xs.length xc] 25)).alloc (.cells #[.int .i64 k2, .int .i64 n2, .string s2, .slice na2 ns2.length nc2, .slice xa2 xs2.length xc2] 25)).alloc (.cells #[.int .i64 0, .int .i64 0, .string ⟨#[]⟩, .slice none 0 0, .slice none 0 0] 25)) = W3 at *
  have hp3 := cell_later hp HB3.out
  obtain ⟨a0, a1, a2, a3, a4⟩ := bx5 HT.out.h0
  have hq0 := fun d os => cell_regrown a0 d os
  have hq1 := fun d os => cell_regrown a1 d os
  have hq2 := fun d os => cell_regrown a2 d os
  have hq3 := fun d os => cell_regrown a3 d os
  have hq4 := fun d os => cell_regrown a4 d os
  have hq5 := fun d os => cell_regrown hp3 d os
  refine wp_region_quiet_below (by kernel_rfl) (by kernel_rfl) ?_
  repeat (go_big_quiet_step (exact Calls.regrown_of (FI.out _ (HB3.out.trans ((below_regrown _ _ _).mono HB3.out.size)))))
  refine wpQuiet_nil ?_
  intro _ hw'
  obtain ⟨⟨dq, osq⟩, hw''⟩ := hw'
  subst hw''
  have hbq := below_regrown W3 dq osq
  clear hq0 hq1 hq2 hq3 hq4 hq5
  generalize Go.Sort.grow (redrawn W3 dq) osq = w3 at *
  have HT3 := Lib.hid (HT.out.later (B := W3.heap.size) hbq (by have := block_lt HT.out.h2; omega))
  have HB4 := Lib.hid (HB3.out.trans (hbq.mono HB3.out.size))
  clear a0 a1 a2 a3 a4 hbq HB3 HT hp3 FI hp
  obtain ⟨a0, a1, a2, a3, a4⟩ := bx5 HT3.out.h0
  go_upto_region 11 with fail
  have HO1 := Lib.hid (Out.new (k := k) w3)
  have HT4 := Lib.hid (HT3.out.later (B := w3.heap.size) HO1.out.past (by have := block_lt HT3.out.h2; omega))
  have HPS : Hid (w.heap.size + 3 ≤ w3.heap.size) := Lib.hid (by have := block_lt HT3.out.h2; omega)
  clear a0 a1 a2 a3 a4
  obtain ⟨Q, hQ⟩ : ∃ Q, w3.heap.size = Q := ⟨_, rfl⟩
  rw [hQ] at HO1
  simp only [hQ]
  have HQ := Lib.hid hQ
  clear hQ
  generalize w3.alloc (.cells #[.int .i64 k, .int .i64 0, .string ⟨#[]⟩, .slice none 0 0, .slice none 0 0] 25) = w4 at *
  have a3 := (bx5 HT4.out.h0).2.2.2.1
  have c3 := (bx5 HO1.out.box).2.2.2.1
  have hns := names_src ((HNS.out.1.below HB4.out).below (show Below w3.heap.size w3 w4 from by rw [HQ.out]; exact HO1.out.past))
  have HSRC := Lib.hid hns
  have hq4 := HO1.out.lt
  clear hns
  go_wp2_with (at_builtin; refine wpList_append_any _ rfl _ _ 22 rfl (Q + 1) 9 i9 (.string ⟨#[]⟩) 1 16 Tryd.underlying22 j9 z90 z91 z92 rfl (by decide) (.slice none 0 0) 0 [] rfl HO1.out.nown na ns.length nc (ns.map Value.string) rfl (by simp) HSRC.out.1 HSRC.out.2 (names_one ns) (by unfold maxLen; omega) (by omega) hq4 ?_)
  intro v5 w5 ho5 hg5
  obtain ⟨na5, nc5, rfl, hc5, hf5, HO5'⟩ := HO1.out.names (Below.refl _ _) (ms := ns) (Nat.zero_add _) (by simpa using ho5) hg5
  have HO5 := Lib.hid HO5'
  clear HO5' ho5 hg5 a3 c3 HSRC hq4
  go_upto_region 12 with fail
  have hxc1 := hxc.1
  have hxc2 := hxc.2
  unfold maxLen at hxc2
  have HT6 := Lib.hid (HT3.out.later (B := Q) (by have := HO5.out.past; exact this) (by have := HPS.out; have := HQ.out; omega))
  generalize w5.setCell ⟨Q, 3, none⟩ (.slice na5 ns.length nc5) = w6 at *
  clear hc5 hf5 HO1 HT4
  have a4 := (bx5 HT6.out.h0).2.2.2.2
  have c4 := (bx5 HO5.out.box).2.2.2.2
  have HW6 : Hid (Below w.heap.size w w6) := Lib.hid (HB4.out.trans (HO5.out.past.mono (by have := HPS.out; have := HQ.out; omega)))
  have hsrc := rows_src (W := w6) (b := bx) (o := ox) (ys := xs.take i) (fun t ht => by
    rw [List.length_take] at ht
    rw [List.getElem_take]
    exact AV.rangeAt_old (fun a ha => HW6.out.cell ha) (HIT.out t (by omega)))
  have HSRC := Lib.hid hsrc
  have hq6 := HO5.out.lt
  have htl : (xs.take i).length = i := by rw [List.length_take]; omega
  have HTL := Lib.hid htl
  have HN12 : Hid ((rows (xs.take i)).length = i * 5) := Lib.hid (by rw [rows_length, htl])
  have hi1 : (i : Int) ≤ (xc : Int) := by omega
  clear hsrc htl
  obtain ⟨Y1, hY1⟩ : ∃ Y, xs.take i = Y := ⟨_, rfl⟩
  rw [hY1] at HSRC HTL HN12
  have HY1 := Lib.hid hY1
  clear hY1
  go_region_law (refine step_append_any _ rfl (.tmp 53) (.tmp 57) 23 rfl (Q + 1) 25 i25 (.agg #[.int .i64 0, .int .i64 0, .string ⟨#[]⟩, .slice none 0 0, .slice none 0 0]) 5 80 Tryd.underlying23 j25 z250 z251 z252 rfl (by decide) (.slice none 0 0) 0 [] rfl HO5.out.iown (some ⟨bx, ox, none⟩) i xc (rows Y1) rfl HN12.out (by intro h; cases h) (fun a ha => by cases ha; exact HSRC.out) (rows_cells _) (by unfold maxLen; omega) (by omega) hq6 ?_; intro v7 w7 ho7 hg7; obtain ⟨xa7, xc7, rfl, hc7, hf7, HO7'⟩ := HO5.out.items (by first | exact Below.refl _ _ | exact ⟨rfl, rfl, rfl, Nat.le_refl _, fun _ _ => rfl⟩) (v' := v7) (n' := 0 + i) (ys := Y1) (by rw [HTL.out, Nat.zero_add]) ho7 hg7; have HO7 := Lib.hid HO7'; clear HO7' ho7 hg7)
  all_goals
    have HT8 := Lib.hid (HT3.out.later (B := Q) (by have := HO7.out.past; exact this) (by have := HPS.out; have := HQ.out; omega))
    have hl1 : Y1.length ≤ 24 := by have := HTL.out; omega
    have HW8 : Hid (Below w.heap.size w (w7.setCell ⟨Q, 4, none⟩ (.slice xa7 Y1.length xc7))) := Lib.hid (HB4.out.trans (HO7.out.past.mono (by have := HPS.out; have := HQ.out; omega)))
    clear hc7 hf7 HSRC HN12 hq6 hi1 HO5 HT6 HW6
    go_upto_region 13 with fail
    generalize w7.setCell ⟨Q, 4, none⟩ (.slice xa7 Y1.length xc7) = w8 at *
    obtain ⟨b0, b1, b2, b3, b4⟩ := bx5 HT8.out.h1
    have c4 := (bx5 HO7.out.box).2.2.2.2
    have hq8 := HO7.out.lt
    have hsz8 : Q + 1 ≤ (w8.alloc (.cells #[.int .i64 k2, .int .i64 n2, .string s2, .slice na2 ns2.length nc2, .slice xa2 xs2.length xc2] 25)).heap.size := by simp; omega
    go_wp2_with (at_builtin; refine wpList_append_any _ rfl _ _ 23 rfl (Q + 1) 25 i25 (.agg #[.int .i64 0, .int .i64 0, .string ⟨#[]⟩, .slice none 0 0, .slice none 0 0]) 5 80 Tryd.underlying23 j25 z250 z251 z252 rfl (by decide) (.slice xa7 Y1.length xc7) Y1.length (rows Y1) rfl (HO7.out.iown.alloc _) (some ⟨w8.heap.size, 0, none⟩) 1 1 (AV.mk k2 n2 s2 na2 nc2 ns2 xa2 xc2 xs2).row rfl rfl (by intro h; cases h) (fun a ha => by cases ha; exact World.news_of_block (heap_alloc_new w8 _)) (row_cells _) (by unfold maxLen; omega) (by omega) hsz8 ?_)
    intro v9 w9 ho9 hg9
    obtain ⟨Y2, hY2⟩ : ∃ Y, Y1 ++ [AV.mk k2 n2 s2 na2 nc2 ns2 xa2 xc2 xs2] = Y := ⟨_, rfl⟩
    have hl2 : Y1.length + 1 = Y2.length := by rw [← hY2]; simp
    have hr2 : rows Y1 ++ (AV.mk k2 n2 s2 na2 nc2 ns2 xa2 xc2 xs2).row = rows Y2 := by rw [← hY2, rows_append]; simp [rows]
    rw [hr2] at ho9
    obtain ⟨xa9, xc9, rfl, hc9, hf9, HO9'⟩ := HO7.out.items ((Below.refl _ _).alloc (Nat.le_refl _) _) (v' := v9) (n' := Y1.length + 1) (ys := Y2) hl2 ho9 hg9
    have HO9 := Lib.hid HO9'
    have HY2 := Lib.hid hY2
    have hl3 : Y2.length ≤ 25 := by omega
    have HL2 := Lib.hid hl2
    clear HO9' ho9 hg9 hY2 hr2 hl2 b0 b1 b2 b3 b4 c4 hq8 hsz8
    have HT10 := Lib.hid (HT3.out.later (B := Q) (by have := HO9.out.past; exact this) (by have := HPS.out; have := HQ.out; omega))
    have HW10 : Hid (Below w.heap.size w (w9.setCell ⟨Q, 4, none⟩ (.slice xa9 Y2.length xc9))) := Lib.hid (HB4.out.trans (HO9.out.past.mono (by have := HPS.out; have := HQ.out; omega)))
    go_upto_region 14 with fail
    generalize w9.setCell ⟨Q, 4, none⟩ (.slice xa9 Y2.length xc9) = w10 at *
    clear hc9 hf9 HO7 HT8 HW8
    have a4 := (bx5 HT10.out.h0).2.2.2.2
    have c4 := (bx5 HO9.out.box).2.2.2.2
    have hq10 := HO9.out.lt
    have hw1 : IntKind.i64.wrap ((i : Int) + 1) = (i : Int) + 1 := by rw [IntKind.wrap_i64]; omega
    have hi2 : (i : Int) + 1 ≤ (xs.length : Int) := by omega
    have hi3 : (xs.length : Int) ≤ (xc : Int) := by omega
    have hi4 : ((i : Int) + 1).toNat = i + 1 := by omega
    have hi5 : (0 : Int) ≤ (i : Int) + 1 := by omega
    obtain ⟨Y3, hY3⟩ : ∃ Y, xs.drop (i + 1) = Y := ⟨_, rfl⟩
    obtain ⟨Y4, hY4⟩ : ∃ Y, Y2 ++ Y3 = Y := ⟨_, rfl⟩
    have HR4 : Hid (rows Y2 ++ rows Y3 = rows Y4) := Lib.hid (by rw [← hY4, rows_append])
    have HL3 : Hid (Y3.length = xs.length - (i + 1)) := Lib.hid (by rw [← hY3, List.length_drop])
    have HL4 : Hid (Y4.length = Y2.length + Y3.length) := Lib.hid (by rw [← hY4, List.length_append])
    have HN14 : Hid ((rows Y3).length = (xs.length - (i + 1)) * 5) := Lib.hid (by rw [rows_length, HL3.out])
    have HY3 := Lib.hid hY3
    have HY4 := Lib.hid hY4
    clear hY3 hY4
    have hcp : xc = i + 1 ∨ ¬ xc = i + 1 := Classical.em _
    rcases hcp with hcp | hcp
    · have HSRC : Hid (∀ j u, (rows Y3)[j]? = some u → w10.cell? ((⟨bx, ox, none⟩ : Addr).add j) = some u) := Lib.hid (fun j u hu => by
        have h0 : Y3 = [] := List.eq_nil_of_length_eq_zero (by have := HL3.out; omega)
        rw [h0] at hu
        simp [rows] at hu)
      go_region_law (refine step_append_any _ rfl (.tmp 67) (.tmp 72) 23 rfl (Q + 1) 25 i25 (.agg #[.int .i64 0, .int .i64 0, .string ⟨#[]⟩, .slice none 0 0, .slice none 0 0]) 5 80 Tryd.underlying23 j25 z250 z251 z252 rfl (by decide) (.slice xa9 Y2.length xc9) Y2.length (rows Y2) rfl HO9.out.iown (some ⟨bx, ox, none⟩) _ _ (rows Y3) rfl (by have := HN14.out; omega) (by intro h; cases h) (fun a ha => by cases ha; exact HSRC.out) (rows_cells _) (by have := HL3.out; unfold maxLen; omega) (by have := HL3.out; omega) hq10 ?_; intro v11 w11 ho11 hg11; rw [HR4.out] at ho11; obtain ⟨xa11, xc11, rfl, hc11, hf11, HO11'⟩ := HO9.out.items (by first | exact Below.refl _ _ | exact ⟨rfl, rfl, rfl, Nat.le_refl _, fun _ _ => rfl⟩) (v' := v11) (n' := _) (ys := Y4) (by have := HL3.out; have := HL4.out; omega) ho11 hg11; have HO11 := Lib.hid HO11'; clear HO11' ho11 hg11)
      all_goals
        have HT12 := Lib.hid (HT3.out.later (B := Q) (by have := HO11.out.past; exact this) (by have := HPS.out; have := HQ.out; omega))
        have HW12 : Hid (Below w.heap.size w (w11.setCell ⟨Q, 4, none⟩ (.slice xa11 Y4.length xc11))) := Lib.hid (HB4.out.trans (HO11.out.past.mono (by have := HPS.out; have := HQ.out; omega)))
        clear hc11 hf11 HO9 HT10 HW10 hq10 hw1 hi2 hi3 hi4 hi5
        go_upto_region 15 with fail
        generalize w11.setCell ⟨Q, 4, none⟩ (.slice xa11 Y4.length xc11) = w12 at *
        obtain ⟨d0, d1, d2, d3, d4⟩ := bx5 HO11.out.box
        obtain ⟨c0, c1, c2, c3, c4⟩ := bx5 HT12.out.h2
        obtain ⟨f0, f1, f2, f3, f4⟩ := fz5 HT12.out.h2
        have hQP : w.heap.size + 3 ≤ Q := by have := HPS.out; have := HQ.out; omega
        go_wp2_with fail
        have hfin := below_five HW12.out (b := w.heap.size + 1 + 1) (by omega) (.int .i64 k) (.int .i64 0) (.string ⟨#[]⟩) (.slice na5 ns.length nc5) (.slice xa11 Y4.length xc11)
        refine bodyPost_ret (v := .tuple #[.agg #[.int .i64 k, .int .i64 0, .string ⟨#[]⟩, .slice na5 ns.length nc5, .slice xa11 Y4.length xc11], .int .i64 0]) (by simp [results, Tryd.results49, go_sem, c0, c1, c2, c3, c4]) rfl ⟨hfin, .mk k 0 ⟨#[]⟩ na5 nc5 ns xa11 xc11 Y4, by simp [AV.val, AV.row], ?_, ?_⟩
        · have hY : Y4 = xs.set i (AV.mk k2 n2 s2 na2 nc2 ns2 xa2 xc2 xs2) := by
            rw [← HY4.out, ← HY3.out, ← HY2.out, ← HY1.out, List.set_eq_take_append_cons_drop, if_pos hi, List.append_assoc]
            rfl
          have hk : (Lit.int .i64 k).wf = true := by
            have h := HIN0.out
            rw [AV.In] at h
            exact h.1
          have hold := HB0.out.trans (hfin.mono HB0.out.size)
          refine built_apart HO11.out hk (by omega) HNS.out.2 (fun a h1 h2 => ?_) (Nat.le_of_eq (by simp)) (fun y hy => ?_)
          · rw [World.cell?_setCell_far _ _ _ _ (by simp; omega), World.cell?_setCell_far _ _ _ _ (by simp; omega), World.cell?_setCell_far _ _ _ _ (by simp; omega), World.cell?_setCell_far _ _ _ _ (by simp; omega), World.cell?_setCell_far _ _ _ _ (by simp; omega)]
          · rw [hY] at hy
            rcases List.mem_or_eq_of_mem_set hy with h | h
            · obtain ⟨b, o, _, hit⟩ := HIN0.out.item (by intro e; rw [e] at h; cases h)
              obtain ⟨t, ht, rfl⟩ := List.mem_iff_getElem.1 h
              exact (hit t ht).2.apart hold _
            · rw [h]
              exact HXIN0.out.apart hold _
        · have hY : Y4 = xs.set i (AV.mk k2 n2 s2 na2 nc2 ns2 xa2 xc2 xs2) := by
            rw [← HY4.out, ← HY3.out, ← HY2.out, ← HY1.out, List.set_eq_take_append_cons_drop, if_pos hi, List.append_assoc]
            rfl
          obtain ⟨rfl, rfl⟩ := hns0 (.inl (by intro e; rw [e] at hi; simp at hi))
          rw [hY]
          exact set_eqv i (AV.eqv_refl _)
    · have HSRC : Hid (∀ j u, (rows Y3)[j]? = some u → w10.cell? ((⟨bx, ox + (i + 1) * 5, none⟩ : Addr).add j) = some u) := Lib.hid (rows_src (fun t ht => by
        have hlt : i + 1 + t < xs.length := by have := HL3.out; omega
        have e : Y3[t] = xs[i + 1 + t] := by
          have h := HY3.out
          subst h
          rw [List.getElem_drop]
        rw [e]
        have := AV.rangeAt_old (fun a ha => HW10.out.cell ha) (HIT.out (i + 1 + t) hlt)
        rw [show ox + (i + 1) * 5 + t * 5 = ox + (i + 1 + t) * 5 by omega]
        exact this))
      go_region_law (refine step_append_any _ rfl (.tmp 67) (.tmp 72) 23 rfl (Q + 1) 25 i25 (.agg #[.int .i64 0, .int .i64 0, .string ⟨#[]⟩, .slice none 0 0, .slice none 0 0]) 5 80 Tryd.underlying23 j25 z250 z251 z252 rfl (by decide) (.slice xa9 Y2.length xc9) Y2.length (rows Y2) rfl HO9.out.iown (some ⟨bx, ox + (i + 1) * 5, none⟩) _ _ (rows Y3) rfl (by have := HN14.out; omega) (by intro h; cases h) (fun a ha => by cases ha; exact HSRC.out) (rows_cells _) (by have := HL3.out; unfold maxLen; omega) (by have := HL3.out; omega) hq10 ?_; intro v11 w11 ho11 hg11; rw [HR4.out] at ho11; obtain ⟨xa11, xc11, rfl, hc11, hf11, HO11'⟩ := HO9.out.items (by first | exact Below.refl _ _ | exact ⟨rfl, rfl, rfl, Nat.le_refl _, fun _ _ => rfl⟩) (v' := v11) (n' := _) (ys := Y4) (by have := HL3.out; have := HL4.out; omega) ho11 hg11; have HO11 := Lib.hid HO11'; clear HO11' ho11 hg11)
      all_goals
        have HT12 := Lib.hid (HT3.out.later (B := Q) (by have := HO11.out.past; exact this) (by have := HPS.out; have := HQ.out; omega))
        have HW12 : Hid (Below w.heap.size w (w11.setCell ⟨Q, 4, none⟩ (.slice xa11 Y4.length xc11))) := Lib.hid (HB4.out.trans (HO11.out.past.mono (by have := HPS.out; have := HQ.out; omega)))
        clear hc11 hf11 HO9 HT10 HW10 hq10 hw1 hi2 hi3 hi4 hi5
        go_upto_region 15 with fail
        generalize w11.setCell ⟨Q, 4, none⟩ (.slice xa11 Y4.length xc11) = w12 at *
        obtain ⟨d0, d1, d2, d3, d4⟩ := bx5 HO11.out.box
        obtain ⟨c0, c1, c2, c3, c4⟩ := bx5 HT12.out.h2
        obtain ⟨f0, f1, f2, f3, f4⟩ := fz5 HT12.out.h2
        have hQP : w.heap.size + 3 ≤ Q := by have := HPS.out; have := HQ.out; omega
        go_wp2_with fail
        have hfin := below_five HW12.out (b := w.heap.size + 1 + 1) (by omega) (.int .i64 k) (.int .i64 0) (.string ⟨#[]⟩) (.slice na5 ns.length nc5) (.slice xa11 Y4.length xc11)
        refine bodyPost_ret (v := .tuple #[.agg #[.int .i64 k, .int .i64 0, .string ⟨#[]⟩, .slice na5 ns.length nc5, .slice xa11 Y4.length xc11], .int .i64 0]) (by simp [results, Tryd.results49, go_sem, c0, c1, c2, c3, c4]) rfl ⟨hfin, .mk k 0 ⟨#[]⟩ na5 nc5 ns xa11 xc11 Y4, by simp [AV.val, AV.row], ?_, ?_⟩
        · have hY : Y4 = xs.set i (AV.mk k2 n2 s2 na2 nc2 ns2 xa2 xc2 xs2) := by
            rw [← HY4.out, ← HY3.out, ← HY2.out, ← HY1.out, List.set_eq_take_append_cons_drop, if_pos hi, List.append_assoc]
            rfl
          have hk : (Lit.int .i64 k).wf = true := by
            have h := HIN0.out
            rw [AV.In] at h
            exact h.1
          have hold := HB0.out.trans (hfin.mono HB0.out.size)
          refine built_apart HO11.out hk (by omega) HNS.out.2 (fun a h1 h2 => ?_) (Nat.le_of_eq (by simp)) (fun y hy => ?_)
          · rw [World.cell?_setCell_far _ _ _ _ (by simp; omega), World.cell?_setCell_far _ _ _ _ (by simp; omega), World.cell?_setCell_far _ _ _ _ (by simp; omega), World.cell?_setCell_far _ _ _ _ (by simp; omega), World.cell?_setCell_far _ _ _ _ (by simp; omega)]
          · rw [hY] at hy
            rcases List.mem_or_eq_of_mem_set hy with h | h
            · obtain ⟨b, o, _, hit⟩ := HIN0.out.item (by intro e; rw [e] at h; cases h)
              obtain ⟨t, ht, rfl⟩ := List.mem_iff_getElem.1 h
              exact (hit t ht).2.apart hold _
            · rw [h]
              exact HXIN0.out.apart hold _
        · have hY : Y4 = xs.set i (AV.mk k2 n2 s2 na2 nc2 ns2 xa2 xc2 xs2) := by
            rw [← HY4.out, ← HY3.out, ← HY2.out, ← HY1.out, List.set_eq_take_append_cons_drop, if_pos hi, List.append_assoc]
            rfl
          obtain ⟨rfl, rfl⟩ := hns0 (.inl (by intro e; rw [e] at hi; simp at hi))
          rw [hY]
          exact set_eqv i (AV.eqv_refl _)
end Go.Proofs.YtijibjdgnaphiaaDoor
