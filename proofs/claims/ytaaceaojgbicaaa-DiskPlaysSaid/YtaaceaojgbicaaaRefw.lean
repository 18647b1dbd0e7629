/- The document's Write; under 2^30 writes. -/
import Derived.Test.YtaaceaojgbicaaaRefs
import Derived.Deep.AppendLies
namespace Go.Proofs.Ytaaceaojgbicaaa
open Go.ChangeShapes Go.WideShapes Go.Deep Go.RowKit Go.Lib Go.Maps

theorem rstays_grown {B : Nat} {W W' : World} {row : Option Nat} (hg : W.grownBy W' row) (hB : B ≤ W.heap.size) (hr : ∀ k, row = some k → B ≤ k ∧ ∃ c T fz, W.heap[k]? = some (.cells c T fz) ∧ (T = 38 ∨ T = 77)) : RStays B W W' := by
  refine ⟨⟨hg.os, hg.tape, hg.output, hg.size, fun k hk => hg.block k (by omega) (fun e => by have := (hr k e.symm).1; omega)⟩, hg.size, fun k c T fz h0 h1 h2 => ?_, fun k es c h0 => ?_⟩
  · rw [hg.block k (heap_lt h0) (fun e => ?_)]
    · exact h0
    · obtain ⟨_, c', T', fz', hc, hT⟩ := hr k e.symm
      rw [h0] at hc
      cases hc
      rcases hT with rfl | rfl
      · exact h1 rfl
      · exact h2 rfl
  · rw [hg.block k (heap_lt h0) (fun e => ?_)]
    · exact h0
    · obtain ⟨_, c', T', fz', hc, hT⟩ := hr k e.symm
      rw [h0] at hc
      cases hc

theorem RefAt.rowKind {B : Nat} {W : World} {rb : Nat} {v : Value} {r : RS} (h : RefAt B W rb v r) : ∀ k, v.ownBlock = some k → B ≤ k ∧ ∃ c T fz, W.heap[k]? = some (.cells c T fz) ∧ (T = 38 ∨ T = 77) := fun k hk => by
  rcases h.row.2 with ⟨hv, _⟩ | ⟨g, cap, cur, hv, hb, hgg, _⟩
  · rw [hv] at hk; simp [Value.ownBlock] at hk
  · rw [hv] at hk
    simp [Value.ownBlock] at hk
    subst hk
    exact ⟨hb, _, _, _, hgg, .inr rfl⟩
theorem RefAt.row_rb {B : Nat} {W : World} {rb : Nat} {v : Value} {r : RS} (h : RefAt B W rb v r) : v.ownBlock ≠ some rb := fun e => by
  rcases h.row.2 with ⟨hv, _⟩ | ⟨g, cap, cur, hv, hb, hgg, _⟩
  · rw [hv] at e; simp [Value.ownBlock] at e
  · rw [hv] at e
    simp [Value.ownBlock] at e
    rw [e, h.box] at hgg
    simp at hgg

/-- A write is appended to the document's row, of which the first ones are those of r. -/
theorem ref_push {B : Nat} {w2 w4 w5 : World} {rb : Nat} {v : Value} {r : RS} {p : RW} {g pc : Nat} (h : RefAt B w2 rb v r) (hR : RStays B w2 w4) (hrow4 : w4.ownsRow B 77 2 v r.all.length (rrows r.all)) (hbox4 : w4.heap[rb]? = some (.cells (boxR v r) 38 (0, 0)))
    (hp : w4.ownsRow 0 5 1 (.slice (some ⟨p.g, 0, none⟩) 256 p.c) 256 (Lib.byteCells p.b)) (hpl : p.b.length = 256)
    (hown5 : w5.ownsRow B 77 2 (.slice (some ⟨g, 0, none⟩) (r.all.length + 1) pc) (r.all.length + 1) (rrows r.all ++ p.row)) (hg5 : w4.grownBy w5 v.ownBlock) (hloc : v.ownBlock = some g ∨ g = w4.heap.size) :
    RefAt B (w5.setCell ⟨rb, 1, none⟩ (.slice (some ⟨g, 0, none⟩) (r.all.length + 1) pc)) rb (.slice (some ⟨g, 0, none⟩) (r.all.length + 1) pc) { r with all := r.all ++ [p] } ∧
    RStays B w2 (w5.setCell ⟨rb, 1, none⟩ (.slice (some ⟨g, 0, none⟩) (r.all.length + 1) pc)) := by
  have hB4 : B ≤ w4.heap.size := Nat.le_trans h.bw hR.size
  have hkind : ∀ k, v.ownBlock = some k → B ≤ k ∧ ∃ c T fz, w4.heap[k]? = some (.cells c T fz) ∧ (T = 38 ∨ T = 77) := fun k hk => by
    rcases hrow4.2 with ⟨hv, _⟩ | ⟨g', cap, cur, hv, hb, hgg, _⟩
    · rw [hv] at hk; simp [Value.ownBlock] at hk
    · rw [hv] at hk
      simp [Value.ownBlock] at hk
      subst hk
      exact ⟨hb, _, _, _, hgg, .inr rfl⟩
  have hR5 : RStays B w4 w5 := rstays_grown hg5 hB4 hkind
  have hbox5 : w5.heap[rb]? = some (.cells (boxR v r) 38 (0, 0)) := by
    rw [hg5.block rb (heap_lt hbox4) (fun e => h.row_rb e.symm)]; exact hbox4
  have hgrb : g ≠ rb := by
    rcases hloc with hl | hl
    · exact fun e => h.row_rb (e ▸ hl)
    · have := heap_lt hbox4; omega
  have hR6 : RStays B w4 (w5.setCell ⟨rb, 1, none⟩ (.slice (some ⟨g, 0, none⟩) (r.all.length + 1) pc)) := hR5.poke hbox5 (.inl rfl) h.base (Nat.le_trans hB4 hR5.size) 1 _
  have hO : Only (fun k => k = rb) w5 (w5.setCell ⟨rb, 1, none⟩ (.slice (some ⟨g, 0, none⟩) (r.all.length + 1) pc)) := Only.setCell (S := fun k => k = rb) (p := ⟨rb, 1, none⟩) (Only.refl _ _) (.inl rfl) _
  refine ⟨⟨DiskAt.box_poke _ hbox5, h.base, Nat.le_trans hB4 hR6.size, ?_, fun q hq => ?_, h.size, ?_⟩, hR.trans hR6⟩
  · have e1 : (r.all ++ [p]).length = r.all.length + 1 := by simp
    have e2 : rrows (r.all ++ [p]) = rrows r.all ++ p.row := by simp [rrows]
    show World.ownsRow _ B 77 2 _ (r.all ++ [p]).length (rrows (r.all ++ [p]))
    rw [e1, e2]
    exact ownsRow_only hown5 hO (fun k hk e => by
      simp [Value.ownBlock] at hk
      exact hgrb (hk.trans e))
  · rcases List.mem_append.1 hq with hq | hq
    · exact ⟨ownsRow_rstays (hR.trans hR6) (by decide) (by decide) (h.each q hq).1, (h.each q hq).2⟩
    · simp at hq
      subst hq
      exact ⟨ownsRow_rstays hR6 (by decide) (by decide) hp, hpl⟩
  · have := h.lasts
    simp
    omega

theorem burnt_eq (r : RS) : r.burnt.all = r.all ∧ r.burnt.lasts = r.lasts ∧ r.burnt.size = r.size ∧ r.burnt.a0 = r.a0 ∧ r.burnt.a1 = r.a1 ∧ r.burnt.a2 = r.a2 := by
  unfold RS.burnt
  split
  · exact ⟨rfl, rfl, rfl, rfl, rfl, rfl⟩
  · split <;> exact ⟨rfl, rfl, rfl, rfl, rfl, rfl⟩

/-- Bytes appended to none. -/
theorem wpList_append_nil {ops : Array Oper} {rest : List Oper} {o : Oper} {a : Act} {Q : Exit → Act → World → Prop} (hgd : o.guard = none) (s x : Operand) (ho : o.op = .call { callee := .builtin .append, args := #[s, x], argTypes := #[44, 44] })
    {W : World} (hs : a.eval s = .slice none 0 0) (l : List UInt8) (hl : l.length = 256) (ad : Addr) (c : Nat) (hx : a.eval x = .slice (some ad) 256 c) (hc : ∀ j u, (Lib.byteCells l)[j]? = some u → W.cell? (ad.add j) = some u)
    (K : ∀ g cap w', w'.ownsRow 0 5 1 (.slice (some ⟨g, 0, none⟩) 256 cap) 256 (Lib.byteCells l) → Below W.heap.size W w' → wpList Try.prog ops Q rest (a.put o.dst (.slice (some ⟨g, 0, none⟩) 256 cap)) w') : wpList Try.prog ops Q (o :: rest) a W := by
  obtain ⟨i0, hi, hz0, hz1, hz2⟩ := info_parts infoByte
  refine wpList_append_lies W hgd s x 44 ho 0 5 i0 (.int .u8 0) 1 1 Try.underlying44 hi hz0 hz1 hz2 rfl (by decide) (.slice none 0 0) 0 [] hs (World.ownsRow_nil _ _ _ _) ad 256 c (Lib.byteCells l) hx (by simp [Lib.byteCells, hl]) hc (byteCells_one l) (by decide) (by decide) (by decide) (Nat.zero_le _) _ rfl ?_
  intro g cap w' hown hg _ _
  simp only [Nat.zero_add, List.nil_append] at hown ⊢
  exact K g cap w' hown ⟨hg.os, hg.tape, hg.output, hg.size, fun k hk => hg.block k hk (fun e => by simp [Value.ownBlock] at e)⟩

/-- What the document's Write answers, and its disk behind it: the write that it keeps has this block and capacity. -/
def RS.hasB (r : RS) (n : Int) : Bool := decide (0 ≤ n ∧ n < r.size)

set_option maxHeartbeats 4000000 in
set_option maxRecDepth 100000 in
theorem rwrite_some {B : Nat} {W : World} {rb : Nat} {v : Value} {r : RS} (h : RefAt B W rb v r) (hlen : r.all.length < 1073741824) (n : Int) (b o cap : Nat) (l : List UInt8) (hin : ∀ j (h : j < l.length), W.cell? ⟨b, o + j, none⟩ = some (.int .u8 (l[j].toNat : Int))) (hl : l.length = 256) (hno : r.no = false) (h0 : 0 ≤ n) (h1 : n < r.size) (ho : r.okB = true) (hbk : ∃ c T fz, W.heap[b]? = some (.cells c T fz) ∧ T ≠ 38 ∧ T ≠ 77) :
    Calls Try.prog 25 #[.pointer (some ⟨rb, 0, none⟩), .int .i64 n, .slice (some ⟨b, o, none⟩) 256 cap] W fun e w' => e = .returned (.int .i64 0) ∧ ∃ v' p, p.n = n ∧ p.b = l ∧ RefAt B w' rb v' { r.burnt with a1 := wrap64 (r.burnt.a1 + 1), all := r.burnt.all ++ [p] } ∧ RStays B W w' := by
  obtain ⟨c0, c1, c2, c3, c4, c5, c6, c7⟩ := h.cells
  have BURN := Lib.hid (burn_any h)
  have HL := Lib.hid hl
  have HIN : Hid (∀ W', RStays B W W' → ∀ j (h : j < l.length), W'.cell? ⟨b, o + j, none⟩ = some (.int .u8 (l[j].toNat : Int))) := Lib.hid (fun W' hr j hj => by
    obtain ⟨c, T, fz, hc, hT1, hT2⟩ := hbk
    have h2 := hin j hj
    rw [World.cell?_of_block (w := W) (w' := W') (a := ⟨b, o + j, none⟩) (by show W'.heap[b]? = W.heap[b]?; rw [hc, hr.cells _ _ _ _ hc hT1 hT2])]
    exact h2)
  have HLEN : Hid (r.burnt.all.length < 1073741824) := Lib.hid (by
    rw [(burnt_eq r).1]; exact hlen)
  rw [ho] at BURN
  rw [hno] at c4
  clear hbk hin hl ho hno h hlen
  generalize r.burnt = t at *
  obtain ⟨i5, k5, k6, k7, k8⟩ := info_parts infoByte
  have I5 := Lib.hid (And.intro k5 (And.intro k6 (And.intro k7 k8)))
  obtain ⟨i7, k1, k2, k3, k4⟩ := info_parts info77z
  have I7 := Lib.hid (And.intro k1 (And.intro k2 (And.intro k3 k4)))
  clear k1 k2 k3 k4 k5 k6 k7 k8
  go_enter Try.func25, Try.ntmps25
  go_wp2_with fail
  refine (BURN.out).mono ?_
  rintro e w1 ⟨rfl, h1', h2'⟩
  have H1 := Lib.hid h1'
  have H2 := Lib.hid h2'
  clear h1' h2' c0 c1 c2 c3 c4 c5 c6 c7
  obtain ⟨c0, c1, c2, c3, c4, c5, c6, c7⟩ := H1.out.cells
  have f6 := H1.out.free 6
  go_wp2_with fail
  go_still_tail 9, (by kernel_rfl)
  change wpList _ _ _ _ _ w1.drew
  have H3 := Lib.hid (H1.out.below (Below.refl _ _).drew)
  have H4 := Lib.hid H2.out.drew
  clear H1 H2 c0 c1 c2 c3 c4 c5 c6 c7 f6
  generalize w1.drew = w2 at *
  obtain ⟨c0, c1, c2, c3, c4, c5, c6, c7⟩ := H3.out.cells
  have f6 := H3.out.free 6
  obtain ⟨hP1, hR1⟩ := H3.out.poke (r' := { t with a1 := wrap64 (t.a1 + 1) }) (i := 6) (u := .int .i64 (wrap64 (t.a1 + 1))) rfl rfl rfl H3.out.lasts
  have HP := Lib.hid hP1
  have HR := Lib.hid (H4.out.trans hR1)
  clear hP1 hR1
  go_upto_region 9 with fail
  clear H3 H4 c0 c1 c2 c3 c4 c5 c6 c7 f6
  generalize w2.setCell ⟨rb, 6, none⟩ (.int .i64 (wrap64 (t.a1 + 1))) = w3 at *
  obtain ⟨na, vc, hv, -, -⟩ := HP.out.slice
  dsimp only at hv
  subst hv
  obtain ⟨d0, d1, d2, d3, d4, d5, d6, d7⟩ := HP.out.cells
  have f1 := HP.out.free 1
  have HCL : Hid (∀ j u, (Lib.byteCells l)[j]? = some u → w3.cell? ((⟨b, o, none⟩ : Addr).add j) = some u) := Lib.hid (fun j u hu => by
    have hj : j < l.length := by
      have := (List.getElem?_eq_some_iff.1 hu).1
      simpa [Lib.byteCells] using this
    rw [byteCells_at l j hj] at hu
    cases hu
    rw [WideShapes.add_plain]
    exact HIN.out w3 HR.out j hj)
  clear d0 d1 d2 d3 d4 d5 d6 d7 f1
  go_upto_region 10 with (refine wpList_append_nil rfl (.tmp 39) (.tmp 40) rfl rfl l HL.out ⟨b, o, none⟩ cap rfl HCL.out ?_; intro g1 pc1 w4 hown4 hb4)
  have HP4 := Lib.hid (HP.out.below hb4)
  have HR4 := Lib.hid (HR.out.trans (RStays.of_below hb4 HP.out.bw))
  have HO4 := Lib.hid hown4
  clear hb4 hown4 HP HR HCL
  obtain ⟨d0, d1, d2, d3, d4, d5, d6, d7⟩ := HP4.out.cells
  have f1 := HP4.out.free 1
  have hrb : rb < w4.heap.size := heap_lt HP4.out.box
  have HROW : Hid ((w4.alloc (.cells #[.int .i64 n, .slice (some ⟨g1, 0, none⟩) 256 pc1] 77)).ownsRow B 77 2 (.slice na t.all.length vc) t.all.length (rrows t.all)) := Lib.hid (HP4.out.row.alloc _)
  have HNW : Hid (∀ j u, (RW.row ⟨n, l, g1, pc1⟩)[j]? = some u → (w4.alloc (.cells #[.int .i64 n, .slice (some ⟨g1, 0, none⟩) 256 pc1] 77)).cell? ((⟨w4.heap.size, 0, none⟩ : Addr).add j) = some u) := Lib.hid (World.news_of_block (heap_alloc_new w4 (.cells #[.int .i64 n, .slice (some ⟨g1, 0, none⟩) 256 pc1] 77)))
  have HB4 : Hid (B ≤ (w4.alloc (.cells #[.int .i64 n, .slice (some ⟨g1, 0, none⟩) 256 pc1] 77)).heap.size) := Lib.hid (by have := HP4.out.bw; simp; omega)
  have HBX4 : Hid ((w4.alloc (.cells #[.int .i64 n, .slice (some ⟨g1, 0, none⟩) 256 pc1] 77)).heap[rb]? = some (.cells (boxR (.slice na t.all.length vc) { t with a1 := wrap64 (t.a1 + 1) }) 38 (0, 0))) := Lib.hid (by rw [Below.heap_alloc _ _ _ hrb]; exact HP4.out.box)
  have HBX5 : Hid (∀ w5, (w4.alloc (.cells #[.int .i64 n, .slice (some ⟨g1, 0, none⟩) 256 pc1] 77)).grownBy w5 (Value.slice na t.all.length vc).ownBlock → w5.heap[rb]? = some (.cells (boxR (.slice na t.all.length vc) { t with a1 := wrap64 (t.a1 + 1) }) 38 (0, 0))) := Lib.hid (fun w5 hg => by
    rw [hg.block rb (heap_lt HBX4.out) (fun e => HP4.out.row_rb e.symm)]; exact HBX4.out)
  go_wp2_with (refine wpList_append_lies _ rfl (.tmp 46) (.tmp 50) 35 rfl B 77 i7 (.agg #[.int .i64 0, .slice none 0 0]) 2 32 Try.underlying35 I7.out.1 I7.out.2.1 I7.out.2.2.1 I7.out.2.2.2 rfl (by decide) (.slice na t.all.length vc) t.all.length (rrows t.all) rfl HROW.out ⟨w4.heap.size, 0, none⟩ 1 1 (RW.row ⟨n, l, g1, pc1⟩) rfl rfl HNW.out (by intro u hu; rcases List.mem_cons.1 hu with rfl | hu; rfl; rcases List.mem_cons.1 hu with rfl | hu; rfl; cases hu) (by decide) (by have := HLEN.out; unfold maxLen; omega) (by have := HLEN.out; omega) HB4.out _ rfl ?_; intro g5 pc5 w5 hown5 hg5 hloc5 hlt5; have HX5 := Lib.hid (HBX5.out w5 hg5); have e1 : w5.cell? ⟨rb, 1, none⟩ = some (.slice na t.all.length vc) := (by rw [Lib.cell_of_heap HX5.out]; rfl); have e2 : w5.frozen? ⟨rb, 1, none⟩ = false := (by simp [World.frozen?, HX5.out]); have HW5 := Lib.hid hown5; have HG5 := Lib.hid hg5; have HL5 := Lib.hid hloc5; clear hown5 hg5 hloc5 hlt5)
  go_ret
  obtain ⟨hF, hFR⟩ := ref_push (p := ⟨n, l, g1, pc1⟩) HP4.out ((RStays.refl B w4).alloc HP4.out.bw (.cells #[.int .i64 n, .slice (some ⟨g1, 0, none⟩) 256 pc1] 77)) HROW.out HBX4.out (HO4.out.alloc _) HL.out HW5.out HG5.out HL5.out
  exact ⟨rfl, _, ⟨n, l, g1, pc1⟩, rfl, rfl, hF, HR4.out.trans hFR⟩

def RS.wrote1 (r : RS) (n : Int) (l : List UInt8) : Int := if r.no then 7 else if !r.hasB n || !(l.length == 256) then 1 else if r.okB then 0 else 7

set_option maxHeartbeats 4000000 in
set_option maxRecDepth 100000 in
theorem rwrite_no {B : Nat} {W : World} {rb : Nat} {v : Value} {r : RS} (h : RefAt B W rb v r) (n : Int) (u : Value) (hno : r.no = true) : Calls Try.prog 25 #[.pointer (some ⟨rb, 0, none⟩), .int .i64 n, u] W fun e w' => e = .returned (.int .i64 7) ∧ W = w' := by
  obtain ⟨c0, c1, c2, c3, c4, c5, c6, c7⟩ := h.cells
  rw [hno] at c4
  clear h hno
  go_enter Try.func25, Try.ntmps25
  go_wp2_with fail
  go_ret
  exact ⟨rfl, rfl⟩

set_option maxHeartbeats 4000000 in
set_option maxRecDepth 100000 in
theorem rwrite_bad {B : Nat} {W : World} {rb : Nat} {v : Value} {r : RS} (h : RefAt B W rb v r) (n : Int) (na : Option Addr) (len cap : Nat) (hno : r.no = false) (hb : r.hasB n = false ∨ len ≠ 256) : Calls Try.prog 25 #[.pointer (some ⟨rb, 0, none⟩), .int .i64 n, .slice na len cap] W fun e w' => e = .returned (.int .i64 1) ∧ W = w' := by
  obtain ⟨c0, c1, c2, c3, c4, c5, c6, c7⟩ := h.cells
  rw [hno] at c4
  by_cases h0 : 0 ≤ n
  · by_cases h1 : n < r.size
    · have hl : len ≠ 256 := by
        rcases hb with hb | hb
        · exact absurd hb (by unfold RS.hasB; rw [decide_eq_true ⟨h0, h1⟩]; decide)
        · exact hb
      have e1 : ((len : Int) == 256) = false := by rw [beq_eq_false_iff_ne]; omega
      have e2 : ((len : Int) != 256) = true := by simp; omega
      clear h hno hb hl
      go_enter Try.func25, Try.ntmps25
      go_wp2_with fail
      go_ret
      exact ⟨rfl, rfl⟩
    · have h1' : (r.size : Int) ≤ n := by omega
      clear h hno hb h1
      go_enter Try.func25, Try.ntmps25
      go_wp2_with fail
      go_ret
      exact ⟨rfl, rfl⟩
  · have h0' : n < 0 := by omega
    clear h hno hb h0
    go_enter Try.func25, Try.ntmps25
    go_wp2_with fail
    go_ret
    exact ⟨rfl, rfl⟩

set_option maxHeartbeats 4000000 in
set_option maxRecDepth 100000 in
theorem rwrite_lost {B : Nat} {W : World} {rb : Nat} {v : Value} {r : RS} (h : RefAt B W rb v r) (n : Int) (na : Option Addr) (cap : Nat) (hno : r.no = false) (h0 : 0 ≤ n) (h1 : n < r.size) (ho : r.okB = false) : Calls Try.prog 25 #[.pointer (some ⟨rb, 0, none⟩), .int .i64 n, .slice na 256 cap] W fun e w' => e = .returned (.int .i64 7) ∧ RefAt B w' rb v r.burnt ∧ RStays B W w' := by
  obtain ⟨c0, c1, c2, c3, c4, c5, c6, c7⟩ := h.cells
  have BURN := Lib.hid (burn_any h)
  rw [ho] at BURN
  rw [hno] at c4
  clear h hno ho
  go_enter Try.func25, Try.ntmps25
  go_wp2_with fail
  refine (BURN.out).mono ?_
  rintro e w1 ⟨rfl, h1', h2'⟩
  have H1 := Lib.hid h1'
  have H2 := Lib.hid h2'
  clear h1' h2'
  go_wp2_with fail
  go_ret
  exact ⟨rfl, H1.out, H2.out⟩
end Go.Proofs.Ytaaceaojgbicaaa
