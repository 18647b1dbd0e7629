/- The value at a path's place, by the program: alike the document's value there, or none; for every value that lies in memory and every text of at most 2000 bytes. -/
import Derived.Test.YtijibjdgnaphiaaDoorPclone
import Derived.Test.YtijibjdgnaphiaaDoorPfindv
import Derived.Test.YtijibjdgnaphiaaDoorLawsteps
import Derived.Test.YtijibjdgnaphiaaDoorFormr
namespace Go.Proofs.YtijibjdgnaphiaaDoor
open Go.ChangeShapes Go.WideShapes Go.Deep Go.RowKit Go.Lib

/-- The value at a path's place. -/
def getSpec (t : AV) (l : List UInt8) : Option AV := if stepErr l = 0 ∧ AV.formedJ t 6 = true then t.at (stepNames l) else none

def AV.zero : AV := .mk 0 0 ⟨#[]⟩ none 0 [] none 0 []

theorem zero_in (w : World) : AV.zero.In w := by
  rw [AV.zero, AV.In]
  exact ⟨by decide, by decide, by decide, by simp, by simp [maxLen], by simp, by simp [maxLen], by simp, .inl rfl, by simp, .inl rfl⟩

/-- What is answered of a place: alike what stands there. -/
def Answers (r : Option AV) (x : AV) : Prop := match r with
  | some y => AV.eqv x y = true
  | none => x = AV.zero

def GetEnd (r : Option AV) (w : World) (e : Ending) (w' : World) : Prop :=
  Below w.heap.size w w' ∧ ∃ x : AV, e = .returned (.tuple #[x.val, .bool r.isSome]) ∧ x.In w' ∧ Answers r x

theorem step_sizes {l : List UInt8} {p : ByteArray} (h : p ∈ stepNames l) : 0 < p.size ∧ p.size ≤ 60 := by
  unfold stepNames stepsOf at h
  split at h
  · rename_i ps hs
    split at hs
    · rename_i hc
      rw [← Option.some.inj hs] at h
      obtain ⟨q, hq, rfl⟩ := List.mem_map.1 h
      have hok := List.all_eq_true.1 hc.2 q hq
      unfold stepOk at hok
      simp only [Bool.and_eq_true, Bool.not_eq_true', decide_eq_true_eq] at hok
      have hz : (ofList q).size = q.length := by simp [ofList, ByteArray.size]
      rw [hz]
      refine ⟨?_, hok.1.2⟩
      cases q with
      | nil => simp at hok
      | cons => simp
    · cases hs
  · cases h

theorem place_lt {t : AV} {p : ByteArray} {i lv : Nat} (hf : AV.formedJ t lv = true) (h : t.place p = some i) : i < t.items.length := by
  obtain ⟨k, n, s, na, nc, ns, xa, xc, xs⟩ := t
  rw [AV.place] at h
  split at h
  · rename_i hk
    subst hk
    have := idx_lt h
    rw [(formed_names hf).2] at this
    exact this
  · split at h
    · split at h
      · split at h
        · rename_i hlt
          obtain rfl := Option.some.inj h
          exact hlt
        · cases h
      · cases h
    · cases h

theorem at_step {t : AV} {p : ByteArray} {r : List ByteArray} {i : Nat} (h : t.place p = some i) (hi : i < t.items.length) : t.at (p :: r) = (t.items[i]).at r := by
  rw [AV.at, h]
  simp only [List.getElem?_eq_getElem hi]

theorem at_none {t : AV} {p : ByteArray} {r : List ByteArray} (h : t.place p = none) : t.at (p :: r) = none := by
  rw [AV.at, h]

theorem below_five {B : Nat} {a w : World} (h : Below B a w) {b : Nat} (hb : B ≤ b) (v0 v1 v2 v3 v4 : Value) :
    Below B a (((((w.setCell ⟨b, 0, none⟩ v0).setCell ⟨b, 1, none⟩ v1).setCell ⟨b, 2, none⟩ v2).setCell ⟨b, 3, none⟩ v3).setCell ⟨b, 4, none⟩ v4) :=
  ((((h.setCell (p := ⟨b, 0, none⟩) hb v0).setCell (p := ⟨b, 1, none⟩) hb v1).setCell (p := ⟨b, 2, none⟩) hb v2).setCell (p := ⟨b, 3, none⟩) hb v3).setCell (p := ⟨b, 4, none⟩) hb v4

set_option maxHeartbeats 1600000 in
set_option maxRecDepth 100000 in
theorem get_bad (t : AV) (s : ByteArray) (w : World) (hin : t.In w) (hs : s.size ≤ 2000) (hT : Tabs w) (hM : MaxL w) (hbad : ¬ (stepErr s.data.toList = 0 ∧ AV.formedJ t 6 = true)) : Calls Tryd.prog 28 #[t.val, .string s] w (GetEnd none w) := by
  have ST := Lib.hid (fun W (h : Below w.heap.size w W) => (Steps_any s W hs (hT.later h) (hM.later h)).mono fun _ _ h => StepsEnd.told h)
  have FO := Lib.hid (fun W (h : Below w.heap.size w W) => Formed_any t W (hin.below h (Nat.le_refl _)) (hT.later h))
  obtain ⟨er, her⟩ : ∃ er, stepErr s.data.toList = er := ⟨_, rfl⟩
  obtain ⟨F, hF⟩ : ∃ F, AV.formedJ t 6 = F := ⟨_, rfl⟩
  rw [her, hF] at hbad
  rw [her] at ST
  rw [hF] at FO
  have her2 : er = 0 ∨ er = 2 := by
    rw [← her]; unfold stepErr; split <;> simp
  clear her hF hT hM
  obtain ⟨k, n, str, na, nc, ns, xa, xc, xs⟩ := t
  simp only [AV.val, AV.row] at FO ⊢
  clear hin
  rcases her2 with rfl | rfl
  · have hF : F = false := by
      cases F
      · rfl
      · exact absurd ⟨rfl, rfl⟩ hbad
    subst hF
    clear hbad
    go_enter Tryd.func28, Tryd.ntmps28
    go_wp2_with fail
    refine (ST.out _ (((Below.refl _ _).alloc (Nat.le_refl _) _).alloc (by simp) _)).mono ?_
    rintro e w1 ⟨sa, sc, rfl, _, hb1, _⟩
    have hbx : w1.heap[w.heap.size]? = some (.cells #[.int .i64 k, .int .i64 n, .string str, .slice na ns.length nc, .slice xa xs.length xc] 25 (0, 0)) := by
      rw [hb1.block _ (by simp; omega)]; exact (two_box w _ _).1
    have hby : w1.heap[w.heap.size + 1]? = some (.cells #[.int .i64 0, .int .i64 0, .string ⟨#[]⟩, .slice none 0 0, .slice none 0 0] 25 (0, 0)) := by
      rw [hb1.block _ (by simp)]; exact (two_box w _ _).2
    have hbl : Below w.heap.size w w1 := (((Below.refl w.heap.size w).alloc (Nat.le_refl _) _).alloc (by simp) _).trans (hb1.mono (by simp; omega))
    obtain ⟨c0, c1, c2, c3, c4⟩ := bx5 hbx
    clear hb1 hbx
    go_wp2_with fail
    refine (FO.out _ hbl).mono ?_
    rintro e w2 ⟨rfl, hb2⟩
    have hby2 := (hb2.block _ (block_lt hby)).trans hby
    obtain ⟨d0, d1, d2, d3, d4⟩ := bx5 hby2
    obtain ⟨f0, f1, f2, f3, f4⟩ := fz5 hby2
    have hbl2 := hbl.trans (hb2.mono hbl.size)
    clear hby hby2 hb2 c0 c1 c2 c3 c4
    go_wp2_with fail
    exact bodyPost_ret (v := .tuple #[.agg #[.int .i64 0, .int .i64 0, .string ⟨#[]⟩, .slice none 0 0, .slice none 0 0], .bool false]) (by simp [results, Tryd.results28, go_sem, d0, d1, d2, d3, d4]) rfl ⟨below_five hbl2 (Nat.le_succ _) _ _ _ _ _, AV.zero, rfl, zero_in _, rfl⟩
  · clear hbad FO
    go_enter Tryd.func28, Tryd.ntmps28
    go_wp2_with fail
    refine (ST.out _ (((Below.refl _ _).alloc (Nat.le_refl _) _).alloc (by simp) _)).mono ?_
    rintro e w1 ⟨sa, sc, rfl, _, hb1, _⟩
    have hby : w1.heap[w.heap.size + 1]? = some (.cells #[.int .i64 0, .int .i64 0, .string ⟨#[]⟩, .slice none 0 0, .slice none 0 0] 25 (0, 0)) := by
      rw [hb1.block _ (by simp)]; exact (two_box w _ _).2
    have hbl : Below w.heap.size w w1 := (((Below.refl w.heap.size w).alloc (Nat.le_refl _) _).alloc (by simp) _).trans (hb1.mono (by simp; omega))
    obtain ⟨d0, d1, d2, d3, d4⟩ := bx5 hby
    obtain ⟨f0, f1, f2, f3, f4⟩ := fz5 hby
    clear hb1 hby
    go_wp2_with fail
    exact bodyPost_ret (v := .tuple #[.agg #[.int .i64 0, .int .i64 0, .string ⟨#[]⟩, .slice none 0 0, .slice none 0 0], .bool false]) (by simp [results, Tryd.results28, go_sem, d0, d1, d2, d3, d4]) rfl ⟨below_five hbl (Nat.le_succ _) _ _ _ _ _, AV.zero, rfl, zero_in _, rfl⟩

theorem find_no {t : AV} {p : ByteArray} {w : World} {e : Ending} {w' : World} (h : FindEnd t p w e w') (hp : t.place p = none) : Below w.heap.size w w' ∧ ∃ i : Int, e = .returned (.tuple #[.int .i64 i, .bool false]) := by
  obtain ⟨he, hb⟩ := h
  rw [hp] at he
  exact ⟨hb, _, he⟩

theorem find_yes {t : AV} {p : ByteArray} {w : World} {e : Ending} {w' : World} {i : Nat} (h : FindEnd t p w e w') (hp : t.place p = some i) : Below w.heap.size w w' ∧ e = .returned (.tuple #[.int .i64 (i : Int), .bool true]) := by
  obtain ⟨he, hb⟩ := h
  rw [hp, findI_some hp] at he
  exact ⟨hb, he⟩

theorem block5 {w : World} {b : Nat} {c0 c1 c2 c3 c4 d0 d1 d2 d3 d4 : Value} {t : TypeId} (h : w.heap[b]? = some (.cells #[c0, c1, c2, c3, c4] t (0, 0))) :
    (((((w.setCell ⟨b, 0, none⟩ d0).setCell ⟨b, 1, none⟩ d1).setCell ⟨b, 2, none⟩ d2).setCell ⟨b, 3, none⟩ d3).setCell ⟨b, 4, none⟩ d4).heap[b]? = some (.cells #[d0, d1, d2, d3, d4] t (0, 0)) := by
  have h1 := heap_setCell_same w b 0 _ t d0 h
  have h2 := heap_setCell_same _ b 1 _ t d1 h1
  have h3 := heap_setCell_same _ b 2 _ t d2 h2
  have h4 := heap_setCell_same _ b 3 _ t d3 h3
  have h5 := heap_setCell_same _ b 4 _ t d4 h4
  rw [h5]
  rfl

/-- A value's box, with what is read of it, and may be written. -/
def Boxed (b : Nat) (t : AV) (w : World) : Prop := w.heap[b]? = some (.cells t.row.toArray 25 (0, 0))

set_option maxHeartbeats 3200000 in
set_option maxRecDepth 100000 in
theorem get_good (t : AV) (s : ByteArray) (w : World) (hin : t.In w) (hs : s.size ≤ 2000) (hT : Tabs w) (hM : MaxL w) (hE : ErrV w) (her : stepErr s.data.toList = 0) (hf : AV.formedJ t 6 = true) : Calls Tryd.prog 28 #[t.val, .string s] w (GetEnd (t.at (stepNames s.data.toList)) w) := by
  have ST := Lib.hid (fun W (h : Below w.heap.size w W) => (Steps_any s W hs (hT.later h) (hM.later h)).mono fun _ _ h => StepsEnd.told h)
  have FO := Lib.hid (fun W (h : Below w.heap.size w W) => Formed_any t W (hin.below h (Nat.le_refl _)) (hT.later h))
  have SZ : Hid (∀ p ∈ stepNames s.data.toList, 0 < p.size ∧ p.size ≤ 60) := Lib.hid fun p hp => step_sizes hp
  have hlen := steps_len s.data.toList
  obtain ⟨ns, hns⟩ : ∃ ns, stepNames s.data.toList = ns := ⟨_, rfl⟩
  rw [her, hns] at ST
  rw [hf] at FO
  rw [hns] at SZ hlen ⊢
  obtain ⟨R, hR⟩ : ∃ R, t.at ns = R := ⟨_, rfl⟩
  rw [hR]
  have ALL : Hid (t.In w ∧ AV.formedJ t 6 = true ∧ t.at ns = R) := Lib.hid ⟨hin, hf, hR⟩
  have HE := Lib.hid (fun W (h : Below w.heap.size w W) => hE.later h)
  clear her hf hns hR hT hM hE hin
  have VAL : t.val = .agg t.row.toArray := rfl
  obtain ⟨T, hT⟩ : ∃ T, T = t := ⟨_, rfl⟩
  have HT := Lib.hid hT
  obtain ⟨k, n, str, na, nc, nms, xa, xc, xs⟩ := t
  simp only [AV.val, AV.row] at FO ⊢
  clear VAL hT
  go_enter Tryd.func28, Tryd.ntmps28
  go_wp2_with fail
  refine (ST.out _ (((Below.refl _ _).alloc (Nat.le_refl _) _).alloc (by simp) _)).mono ?_
  rintro e w1 ⟨sa, sc, rfl, hsn, hb1, hfr⟩
  have HFR : Hid (∀ a, sa = some a → w.heap.size + 2 ≤ a.block) := Lib.hid (by simpa using hfr)
  clear hfr
  have hbx : w1.heap[w.heap.size]? = some (.cells #[.int .i64 k, .int .i64 n, .string str, .slice na nms.length nc, .slice xa xs.length xc] 25 (0, 0)) := by
    rw [hb1.block _ (by simp; omega)]; exact (two_box w _ _).1
  have hby : w1.heap[w.heap.size + 1]? = some (.cells #[.int .i64 0, .int .i64 0, .string ⟨#[]⟩, .slice none 0 0, .slice none 0 0] 25 (0, 0)) := by
    rw [hb1.block _ (by simp)]; exact (two_box w _ _).2
  have hbl : Below w.heap.size w w1 := (((Below.refl w.heap.size w).alloc (Nat.le_refl _) _).alloc (by simp) _).trans (hb1.mono (by simp; omega))
  obtain ⟨c0, c1, c2, c3, c4⟩ := bx5 hbx
  have HSN := Lib.hid hsn
  have HBX := Lib.hid hbx
  have HBY := Lib.hid hby
  clear hb1 hbx hby hsn
  go_wp2_with fail
  refine (FO.out _ hbl).mono ?_
  rintro e w2 ⟨rfl, hb2⟩
  have HBX2 := Lib.hid ((hb2.block _ (block_lt HBX.out)).trans HBX.out)
  have HBY2 := Lib.hid ((hb2.block _ (block_lt HBY.out)).trans HBY.out)
  have HSN2 := Lib.hid (NamesIn.later HSN.out hb2)
  have hbl2 := hbl.trans (hb2.mono hbl.size)
  clear hb2 c0 c1 c2 c3 c4 HBX HBY HSN hbl
  go_wp2_with fail
  go_loopg [27] ns.length (fun g iv wr => ∃ (j : Nat) (cur : AV) (lv : Nat), j + g = ns.length ∧ iv = .int .i64 (j : Int) ∧ Boxed w.heap.size cur wr ∧ wr.heap[w.heap.size + 1]? = some (.cells #[.int .i64 0, .int .i64 0, .string ⟨#[]⟩, .slice none 0 0, .slice none 0 0] 25 (0, 0)) ∧
    cur.In w ∧ AV.formedJ cur lv = true ∧ cur.at (ns.drop j) = R ∧ AV.NamesIn wr sa ns ∧ Below w.heap.size w wr)
  case atStart => exact ⟨0, .mk k n str na nc nms xa xc xs, 6, by omega, rfl, HBX2.out, HBY2.out, ALL.out.1, ALL.out.2.1, ALL.out.2.2, HSN2.out, hbl2⟩
  case round =>
    obtain ⟨j, cur, lv, hj, rfl, hbx, hby, hcin, hcf, hat, hsn, hb⟩ := hrel
    have HJ := Lib.hid hj
    have HAT := Lib.hid hat
    have HCF := Lib.hid hcf
    have HCIN := Lib.hid hcin
    have HBX := Lib.hid hbx
    have HBY := Lib.hid hby
    obtain ⟨d0, d1, d2, d3, d4⟩ := bx5 hby
    obtain ⟨f0, f1, f2, f3, f4⟩ := fz5 hby
    clear hj hat hcf hcin hby
    by_cases hlt : j < ns.length
    · obtain ⟨b, o, rfl, hit⟩ := hsn.resolve_left (by intro e; rw [e] at hlt; simp at hlt)
      have hc1 := hit j hlt
      obtain ⟨p, hp⟩ : ∃ p, ns[j] = p := ⟨_, rfl⟩
      have hdrop : ns.drop j = p :: ns.drop (j + 1) := by rw [List.drop_eq_getElem_cons hlt, hp]
      have hsz := SZ.out p (by rw [← hp]; exact List.getElem_mem hlt)
      rw [hp] at hc1
      have HSNW : Hid (AV.NamesIn wr (some ⟨b, o, none⟩) ns) := Lib.hid (.inr ⟨b, o, rfl, hit⟩)
      have FI := Lib.hid (fun W (h : Below w.heap.size w W) => find_any cur p W (HCIN.out.below h (Nat.le_refl _)) hsz.1 hsz.2 (HE.out W h) lv HCF.out)
      have HD := Lib.hid hdrop
      clear hp hdrop hit hsn hsz
      cases hpl : cur.place p with
      | none =>
        have FN := Lib.hid (fun W h => (FI.out W h).mono fun _ _ h => find_no h hpl)
        have hno : R = none := by rw [← HAT.out, HD.out, at_none hpl]
        clear FI hpl
        obtain ⟨k', n', s', na', nc', ns', xa', xc', xs'⟩ := cur
        unfold Boxed at hbx
        simp only [AV.val, AV.row] at FN hbx
        obtain ⟨c0, c1, c2, c3, c4⟩ := bx5 hbx
        subst hno
        clear hbx
        go_wp2_with fail
        refine (FN.out _ hb).mono ?_
        rintro e w3 ⟨hb3, i, rfl⟩
        have hby3 := (hb3.block _ (block_lt HBY.out)).trans HBY.out
        obtain ⟨a0, a1, a2, a3, a4⟩ := bx5 hby3
        obtain ⟨b0, b1, b2, b3, b4⟩ := fz5 hby3
        have hb4 := hb.trans (hb3.mono hb.size)
        clear hby3 hb3 d0 d1 d2 d3 d4 f0 f1 f2 f3 f4
        go_wp2_with fail
        exact bodyPost_ret (v := .tuple #[.agg #[.int .i64 0, .int .i64 0, .string ⟨#[]⟩, .slice none 0 0, .slice none 0 0], .bool false]) (by simp [results, Tryd.results28, go_sem, a0, a1, a2, a3, a4]) rfl ⟨below_five hb4 (Nat.le_succ _) _ _ _ _ _, AV.zero, rfl, zero_in _, rfl⟩
      | some i =>
        have FN := Lib.hid (fun W h => (FI.out W h).mono fun _ _ h => find_yes h hpl)
        have hil := place_lt HCF.out hpl
        have hat2 := at_step (r := ns.drop (j + 1)) hpl hil
        rw [← HD.out, HAT.out] at hat2
        clear FI hpl
        obtain ⟨k', n', s', na', nc', ns', xa', xc', xs'⟩ := cur
        simp only [AV.items] at hil hat2
        have hcf2 := formed_item HCF.out xs'[i] (List.getElem_mem hil)
        have hx24 := formed_len HCF.out
        obtain ⟨bx, ox, rfl, hitx⟩ := HCIN.out.item (by intro e; rw [e] at hil; simp at hil)
        obtain ⟨hr, hxin⟩ := hitx i hil
        obtain ⟨y, hy⟩ : ∃ y, xs'[i] = y := ⟨_, rfl⟩
        rw [hy] at hr hxin hcf2 hat2
        have hr2 : wr.rangeAt bx (ox + i * 5) y.row := AV.rangeAt_old (fun a ha => hb.cell ha) hr
        have HYIN := Lib.hid hxin
        have HYF := Lib.hid hcf2
        have HYAT := Lib.hid hat2
        unfold Boxed at hbx
        simp only [AV.val, AV.row] at FN hbx
        obtain ⟨c0, c1, c2, c3, c4⟩ := bx5 hbx
        clear hitx hy hr hxin hcf2 hat2
        go_wp2_with fail
        refine (FN.out _ hb).mono ?_
        rintro e w3 ⟨hb3, rfl⟩
        have hr3 := AV.rangeAt_old (fun a ha => hb3.cell ha) hr2
        have HBX3 := Lib.hid ((hb3.block _ (block_lt hbx)).trans hbx)
        obtain ⟨a0, a1, a2, a3, a4⟩ := bx5 HBX3.out
        obtain ⟨b0, b1, b2, b3, b4⟩ := fz5 HBX3.out
        have HBY3 := Lib.hid ((hb3.block _ (block_lt HBY.out)).trans HBY.out)
        have HSN3 := Lib.hid (NamesIn.later HSNW.out hb3)
        have hb4 := hb.trans (hb3.mono hb.size)
        clear hb3 d0 d1 d2 d3 d4 f0 f1 f2 f3 f4 c0 c1 c2 c3 c4 hr2 hbx
        obtain ⟨k2, n2, s2, na2, nc2, ns2, xa2, xc2, xs2⟩ := y
        have HR := Lib.hid hr3
        clear hr3
        go_wp2_with (first | ((with_reducible refine wpList_item_out HR.out ?_ ?_); rfl))
        go_roundg (gk - 1)
        case measure => have := HJ.out; omega
        case rel =>
          have hbo := HFR.out _ rfl
          refine ⟨j + 1, .mk k2 n2 s2 na2 nc2 ns2 xa2 xc2 xs2, lv - 1, by have := HJ.out; omega, by go_num, block5 HBX3.out, ?_, HYIN.out, HYF.out, HYAT.out.symm, ?_, below_five hb4 (Nat.le_refl _) _ _ _ _ _⟩
          · rw [Below.heap_setCell _ _ _ _ (by simp), Below.heap_setCell _ _ _ _ (by simp), Below.heap_setCell _ _ _ _ (by simp), Below.heap_setCell _ _ _ _ (by simp), Below.heap_setCell _ _ _ _ (by simp)]
            exact HBY3.out
          · rcases HSN3.out with h0 | ⟨b', o', e, hit⟩
            · exact .inl h0
            · cases e
              refine .inr ⟨_, _, rfl, fun i hi => ?_⟩
              simp only at hbo
              rw [World.cell?_setCell_far _ _ _ _ (by simp; omega), World.cell?_setCell_far _ _ _ _ (by simp; omega), World.cell?_setCell_far _ _ _ _ (by simp; omega), World.cell?_setCell_far _ _ _ _ (by simp; omega), World.cell?_setCell_far _ _ _ _ (by simp; omega)]
              exact hit i hi
    · have hyes : R = some cur := by rw [← HAT.out, List.drop_eq_nil_of_le (by omega), AV.at]
      subst hyes
      have CL := Lib.hid (fun W (h : Below w.heap.size w W) => clone_any cur W lv (HCIN.out.below h (Nat.le_refl _)) HCF.out)
      have HSELF : Hid (∀ c : AV, c = cur → True) := Lib.hid fun _ _ => trivial
      obtain ⟨C, hC⟩ : ∃ C, C = cur := ⟨_, rfl⟩
      rw [← hC] at CL ⊢
      have HCC := Lib.hid hC
      unfold Boxed at hbx
      obtain ⟨k', n', s', na', nc', ns', xa', xc', xs'⟩ := cur
      have CL2 : Hid (∀ W, Below w.heap.size w W → Calls Tryd.prog 46 #[(AV.mk k' n' s' na' nc' ns' xa' xc' xs').val] W (CloneEnd C W)) := Lib.hid fun W h => by
        have := CL.out W h
        rwa [HCC.out] at this ⊢
      simp only [AV.val, AV.row] at CL2 hbx
      obtain ⟨c0, c1, c2, c3, c4⟩ := bx5 hbx
      clear hC CL hbx
      go_wp2_with fail
      refine (CL2.out _ hb).mono ?_
      rintro e w3 ⟨x, rfl, heq, hnew, hb3⟩
      have hby3 := (hb3.block _ (block_lt HBY.out)).trans HBY.out
      obtain ⟨a0, a1, a2, a3, a4⟩ := bx5 hby3
      obtain ⟨b0, b1, b2, b3, b4⟩ := fz5 hby3
      have hb4 := hb.trans (hb3.mono hb.size)
      have HNEW := Lib.hid hnew
      have HEQ := Lib.hid heq
      have HLT := Lib.hid (block_lt HBY.out)
      clear hby3 hb3 d0 d1 d2 d3 d4 f0 f1 f2 f3 f4 hnew heq
      obtain ⟨k2, n2, s2, na2, nc2, ns2, xa2, xc2, xs2⟩ := x
      simp only [AV.val, AV.row]
      go_wp2_with fail
      refine bodyPost_ret (v := .tuple #[.agg #[.int .i64 k2, .int .i64 n2, .string s2, .slice na2 ns2.length nc2, .slice xa2 xs2.length xc2], .bool true]) (by simp [results, Tryd.results28, go_sem, a0, a1, a2, a3, a4]) rfl ⟨below_five hb4 (Nat.le_succ _) _ _ _ _ _, .mk k2 n2 s2 na2 nc2 ns2 xa2 xc2 xs2, rfl, ?_, by
        have := HEQ.out
        rw [HCC.out] at this
        exact this⟩
      refine HNEW.out _ fun a h1 h2 => ?_
      have h3 := HLT.out
      rw [World.cell?_setCell_far _ _ _ _ (by simp; omega), World.cell?_setCell_far _ _ _ _ (by simp; omega), World.cell?_setCell_far _ _ _ _ (by simp; omega), World.cell?_setCell_far _ _ _ _ (by simp; omega), World.cell?_setCell_far _ _ _ _ (by simp; omega)]

theorem Get_any (t : AV) (s : ByteArray) (w : World) (hin : t.In w) (hs : s.size ≤ 2000) (hT : Tabs w) (hM : MaxL w) (hE : ErrV w) : Calls Tryd.prog 28 #[t.val, .string s] w (GetEnd (getSpec t s.data.toList) w) := by
  unfold getSpec
  by_cases h : stepErr s.data.toList = 0 ∧ AV.formedJ t 6 = true
  · rw [if_pos h]
    exact get_good t s w hin hs hT hM hE h.1 h.2
  · rw [if_neg h]
    exact get_bad t s w hin hs hT hM h
end Go.Proofs.YtijibjdgnaphiaaDoor
