/- A compound key: what the program's call answers; no condition of ours. -/
import Derived.Test.YtcbfbmidekmboaaDoorTurn
import Derived.Test.YtcbfbmidekmboaaDoorKeyp
namespace Go.Proofs.YtcbfbmidekmboaaDoor
open Go.ChangeShapes Go.WideShapes Go.Deep Go.RowKit Go.Lib

/-- What Compound answers: an error, or the key. -/
def CompGave (down : List Bool) (xs : List AV) (w : World) : Ending → World → Prop := fun e w' => Below w.heap.size w w' ∧ ((∃ er : Int, er ≠ 0 ∧ e = .returned (.tuple #[.slice none 0 0, .int .i64 er])) ∨
  (∃ na cap, e = .returned (.tuple #[.slice na (compL down 0 xs).length cap, .int .i64 0]) ∧ BytesIn w' na (compL down 0 xs) ∧ (∀ x ∈ xs, AV.formedJ x 6 = true) ∧ (compL down 0 xs).length ≤ 200))

set_option maxHeartbeats 4000000 in
set_option maxRecDepth 100000 in
theorem Compound_any (xa : Option Addr) (xc : Nat) (xs : List AV) (da : Option Addr) (dc : Nat) (down : List Bool) (w : World) (hits : AV.Its w xa xs) (hl : xs.length ≤ 9223372036854775807) (hd : BoolsIn w da down) (hT : Tabs w) :
    Calls Tryd.prog 20 #[.slice xa xs.length xc, .slice da down.length dc] w (CompGave down xs w) := by
  have ALL := Lib.hid (allFormed_any xa xc xs w hits hl hT)
  by_cases hf : (xs.all fun x => AV.formedJ x 6) = true
  rotate_left
  · have hf' : (xs.all fun x => AV.formedJ x 6) = false := by simpa using hf
    rw [hf'] at ALL
    clear hits hd hT hf hf'
    go_enter Tryd.func20, Tryd.ntmps20
    go_wp2_with fail
    refine (ALL.out).mono ?_
    rintro e w1 ⟨rfl, hb1⟩
    go_wp2_with fail
    go_ret2
    exact ⟨hb1, .inl ⟨2, by decide, rfl⟩⟩
  rw [hf] at ALL
  have HFA : Hid (∀ x ∈ xs, AV.formedJ x 6 = true) := Lib.hid (by simpa using hf)
  have HITS := Lib.hid hits
  have HD := Lib.hid hd
  obtain ⟨T, hTT⟩ : ∃ T, compL down 0 xs = T := ⟨_, rfl⟩
  unfold CompGave
  rw [hTT]
  have HTT := Lib.hid hTT
  clear hits hd hT hf hTT
  go_enter Tryd.func20, Tryd.ntmps20
  go_wp2_with fail
  refine (ALL.out).mono ?_
  rintro e w1 ⟨rfl, hb1⟩
  have HB1 := Lib.hid hb1
  clear hb1
  go_wp2_with fail
  go_loopg [6, 15] xs.length (fun g b i wr => ∃ (j : Nat) (L : List UInt8), j + g = xs.length ∧ i = .int .i64 (j : Int) ∧ L ++ compL down j (xs.drop j) = T ∧ L.length ≤ 200 ∧ wr.ownsRow w.heap.size 5 1 b L.length (Lib.byteCells L) ∧ Below w.heap.size w wr)
  case atStart => exact ⟨0, [], by omega, rfl, HTT.out, by simp, World.ownsRow_nil _ _ _ _, HB1.out⟩
  case round =>
    obtain ⟨j, L, hj, rfl, hrest, h200, hown, hb⟩ := hrel
    obtain ⟨nb, cb, rfl⟩ := bytesRow_slice hown
    have HJ := Lib.hid hj
    have H200 := Lib.hid h200
    have HOWN := Lib.hid hown
    have hbs := hb.size
    clear hj h200 hown
    by_cases hlt : j < xs.length
    · obtain ⟨bx, ox, rfl, hit⟩ := (HITS.out).resolve_left (by intro e; rw [e] at hlt; simp at hlt)
      have hr : wr.rangeAt bx (ox + j * 5) xs[j].row := AV.rangeAt_old (fun a ha => hb.cell ha) (hit j hlt).1
      have hxin : AV.In w xs[j] := (hit j hlt).2
      have hfx := HFA.out _ (List.getElem_mem hlt)
      have FALLS := Lib.hid (fun W (h : Below w.heap.size w W) => falls_any da dc down j W (HD.out.below h))
      rw [compL_drop hlt] at hrest
      obtain ⟨x, hx⟩ : ∃ x, xs[j] = x := ⟨_, rfl⟩
      rw [hx] at hr hxin hfx hrest
      have hkm := key_max hfx
      have hk1 := AV.key_length x
      have CALL := Lib.hid (fun W (h : Below w.heap.size w W) (ho : W.ownsRow w.heap.size 5 1 (.slice nb L.length cb) L.length (Lib.byteCells L)) => app_any x w W w.heap.size nb cb L 6 hxin h (Nat.le_refl _) h.size ho hfx (by have := H200.out; omega))
      obtain ⟨d, hd⟩ : ∃ d, fallsB down j = d := ⟨_, rfl⟩
      simp only [hd] at FALLS
      rw [hd] at hrest
      have hp : partL d x = if d then turnL (AV.key x) else AV.key x := rfl
      rw [hp] at hrest
      obtain ⟨K, hK⟩ : ∃ K, AV.key x = K := ⟨_, rfl⟩
      rw [hK] at hrest hkm hk1
      simp only [hK] at CALL
      have HREST := Lib.hid hrest
      have HK1 := Lib.hid hk1
      have HKM := Lib.hid hkm
      obtain ⟨k1, n1, s1, na1, nc1, ns1, xa1, xc1, xs1⟩ := x
      have HR := Lib.hid hr
      clear hx hd hit hr hxin hfx hrest hp hK hkm hk1
      simp only [AV.val, AV.row] at CALL
      have hba : Below wr.heap.size wr (wr.alloc (.cells #[.int .i64 k1, .int .i64 n1, .string s1, .slice na1 ns1.length nc1, .slice xa1 xs1.length xc1] 25)) := (Below.refl _ _).alloc (Nat.le_refl _) _
      have hb2 := hb.trans (hba.mono hbs)
      go_wp2_with ((with_reducible refine wpList_item_out HR.out ?_ ?_); rfl)
      refine (CALL.out _ hb2 (HOWN.out.alloc _)).mono ?_
      rintro e w2 ⟨nc, cc, rfl, hW⟩
      have hb3 := hb2.trans hW.below
      have hown2 := hW.own
      simp only [List.length_append] at hown2 ⊢
      have HO2 := Lib.hid hown2
      clear hW hown2 hba hb2
      by_cases h2 : L.length + K.length ≤ 200
      · have g1 : ¬ (200 : Int) < (L.length : Int) + (K.length : Int) := by omega
        have H2 := Lib.hid h2
        clear h2
        go_wp2_with fail
        refine (FALLS.out _ hb3).mono ?_
        rintro e w3 ⟨rfl, rfl⟩
        cases d
        · simp only [Bool.false_eq_true, if_false] at HREST
          go_wp2_with fail
          go_roundg (gk - 1)
          case measure => have := HJ.out; omega
          case rel => exact ⟨j + 1, L ++ K, by have := HJ.out; omega, by go_num, by rw [← HREST.out, List.append_assoc], by rw [List.length_append]; exact H2.out, by rw [List.length_append]; exact HO2.out, hb3⟩
        · simp only [if_true] at HREST
          obtain ⟨gb, hgb, hgc⟩ : ∃ gb, nc = some ⟨gb, 0, none⟩ ∧ L.length + K.length ≤ cc := by
            rcases HO2.out.2 with ⟨_, h0⟩ | ⟨gb, cap', cur, hv, _, _, hc, _⟩
            · have := HK1.out; omega
            · simp only [Value.slice.injEq, true_and] at hv
              exact ⟨gb, hv.1, by omega⟩
          subst hgb
          have g2 : L.length < cc := by have := HK1.out; omega
          have TURN := Lib.hid (fun c => turn_any w.heap.size gb (L.length + K.length) cc c L K w3 rfl HO2.out (by have := HKM.out; omega))
          have hgB := (HO2.out.lt gb rfl).1
          go_wp2_with fail
          refine (TURN.out _).mono ?_
          rintro e w4 ⟨rfl, hown4, hg4⟩
          have HO4 := Lib.hid hown4
          have hb4 := hb3.trans ((Below.refl w.heap.size w3).grown hg4 hb3.size (fun k hk => by cases hk; exact hgB))
          clear hown4 hg4
          go_wp2_with fail
          go_roundg (gk - 1)
          case measure => have := HJ.out; omega
          case rel => exact ⟨j + 1, L ++ turnL K, by have := HJ.out; omega, by go_num, by rw [← HREST.out, List.append_assoc], by rw [List.length_append, turnL_length]; exact H2.out, by rw [List.length_append, turnL_length]; exact HO4.out, hb4⟩
      · have g1 : (200 : Int) < (L.length : Int) + (K.length : Int) := by omega
        go_wp2_with fail
        go_ret2
        exact ⟨hb3, .inl ⟨3, by decide, rfl⟩⟩
    · have hLT : L = T := by
        rw [← hrest, List.drop_eq_nil_of_le (by omega), compL, List.append_nil]
      subst hLT
      clear hrest
      go_wp2_with fail
      go_ret2
      exact ⟨hb, .inr ⟨nb, cb, rfl, BytesIn.of HOWN.out, HFA.out, H200.out⟩⟩
end Go.Proofs.YtcbfbmidekmboaaDoor
