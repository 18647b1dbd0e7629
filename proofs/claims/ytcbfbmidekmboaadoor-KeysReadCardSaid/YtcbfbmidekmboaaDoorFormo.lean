/- Whether an object is formed: what the document's answer is; and so for every value. -/
import Derived.Test.YtcbfbmidekmboaaDoorFormg
import Derived.Lib.QuietBelow
import Derived.BigQuiet
namespace Go.Proofs.YtcbfbmidekmboaaDoor
open Go.ChangeShapes Go.WideShapes Go.Deep Go.RowKit Go.Lib

set_option maxHeartbeats 1600000 in
set_option maxRecDepth 100000 in
theorem robj (s : ByteArray) (na : Option Addr) (nc : Nat) (ns : List ByteArray) (xa : Option Addr) (xc : Nat) (xs : List AV) (w : World) (hsz : s.size ≤ maxLen) (hnin : AV.NamesIn w na ns) (hnsz : ∀ x ∈ ns, x.size ≤ maxLen) (hin : AV.Its w xa xs) (hl2 : ns.length ≤ 9223372036854775807) (hl : xs.length ≤ 9223372036854775807) (hs : s.toList = []) (hxs : xs.length ≤ 24) (hlen : ns.length = xs.length) (IH : Hid (∀ x ∈ xs, RFormedAt x)) :
    Calls Tryd.prog 39 #[(AV.mk 6 0 s na nc ns xa xc xs).val] w fun e w' => e = .returned (.bool (textOk s && (namesOk none ns && AV.allR xs))) ∧ Below w.heap.size w w' := by
  have CALL := Lib.hid (fun W => text_any s W hsz)
  obtain ⟨V, hV⟩ : ∃ V, textOk s = V := ⟨_, rfl⟩
  rw [hV] at CALL ⊢
  clear hV hsz
  obtain ⟨B, hB⟩ : ∃ B, AV.allR xs = B := ⟨_, rfl⟩
  rw [hB]
  have HB := Lib.hid hB
  have HIN := Lib.hid hin
  obtain ⟨U, hU⟩ : ∃ U, namesOk none ns = U := ⟨_, rfl⟩
  rw [hU]
  have HU := Lib.hid hU
  have HNIN := Lib.hid hnin
  have HNSZ := Lib.hid hnsz
  have e1 : ((ns.length : Int) == (xs.length : Int)) = true := by simp [hlen]
  have e2 : ((ns.length : Int) != (xs.length : Int)) = false := by simp [hlen]
  clear hB hin hU hnin hnsz hlen
  simp only [AV.val, AV.row]
  cases V
  · go_enter Tryd.func39, Tryd.ntmps39
    go_wp2_with fail
    refine (CALL.out _).mono ?_
    rintro e w1 ⟨rfl, hb1⟩
    have hb2 : Below w.heap.size w w1 := ((Below.refl w.heap.size w).alloc (Nat.le_refl _) _).trans (hb1.mono (by simp))
    have hz2 : w.heap.size < w1.heap.size := by have := hb1.size; simp at this; omega
    have hc0 : w1.cell? ⟨w.heap.size, 0, none⟩ = some (.int .i64 6) := cell_later (by simp) hb1
    have hc3 : w1.cell? ⟨w.heap.size, 3, none⟩ = some (.slice na ns.length nc) := cell_later (by simp) hb1
    have hc4 : w1.cell? ⟨w.heap.size, 4, none⟩ = some (.slice xa xs.length xc) := cell_later (by simp) hb1
    go_wp2_with fail
    go_ret
    exact ⟨rfl, hb2⟩
  · go_enter Tryd.func39, Tryd.ntmps39
    go_wp2_with fail
    refine (CALL.out _).mono ?_
    rintro e w1 ⟨rfl, hb1⟩
    have hb2 : Below w.heap.size w w1 := ((Below.refl w.heap.size w).alloc (Nat.le_refl _) _).trans (hb1.mono (by simp))
    have hz2 : w.heap.size < w1.heap.size := by have := hb1.size; simp at this; omega
    have hc0 : w1.cell? ⟨w.heap.size, 0, none⟩ = some (.int .i64 6) := cell_later (by simp) hb1
    have hc3 : w1.cell? ⟨w.heap.size, 3, none⟩ = some (.slice na ns.length nc) := cell_later (by simp) hb1
    have hc4 : w1.cell? ⟨w.heap.size, 4, none⟩ = some (.slice xa xs.length xc) := cell_later (by simp) hb1
    go_wp2_with fail
    go_loopg [3] ns.length (fun g i wr => ∃ j : Nat, j + g = ns.length ∧ i = .int .i64 (j : Int) ∧ namesOk (prev ns j) (ns.drop j) = U ∧ Below w.heap.size w wr ∧ w.heap.size < wr.heap.size ∧ wr.cell? ⟨w.heap.size, 3, none⟩ = some (.slice na ns.length nc) ∧ wr.cell? ⟨w.heap.size, 4, none⟩ = some (.slice xa xs.length xc))
    case atStart => exact ⟨0, by omega, rfl, HU.out, hb2, hz2, hc3, hc4⟩
    case round =>
      obtain ⟨j, hj, rfl, hrest, hb, hz, hd3, hd4⟩ := hrel
      have HJ := Lib.hid hj
      have HREST := Lib.hid hrest
      clear hj hrest
      by_cases hlt : j < ns.length
      · by_cases hj0 : j = 0
        · subst hj0
          obtain ⟨b, o, rfl, hit⟩ := HNIN.out.resolve_left (by intro e; rw [e] at hlt; simp at hlt)
          have hcj : wr.cell? ⟨b, o + 0, none⟩ = some (.string ns[0]) := by rw [hb.cell (World.block_lt_of_cell? w _ (hit 0 hlt))]; exact hit 0 hlt
          obtain ⟨y, hy⟩ : ∃ y, ns[0] = y := ⟨_, rfl⟩
          have hd := namesOk_drop hlt hy
          rw [HREST.out] at hd
          have hys := HNSZ.out ns[0] (List.getElem_mem hlt)
          rw [hy] at hcj hys
          have CALLY := Lib.hid (fun W => text_any y W hys)
          cases hty : textOk y
          · rw [hty] at CALLY hd
            have hU : U = false := by rw [hd]; simp
            subst hU
            simp only [Nat.add_zero] at hcj
            clear hit hy hd hty hys
            have hq3 := fun d os => cell_regrown hd3 d os
            have hqj := fun d os => cell_regrown hcj d os
            go_wp2_with fail
            refine wp_region_quiet_below (by kernel_rfl) (by kernel_rfl) ?_
            repeat (go_big_quiet_step (exact Calls.regrown_of (CALLY.out _)))
            refine wpQuiet_nil ?_
            intro _ hw'
            obtain ⟨⟨dq, osq⟩, hw''⟩ := hw'
            subst hw''
            have hbq := below_regrown wr dq osq
            have hqc3 := hq3 dq osq
            have hqc4 := cell_regrown hd4 dq osq
            clear hq3 hqj
            generalize Go.Sort.grow (redrawn wr dq) osq = wq at *
            go_wp2_with fail
            go_ret
            exact ⟨ret_bool (by simp), hb.trans (hbq.mono hb.size)⟩
          · rw [hty] at CALLY hd
            have hd2 : namesOk (prev ns 1) (ns.drop 1) = U := by rw [hd]; simp [prev, aheadOf]
            have HD := Lib.hid hd2
            simp only [Nat.add_zero] at hcj
            clear hit hy hd hty hys hd2
            have hq3 := fun d os => cell_regrown hd3 d os
            have hqj := fun d os => cell_regrown hcj d os
            go_wp2_with fail
            refine wp_region_quiet_below (by kernel_rfl) (by kernel_rfl) ?_
            repeat (go_big_quiet_step (exact Calls.regrown_of (CALLY.out _)))
            refine wpQuiet_nil ?_
            intro _ hw'
            obtain ⟨⟨dq, osq⟩, hw''⟩ := hw'
            subst hw''
            have hbq := below_regrown wr dq osq
            have hqc3 := hq3 dq osq
            have hqc4 := cell_regrown hd4 dq osq
            clear hq3 hqj
            generalize Go.Sort.grow (redrawn wr dq) osq = wq at *
            go_wp2_with fail
            go_roundg (gk - 1)
            case measure => have := HJ.out; omega
            case rel => exact ⟨1, by have := HJ.out; omega, by go_num, HD.out, hb.trans (hbq.mono hb.size), by have := hbq.size; omega, hqc3, hqc4⟩
        · obtain ⟨i, rfl⟩ : ∃ i, j = i + 1 := ⟨j - 1, by omega⟩
          obtain ⟨b, o, rfl, hit⟩ := HNIN.out.resolve_left (by intro e; rw [e] at hlt; simp at hlt)
          have hcj : wr.cell? ⟨b, o + (i + 1), none⟩ = some (.string ns[i + 1]) := by rw [hb.cell (World.block_lt_of_cell? w _ (hit (i + 1) hlt))]; exact hit (i + 1) hlt
          obtain ⟨y, hy⟩ : ∃ y, ns[i + 1] = y := ⟨_, rfl⟩
          have hd := namesOk_drop hlt hy
          rw [HREST.out] at hd
          have hys := HNSZ.out ns[i + 1] (List.getElem_mem hlt)
          rw [hy] at hcj hys
          have CALLY := Lib.hid (fun W => text_any y W hys)
          cases hty : textOk y
          · rw [hty] at CALLY hd
            have hU : U = false := by rw [hd]; simp
            subst hU
            clear hit hy hd hty hys
            have hq3 := fun d os => cell_regrown hd3 d os
            have hqj := fun d os => cell_regrown hcj d os
            go_wp2_with fail
            refine wp_region_quiet_below (by kernel_rfl) (by kernel_rfl) ?_
            repeat (go_big_quiet_step (exact Calls.regrown_of (CALLY.out _)))
            refine wpQuiet_nil ?_
            intro _ hw'
            obtain ⟨⟨dq, osq⟩, hw''⟩ := hw'
            subst hw''
            have hbq := below_regrown wr dq osq
            have hqc3 := hq3 dq osq
            have hqc4 := cell_regrown hd4 dq osq
            clear hq3 hqj
            generalize Go.Sort.grow (redrawn wr dq) osq = wq at *
            go_wp2_with fail
            go_ret
            exact ⟨ret_bool (by simp), hb.trans (hbq.mono hb.size)⟩
          · rw [hty] at CALLY hd
            have hci : wr.cell? ⟨b, o + i, none⟩ = some (.string ns[i]) := by rw [hb.cell (World.block_lt_of_cell? w _ (hit i (by omega)))]; exact hit i (by omega)
            obtain ⟨z, hz0⟩ : ∃ z, ns[i] = z := ⟨_, rfl⟩
            have hp : prev ns (i + 1) = some z := by simp [prev, show i < ns.length by omega, hz0]
            rw [hp, aheadOf] at hd
            rw [hz0] at hci
            have hqi := fun d os => cell_regrown hci d os
            clear hit hy hz0 hp hty hys
            cases hlt2 : ltB z y
            · rw [hlt2] at hd
              have hU : U = false := by rw [hd]; simp
              subst hU
              have hq : Op.bytesLess z.toList y.toList = false := hlt2
              clear hd hlt2
              have hq3 := fun d os => cell_regrown hd3 d os
              have hqj := fun d os => cell_regrown hcj d os
              go_wp2_with fail
              refine wp_region_quiet_below (by kernel_rfl) (by kernel_rfl) ?_
              repeat (go_big_quiet_step (exact Calls.regrown_of (CALLY.out _)))
              refine wpQuiet_nil ?_
              intro _ hw'
              obtain ⟨⟨dq, osq⟩, hw''⟩ := hw'
              subst hw''
              have hbq := below_regrown wr dq osq
              have hqc3 := hq3 dq osq
              have hqc4 := cell_regrown hd4 dq osq
              clear hq3 hqj hqi
              generalize Go.Sort.grow (redrawn wr dq) osq = wq at *
              go_wp2_with fail
              go_ret
              exact ⟨ret_bool (by simp), hb.trans (hbq.mono hb.size)⟩
            · rw [hlt2] at hd
              have hd2 : namesOk (prev ns (i + 1 + 1)) (ns.drop (i + 1 + 1)) = U := by rw [hd]; simp
              have HD := Lib.hid hd2
              have hq : Op.bytesLess z.toList y.toList = true := hlt2
              clear hd hlt2 hd2
              have hq3 := fun d os => cell_regrown hd3 d os
              have hqj := fun d os => cell_regrown hcj d os
              go_wp2_with fail
              refine wp_region_quiet_below (by kernel_rfl) (by kernel_rfl) ?_
              repeat (go_big_quiet_step (exact Calls.regrown_of (CALLY.out _)))
              refine wpQuiet_nil ?_
              intro _ hw'
              obtain ⟨⟨dq, osq⟩, hw''⟩ := hw'
              subst hw''
              have hbq := below_regrown wr dq osq
              have hqc3 := hq3 dq osq
              have hqc4 := cell_regrown hd4 dq osq
              clear hq3 hqj hqi
              generalize Go.Sort.grow (redrawn wr dq) osq = wq at *
              go_wp2_with fail
              go_roundg (gk - 1)
              case measure => have := HJ.out; omega
              case rel => exact ⟨i + 1 + 1, by have := HJ.out; omega, by go_num, HD.out, hb.trans (hbq.mono hb.size), by have := hbq.size; omega, hqc3, hqc4⟩
      · have hU : U = true := by rw [← HREST.out, List.drop_eq_nil_of_le (by omega)]; rfl
        subst hU
        clear hb2 hz2 hc4
        have hb2 := hb
        have hz2 := hz
        have hc4 := hd4
        go_wp2_with fail
        go_loopg [4] xs.length (fun g i wr => ∃ j : Nat, j + g = xs.length ∧ i = .int .i64 (j : Int) ∧ AV.allR (xs.drop j) = B ∧ Below w.heap.size w wr ∧ w.heap.size < wr.heap.size ∧ wr.cell? ⟨w.heap.size, 4, none⟩ = some (.slice xa xs.length xc))
        case atStart => exact ⟨0, by omega, rfl, HB.out, hb2, hz2, hc4⟩
        case round =>
          obtain ⟨i, hi, rfl, hrest, hb, hz, hc⟩ := hrel
          have HI := Lib.hid hi
          have HREST := Lib.hid hrest
          clear hi hrest
          by_cases hilt : i < xs.length
          · obtain ⟨b, o, rfl, hit⟩ := HIN.out.resolve_left (by intro e; rw [e] at hilt; simp at hilt)
            have hxin : AV.In wr xs[i] := (hit i hilt).2.below hb (Nat.le_refl _)
            have hr : wr.rangeAt b (o + i * 5) xs[i].row := AV.rangeAt_old (fun a ha => hb.cell ha) (hit i hilt).1
            have hmem : xs[i] ∈ xs := List.getElem_mem hilt
            obtain ⟨x, hx⟩ : ∃ x, xs[i] = x := ⟨_, rfl⟩
            have hdrop := AV.allR_drop hilt hx
            rw [HREST.out] at hdrop
            rw [hx] at hxin hr hmem
            have CALL2 := Lib.hid (IH.out x hmem wr hxin)
            have HRR := Lib.hid hr
            cases hf : AV.formedR x
            · rw [hf] at CALL2 hdrop
              have hB : B = false := by rw [hdrop]; simp
              subst hB
              clear hx hit hr hdrop hf
              go_wp2_with (first | ((with_reducible refine wpList_item HRR.out ?_ ?_); rfl) | (go_at_call 39; refine CALL2.out.mono ?_; rintro e w2 ⟨rfl, hb3⟩))
              go_ret
              exact ⟨ret_bool (by simp), hb.trans (hb3.mono hb.size)⟩
            · rw [hf] at CALL2 hdrop
              have hd2 : AV.allR (xs.drop (i + 1)) = B := by rw [hdrop]; simp
              have HD := Lib.hid hd2
              clear hx hit hr hdrop hf hd2
              go_wp2_with (first | ((with_reducible refine wpList_item HRR.out ?_ ?_); rfl) | (go_at_call 39; refine CALL2.out.mono ?_; rintro e w2 ⟨rfl, hb3⟩))
              go_roundg (gk - 1)
              case measure => have := HI.out; omega
              case rel => exact ⟨i + 1, by have := HI.out; omega, by go_num, HD.out, hb.trans (hb3.mono hb.size), by have := hb3.size; omega, cell_later hc hb3⟩
          · have hB : B = true := by rw [← HREST.out, List.drop_eq_nil_of_le (by omega)]; rfl
            subst hB
            go_wp2_with fail
            go_ret
            exact ⟨ret_bool (by simp [*]), hb⟩

end Go.Proofs.YtcbfbmidekmboaaDoor
