/- Whether a value is formed: what the document's answer is, where its own fields are as they must be; and so for every value. -/
import Derived.Test.YtcbfbmidekmboaaDoorFormr
namespace Go.Proofs.YtcbfbmidekmboaaDoor
open Go.ChangeShapes Go.WideShapes Go.Deep Go.RowKit Go.Lib

theorem keep3 {W : World} {f : FuncId} {args : Array Value} {r : Value} {A : World} {p0 p1 p2 : Addr} {c0 c1 c2 : Value} (hk : Below A.heap.size A W)
    (h0 : W.cell? p0 = some c0) (h1 : W.cell? p1 = some c1) (h2 : W.cell? p2 = some c2) (h : Calls Tryd.prog f args W fun e w' => e = .returned r ∧ Below W.heap.size W w') :
    Calls Tryd.prog f args W fun e W' => e = .returned r ∧ W'.cell? p0 = some c0 ∧ W'.cell? p1 = some c1 ∧ W'.cell? p2 = some c2 ∧ Below A.heap.size A W' :=
  h.mono fun _ _ ⟨he, hb⟩ => ⟨he, cell_later h0 hb, cell_later h1 hb, cell_later h2 hb, hk.trans (hb.mono hk.size)⟩

set_option maxHeartbeats 1600000 in
set_option maxRecDepth 100000 in
theorem rleaf0 (s : ByteArray) (na : Option Addr) (nc : Nat) (xa : Option Addr) (xc : Nat) (w : World) (hsz : s.size ≤ maxLen) (hs : s.toList = []) :
    Calls Tryd.prog 39 #[(AV.mk 0 0 s na nc [] xa xc []).val] w fun e w' => e = .returned (.bool (textOk s)) ∧ Below w.heap.size w w' := by
  have CALL := Lib.hid (fun W => text_any s W hsz)
  obtain ⟨V, hV⟩ : ∃ V, textOk s = V := ⟨_, rfl⟩
  rw [hV] at CALL ⊢
  clear hV hsz
  simp only [AV.val, AV.row, List.length_nil]
  cases V
  · go_enter Tryd.func39, Tryd.ntmps39
    go_wp2_with fail
    refine (CALL.out _).mono ?_
    rintro e w1 ⟨rfl, hb1⟩
    have hb2 : Below w.heap.size w w1 := ((Below.refl w.heap.size w).alloc (Nat.le_refl _) _).trans (hb1.mono (by simp))
    have hz2 : w.heap.size < w1.heap.size := by have := hb1.size; simp at this; omega
    have hc0 : w1.cell? ⟨w.heap.size, 0, none⟩ = some (.int .i64 0) := cell_later (by simp) hb1
    have hc3 : w1.cell? ⟨w.heap.size, 3, none⟩ = some (.slice na 0 nc) := cell_later (by simp) hb1
    have hc4 : w1.cell? ⟨w.heap.size, 4, none⟩ = some (.slice xa 0 xc) := cell_later (by simp) hb1
    go_wp2_with fail
    go_ret
    exact ⟨rfl, hb2⟩
  · go_enter Tryd.func39, Tryd.ntmps39
    go_wp2_with fail
    refine (CALL.out _).mono ?_
    rintro e w1 ⟨rfl, hb1⟩
    have hb2 : Below w.heap.size w w1 := ((Below.refl w.heap.size w).alloc (Nat.le_refl _) _).trans (hb1.mono (by simp))
    have hz2 : w.heap.size < w1.heap.size := by have := hb1.size; simp at this; omega
    have hc0 : w1.cell? ⟨w.heap.size, 0, none⟩ = some (.int .i64 0) := cell_later (by simp) hb1
    have hc3 : w1.cell? ⟨w.heap.size, 3, none⟩ = some (.slice na 0 nc) := cell_later (by simp) hb1
    have hc4 : w1.cell? ⟨w.heap.size, 4, none⟩ = some (.slice xa 0 xc) := cell_later (by simp) hb1
    go_wp2_with fail
    go_loopg [3] 0 (fun g i wr => i = .int .i64 0 ∧ w1 = wr)
    case atStart => exact ⟨rfl, rfl⟩
    case round =>
      obtain ⟨rfl, rfl⟩ := hrel
      go_wp2_with fail
      go_loopg [4] 0 (fun g i wr => i = .int .i64 0 ∧ w1 = wr)
      case atStart => exact ⟨rfl, rfl⟩
      case round =>
        obtain ⟨rfl, rfl⟩ := hrel
        go_wp2_with fail
        go_ret
        exact ⟨ret_bool (by simp [*]), hb2⟩

set_option maxHeartbeats 1600000 in
set_option maxRecDepth 100000 in
theorem rleaf1 (s : ByteArray) (na : Option Addr) (nc : Nat) (xa : Option Addr) (xc : Nat) (w : World) (hsz : s.size ≤ maxLen) (hs : s.toList = []) :
    Calls Tryd.prog 39 #[(AV.mk 1 0 s na nc [] xa xc []).val] w fun e w' => e = .returned (.bool (textOk s)) ∧ Below w.heap.size w w' := by
  have CALL := Lib.hid (fun W => text_any s W hsz)
  obtain ⟨V, hV⟩ : ∃ V, textOk s = V := ⟨_, rfl⟩
  rw [hV] at CALL ⊢
  clear hV hsz
  simp only [AV.val, AV.row, List.length_nil]
  cases V
  · go_enter Tryd.func39, Tryd.ntmps39
    go_wp2_with fail
    refine (CALL.out _).mono ?_
    rintro e w1 ⟨rfl, hb1⟩
    have hb2 : Below w.heap.size w w1 := ((Below.refl w.heap.size w).alloc (Nat.le_refl _) _).trans (hb1.mono (by simp))
    have hz2 : w.heap.size < w1.heap.size := by have := hb1.size; simp at this; omega
    have hc0 : w1.cell? ⟨w.heap.size, 0, none⟩ = some (.int .i64 1) := cell_later (by simp) hb1
    have hc3 : w1.cell? ⟨w.heap.size, 3, none⟩ = some (.slice na 0 nc) := cell_later (by simp) hb1
    have hc4 : w1.cell? ⟨w.heap.size, 4, none⟩ = some (.slice xa 0 xc) := cell_later (by simp) hb1
    go_wp2_with fail
    go_ret
    exact ⟨rfl, hb2⟩
  · go_enter Tryd.func39, Tryd.ntmps39
    go_wp2_with fail
    refine (CALL.out _).mono ?_
    rintro e w1 ⟨rfl, hb1⟩
    have hb2 : Below w.heap.size w w1 := ((Below.refl w.heap.size w).alloc (Nat.le_refl _) _).trans (hb1.mono (by simp))
    have hz2 : w.heap.size < w1.heap.size := by have := hb1.size; simp at this; omega
    have hc0 : w1.cell? ⟨w.heap.size, 0, none⟩ = some (.int .i64 1) := cell_later (by simp) hb1
    have hc3 : w1.cell? ⟨w.heap.size, 3, none⟩ = some (.slice na 0 nc) := cell_later (by simp) hb1
    have hc4 : w1.cell? ⟨w.heap.size, 4, none⟩ = some (.slice xa 0 xc) := cell_later (by simp) hb1
    go_wp2_with fail
    go_loopg [3] 0 (fun g i wr => i = .int .i64 0 ∧ w1 = wr)
    case atStart => exact ⟨rfl, rfl⟩
    case round =>
      obtain ⟨rfl, rfl⟩ := hrel
      go_wp2_with fail
      go_loopg [4] 0 (fun g i wr => i = .int .i64 0 ∧ w1 = wr)
      case atStart => exact ⟨rfl, rfl⟩
      case round =>
        obtain ⟨rfl, rfl⟩ := hrel
        go_wp2_with fail
        go_ret
        exact ⟨ret_bool (by simp [*]), hb2⟩

set_option maxHeartbeats 1600000 in
set_option maxRecDepth 100000 in
theorem rleaf2 (s : ByteArray) (na : Option Addr) (nc : Nat) (xa : Option Addr) (xc : Nat) (w : World) (hsz : s.size ≤ maxLen) (hs : s.toList = []) :
    Calls Tryd.prog 39 #[(AV.mk 2 0 s na nc [] xa xc []).val] w fun e w' => e = .returned (.bool (textOk s)) ∧ Below w.heap.size w w' := by
  have CALL := Lib.hid (fun W => text_any s W hsz)
  obtain ⟨V, hV⟩ : ∃ V, textOk s = V := ⟨_, rfl⟩
  rw [hV] at CALL ⊢
  clear hV hsz
  simp only [AV.val, AV.row, List.length_nil]
  cases V
  · go_enter Tryd.func39, Tryd.ntmps39
    go_wp2_with fail
    refine (CALL.out _).mono ?_
    rintro e w1 ⟨rfl, hb1⟩
    have hb2 : Below w.heap.size w w1 := ((Below.refl w.heap.size w).alloc (Nat.le_refl _) _).trans (hb1.mono (by simp))
    have hz2 : w.heap.size < w1.heap.size := by have := hb1.size; simp at this; omega
    have hc0 : w1.cell? ⟨w.heap.size, 0, none⟩ = some (.int .i64 2) := cell_later (by simp) hb1
    have hc3 : w1.cell? ⟨w.heap.size, 3, none⟩ = some (.slice na 0 nc) := cell_later (by simp) hb1
    have hc4 : w1.cell? ⟨w.heap.size, 4, none⟩ = some (.slice xa 0 xc) := cell_later (by simp) hb1
    go_wp2_with fail
    go_ret
    exact ⟨rfl, hb2⟩
  · go_enter Tryd.func39, Tryd.ntmps39
    go_wp2_with fail
    refine (CALL.out _).mono ?_
    rintro e w1 ⟨rfl, hb1⟩
    have hb2 : Below w.heap.size w w1 := ((Below.refl w.heap.size w).alloc (Nat.le_refl _) _).trans (hb1.mono (by simp))
    have hz2 : w.heap.size < w1.heap.size := by have := hb1.size; simp at this; omega
    have hc0 : w1.cell? ⟨w.heap.size, 0, none⟩ = some (.int .i64 2) := cell_later (by simp) hb1
    have hc3 : w1.cell? ⟨w.heap.size, 3, none⟩ = some (.slice na 0 nc) := cell_later (by simp) hb1
    have hc4 : w1.cell? ⟨w.heap.size, 4, none⟩ = some (.slice xa 0 xc) := cell_later (by simp) hb1
    go_wp2_with fail
    go_loopg [3] 0 (fun g i wr => i = .int .i64 0 ∧ w1 = wr)
    case atStart => exact ⟨rfl, rfl⟩
    case round =>
      obtain ⟨rfl, rfl⟩ := hrel
      go_wp2_with fail
      go_loopg [4] 0 (fun g i wr => i = .int .i64 0 ∧ w1 = wr)
      case atStart => exact ⟨rfl, rfl⟩
      case round =>
        obtain ⟨rfl, rfl⟩ := hrel
        go_wp2_with fail
        go_ret
        exact ⟨ret_bool (by simp [*]), hb2⟩

set_option maxHeartbeats 1600000 in
set_option maxRecDepth 100000 in
theorem rleaf3 (n : Int) (s : ByteArray) (na : Option Addr) (nc : Nat) (xa : Option Addr) (xc : Nat) (w : World) (hsz : s.size ≤ maxLen) (hs : s.toList = []) :
    Calls Tryd.prog 39 #[(AV.mk 3 n s na nc [] xa xc []).val] w fun e w' => e = .returned (.bool (textOk s)) ∧ Below w.heap.size w w' := by
  have CALL := Lib.hid (fun W => text_any s W hsz)
  obtain ⟨V, hV⟩ : ∃ V, textOk s = V := ⟨_, rfl⟩
  rw [hV] at CALL ⊢
  clear hV hsz
  simp only [AV.val, AV.row, List.length_nil]
  cases V
  · go_enter Tryd.func39, Tryd.ntmps39
    go_wp2_with fail
    refine (CALL.out _).mono ?_
    rintro e w1 ⟨rfl, hb1⟩
    have hb2 : Below w.heap.size w w1 := ((Below.refl w.heap.size w).alloc (Nat.le_refl _) _).trans (hb1.mono (by simp))
    have hz2 : w.heap.size < w1.heap.size := by have := hb1.size; simp at this; omega
    have hc0 : w1.cell? ⟨w.heap.size, 0, none⟩ = some (.int .i64 3) := cell_later (by simp) hb1
    have hc3 : w1.cell? ⟨w.heap.size, 3, none⟩ = some (.slice na 0 nc) := cell_later (by simp) hb1
    have hc4 : w1.cell? ⟨w.heap.size, 4, none⟩ = some (.slice xa 0 xc) := cell_later (by simp) hb1
    go_wp2_with fail
    go_ret
    exact ⟨rfl, hb2⟩
  · go_enter Tryd.func39, Tryd.ntmps39
    go_wp2_with fail
    refine (CALL.out _).mono ?_
    rintro e w1 ⟨rfl, hb1⟩
    have hb2 : Below w.heap.size w w1 := ((Below.refl w.heap.size w).alloc (Nat.le_refl _) _).trans (hb1.mono (by simp))
    have hz2 : w.heap.size < w1.heap.size := by have := hb1.size; simp at this; omega
    have hc0 : w1.cell? ⟨w.heap.size, 0, none⟩ = some (.int .i64 3) := cell_later (by simp) hb1
    have hc3 : w1.cell? ⟨w.heap.size, 3, none⟩ = some (.slice na 0 nc) := cell_later (by simp) hb1
    have hc4 : w1.cell? ⟨w.heap.size, 4, none⟩ = some (.slice xa 0 xc) := cell_later (by simp) hb1
    go_wp2_with fail
    go_loopg [3] 0 (fun g i wr => i = .int .i64 0 ∧ w1 = wr)
    case atStart => exact ⟨rfl, rfl⟩
    case round =>
      obtain ⟨rfl, rfl⟩ := hrel
      go_wp2_with fail
      go_loopg [4] 0 (fun g i wr => i = .int .i64 0 ∧ w1 = wr)
      case atStart => exact ⟨rfl, rfl⟩
      case round =>
        obtain ⟨rfl, rfl⟩ := hrel
        go_wp2_with fail
        go_ret
        exact ⟨ret_bool (by simp [*]), hb2⟩

set_option maxHeartbeats 1600000 in
set_option maxRecDepth 100000 in
theorem rleaf4 (s : ByteArray) (na : Option Addr) (nc : Nat) (xa : Option Addr) (xc : Nat) (w : World) (hsz : s.size ≤ maxLen) :
    Calls Tryd.prog 39 #[(AV.mk 4 0 s na nc [] xa xc []).val] w fun e w' => e = .returned (.bool (textOk s)) ∧ Below w.heap.size w w' := by
  have CALL := Lib.hid (fun W => text_any s W hsz)
  obtain ⟨V, hV⟩ : ∃ V, textOk s = V := ⟨_, rfl⟩
  rw [hV] at CALL ⊢
  clear hV hsz
  simp only [AV.val, AV.row, List.length_nil]
  cases V
  · go_enter Tryd.func39, Tryd.ntmps39
    go_wp2_with fail
    refine (CALL.out _).mono ?_
    rintro e w1 ⟨rfl, hb1⟩
    have hb2 : Below w.heap.size w w1 := ((Below.refl w.heap.size w).alloc (Nat.le_refl _) _).trans (hb1.mono (by simp))
    have hz2 : w.heap.size < w1.heap.size := by have := hb1.size; simp at this; omega
    have hc0 : w1.cell? ⟨w.heap.size, 0, none⟩ = some (.int .i64 4) := cell_later (by simp) hb1
    have hc3 : w1.cell? ⟨w.heap.size, 3, none⟩ = some (.slice na 0 nc) := cell_later (by simp) hb1
    have hc4 : w1.cell? ⟨w.heap.size, 4, none⟩ = some (.slice xa 0 xc) := cell_later (by simp) hb1
    go_wp2_with fail
    go_ret
    exact ⟨rfl, hb2⟩
  · go_enter Tryd.func39, Tryd.ntmps39
    go_wp2_with fail
    refine (CALL.out _).mono ?_
    rintro e w1 ⟨rfl, hb1⟩
    have hb2 : Below w.heap.size w w1 := ((Below.refl w.heap.size w).alloc (Nat.le_refl _) _).trans (hb1.mono (by simp))
    have hz2 : w.heap.size < w1.heap.size := by have := hb1.size; simp at this; omega
    have hc0 : w1.cell? ⟨w.heap.size, 0, none⟩ = some (.int .i64 4) := cell_later (by simp) hb1
    have hc3 : w1.cell? ⟨w.heap.size, 3, none⟩ = some (.slice na 0 nc) := cell_later (by simp) hb1
    have hc4 : w1.cell? ⟨w.heap.size, 4, none⟩ = some (.slice xa 0 xc) := cell_later (by simp) hb1
    go_wp2_with fail
    go_loopg [3] 0 (fun g i wr => i = .int .i64 0 ∧ w1 = wr)
    case atStart => exact ⟨rfl, rfl⟩
    case round =>
      obtain ⟨rfl, rfl⟩ := hrel
      go_wp2_with fail
      go_loopg [4] 0 (fun g i wr => i = .int .i64 0 ∧ w1 = wr)
      case atStart => exact ⟨rfl, rfl⟩
      case round =>
        obtain ⟨rfl, rfl⟩ := hrel
        go_wp2_with fail
        go_ret
        exact ⟨ret_bool (by simp [*]), hb2⟩

set_option maxHeartbeats 1600000 in
set_option maxRecDepth 100000 in
theorem rarr (s : ByteArray) (na : Option Addr) (nc : Nat) (xa : Option Addr) (xc : Nat) (xs : List AV) (w : World) (hsz : s.size ≤ maxLen) (hin : AV.Its w xa xs) (hl : xs.length ≤ 9223372036854775807) (hs : s.toList = []) (hxs : xs.length ≤ 24) (IH : Hid (∀ x ∈ xs, RFormedAt x)) :
    Calls Tryd.prog 39 #[(AV.mk 5 0 s na nc [] xa xc xs).val] w fun e w' => e = .returned (.bool (textOk s && AV.allR xs)) ∧ Below w.heap.size w w' := by
  have CALL := Lib.hid (fun W => text_any s W hsz)
  obtain ⟨V, hV⟩ : ∃ V, textOk s = V := ⟨_, rfl⟩
  rw [hV] at CALL ⊢
  clear hV hsz
  obtain ⟨B, hB⟩ : ∃ B, AV.allR xs = B := ⟨_, rfl⟩
  rw [hB]
  have HB := Lib.hid hB
  have HIN := Lib.hid hin
  clear hB hin
  simp only [AV.val, AV.row, List.length_nil]
  cases V
  · go_enter Tryd.func39, Tryd.ntmps39
    go_wp2_with fail
    refine (CALL.out _).mono ?_
    rintro e w1 ⟨rfl, hb1⟩
    have hb2 : Below w.heap.size w w1 := ((Below.refl w.heap.size w).alloc (Nat.le_refl _) _).trans (hb1.mono (by simp))
    have hz2 : w.heap.size < w1.heap.size := by have := hb1.size; simp at this; omega
    have hc0 : w1.cell? ⟨w.heap.size, 0, none⟩ = some (.int .i64 5) := cell_later (by simp) hb1
    have hc3 : w1.cell? ⟨w.heap.size, 3, none⟩ = some (.slice na 0 nc) := cell_later (by simp) hb1
    have hc4 : w1.cell? ⟨w.heap.size, 4, none⟩ = some (.slice xa xs.length xc) := cell_later (by simp) hb1
    go_wp2_with fail
    go_ret
    exact ⟨rfl, hb2⟩
  · go_enter Tryd.func39, Tryd.ntmps39
    go_wp2_with fail
    refine (CALL.out _).mono ?_
    rintro e w1 ⟨rfl, hb1⟩
    have hb2 : Below w.heap.size w w1 := ((Below.refl w.heap.size w).alloc (Nat.le_refl _) _).trans (hb1.mono (by simp))
    have hz2 : w.heap.size < w1.heap.size := by have := hb1.size; simp at this; omega
    have hc0 : w1.cell? ⟨w.heap.size, 0, none⟩ = some (.int .i64 5) := cell_later (by simp) hb1
    have hc3 : w1.cell? ⟨w.heap.size, 3, none⟩ = some (.slice na 0 nc) := cell_later (by simp) hb1
    have hc4 : w1.cell? ⟨w.heap.size, 4, none⟩ = some (.slice xa xs.length xc) := cell_later (by simp) hb1
    go_wp2_with fail
    go_loopg [3] 0 (fun g i wr => i = .int .i64 0 ∧ w1 = wr)
    case atStart => exact ⟨rfl, rfl⟩
    case round =>
      obtain ⟨rfl, rfl⟩ := hrel
      go_wp2_with fail
      go_loopg [4] xs.length (fun g i wr => ∃ j : Nat, j + g = xs.length ∧ i = .int .i64 (j : Int) ∧ AV.allR (xs.drop j) = B ∧ Below w.heap.size w wr ∧ w.heap.size < wr.heap.size ∧ wr.cell? ⟨w.heap.size, 4, none⟩ = some (.slice xa xs.length xc))
      case atStart => exact ⟨0, by omega, rfl, HB.out, hb2, hz2, hc4⟩
      case round =>
        obtain ⟨i, hi, rfl, hrest, hb, hz, hc⟩ := hrel
        have HI := Lib.hid hi
        have HREST := Lib.hid hrest
        clear hi hrest
        by_cases hilt : i < xs.length
        · obtain ⟨b, o, rfl, hit⟩ := HIN.out.resolve_left (by intro e; rw [e] at hilt; simp at hilt)
          have hxin : AV.In wr xs[i] := (hit i hilt).2.below hb (Nat.le_refl _)
          have hr : wr.rangeAt b (o + i * 5) xs[i].row := AV.rangeAt_old (fun a ha => hb.cell ha) (hit i hilt).1
          have hmem : xs[i] ∈ xs := List.getElem_mem hilt
          obtain ⟨x, hx⟩ : ∃ x, xs[i] = x := ⟨_, rfl⟩
          have hdrop := AV.allR_drop hilt hx
          rw [HREST.out] at hdrop
          rw [hx] at hxin hr hmem
          have CALL2 := Lib.hid (IH.out x hmem wr hxin)
          have HRR := Lib.hid hr
          cases hf : AV.formedR x
          · rw [hf] at CALL2 hdrop
            have hB : B = false := by rw [hdrop]; simp
            subst hB
            clear hx hit hr hdrop hf
            go_wp2_with (first | ((with_reducible refine wpList_item HRR.out ?_ ?_); rfl) | (go_at_call 39; refine CALL2.out.mono ?_; rintro e w2 ⟨rfl, hb3⟩))
            go_ret
            exact ⟨ret_bool (by simp), hb.trans (hb3.mono hb.size)⟩
          · rw [hf] at CALL2 hdrop
            have hd2 : AV.allR (xs.drop (i + 1)) = B := by rw [hdrop]; simp
            have HD := Lib.hid hd2
            clear hx hit hr hdrop hf hd2
            go_wp2_with (first | ((with_reducible refine wpList_item HRR.out ?_ ?_); rfl) | (go_at_call 39; refine CALL2.out.mono ?_; rintro e w2 ⟨rfl, hb3⟩))
            go_roundg (gk - 1)
            case measure => have := HI.out; omega
            case rel => exact ⟨i + 1, by have := HI.out; omega, by go_num, HD.out, hb.trans (hb3.mono hb.size), by have := hb3.size; omega, cell_later hc hb3⟩
        · have hB : B = true := by rw [← HREST.out, List.drop_eq_nil_of_le (by omega)]; rfl
          subst hB
          go_wp2_with fail
          go_ret
          exact ⟨ret_bool (by simp [*]), hb⟩
end Go.Proofs.YtcbfbmidekmboaaDoor
