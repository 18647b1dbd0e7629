/- A value's key by the document: what the call answers, for words, numbers and texts; under Go's own limit of length. -/
import Derived.Test.YtcbfbmidekmboaaDoorRtext
import Derived.Test.YtcbfbmidekmboaaDoorRbig
namespace Go.Proofs.YtcbfbmidekmboaaDoor
open Go.ChangeShapes Go.WideShapes Go.Deep Go.RowKit Go.Lib

theorem start_row (w : World) (cs : Array Value) (c : UInt8) (x : Int) (hx : x = (c.toNat : Int)) : Took w.heap.size (.slice (some ⟨w.heap.size + 1, 0, none⟩) 1 1) [c] w ((w.alloc (.cells cs 25)).alloc (.cells #[.int .u8 x] 5)) := by
  subst hx
  have h := World.ownsRow_lit (e := 5) (base := w.heap.size) (size := 1) (w.alloc (.cells cs 25)) #[.int .u8 (c.toNat : Int)] 1 (by simp) (by unfold maxLen; omega) rfl
  rw [show (w.alloc (.cells cs 25)).heap.size = w.heap.size + 1 by simp] at h
  have hb : Below w.heap.size w ((w.alloc (.cells cs 25)).alloc (.cells #[.int .u8 (c.toNat : Int)] 5)) := two_below w _ _
  exact ⟨h, hb, kept_of_below hb⟩

theorem start_box (w : World) (cs : Array Value) (o : Obj) : ((w.alloc (.cells cs 25)).alloc o).heap[w.heap.size]? = some (.cells cs 25 (0, 0)) := by
  rw [Lib.alloc_old _ _ _ (by simp)]; exact heap_alloc_new w _

/-- Bytes given, as a source of an append. -/
theorem BytesIn.source {w : World} {na : Option Addr} {l : List UInt8} (h : BytesIn w na l) (h0 : 1 ≤ l.length) : ∃ ad : Addr, na = some ad ∧ ∀ j u, (Lib.byteCells l)[j]? = some u → w.cell? (ad.add j) = some u := by
  rcases h with h | ⟨b, o, e, h⟩
  · rw [h] at h0; simp at h0
  · refine ⟨⟨b, o, none⟩, e, fun j u hj => ?_⟩
    simp only [Lib.byteCells, List.getElem?_map, Option.map_eq_some_iff] at hj
    obtain ⟨c, hc, rfl⟩ := hj
    obtain ⟨hj, rfl⟩ := List.getElem?_eq_some_iff.1 hc
    rw [WideShapes.add_plain]
    exact h j hj

set_option maxHeartbeats 4000000 in
set_option maxRecDepth 100000 in
theorem rplain_word (k n : Int) (s : ByteArray) (sa : Option Addr) (sc : Nat) (ns : List ByteArray) (xa : Option Addr) (xc : Nat) (xs : List AV) (w : World) (hk : k = 0 ∨ k = 1 ∨ k = 2) :
    Calls Tryd.prog 26 #[(AV.mk k n s sa sc ns xa xc xs).val] w (Gave [UInt8.ofNat (k + 1).toNat] w) := by
  simp only [AV.val, AV.row]
  rcases hk with rfl | rfl | rfl
  all_goals
    go_enter Tryd.func26, Tryd.ntmps26
    go_wp2_with fail
    go_ret
    exact (start_row w _ _ _ rfl).gave rfl

set_option maxHeartbeats 4000000 in
set_option maxRecDepth 100000 in
theorem rplain_num (n : Int) (s : ByteArray) (sa : Option Addr) (sc : Nat) (ns : List ByteArray) (xa : Option Addr) (xc : Nat) (xs : List AV) (w : World) (h0 : -9223372036854775808 ≤ n) (h1 : n < 9223372036854775808) :
    Calls Tryd.prog 26 #[(AV.mk 3 n s sa sc ns xa xc xs).val] w (Gave (4 :: bigL (n + 9223372036854775808).toNat) w) := by
  obtain ⟨m, hm⟩ : ∃ m : Nat, (n + 9223372036854775808).toNat = m := ⟨_, rfl⟩
  have hmi : (m : Int) = n + 9223372036854775808 := by omega
  have hwrap : IntKind.u64.wrap (IntKind.u64.wrap n + 9223372036854775808) = (m : Int) := by
    rw [hmi]
    show (n % 18446744073709551616 + 9223372036854775808) % 18446744073709551616 = _
    omega
  rw [hm]
  have CALL := Lib.hid (fun (W : World) => rBig_any m W (by omega))
  have HS := Lib.hid (start_row w #[.int .i64 3, .int .i64 n, .string s, .slice sa ns.length sc, .slice xa xs.length xc] 4 4 rfl)
  have HBX := Lib.hid (start_box w #[.int .i64 3, .int .i64 n, .string s, .slice sa ns.length sc, .slice xa xs.length xc] (.cells #[.int .u8 4] 5))
  have hc1 := (box_cells HBX.out).2.1
  have hc0 := (box_cells HBX.out).1
  clear hm hmi h0 h1
  simp only [AV.val, AV.row]
  go_enter Tryd.func26, Tryd.ntmps26
  go_wp2_with fail
  refine (CALL.out _).mono ?_
  rintro e W2 ⟨nb, cb, rfl, hin, hq⟩
  obtain ⟨ad, rfl, hsrc⟩ := hin.source (by rw [bigL_length]; omega)
  have HT := Lib.hid (HS.out.later hq (by simp; omega))
  have hB2 := HT.out.size (Nat.le_refl _)
  have HSRC := Lib.hid hsrc
  clear hin hsrc hq
  go_wp2_with (at_builtin; refine wpList_app rfl _ _ rfl HT.out hB2 rfl (bigL m) ad 8 cb rfl rfl HSRC.out (by rw [bigL_length]; simp) ?_)
  intro nc cc W3 hW3
  have HW3 := Lib.hid hW3
  clear hW3
  go_wp2_with fail
  go_ret
  exact HW3.out.gave (by simp)

set_option maxHeartbeats 4000000 in
set_option maxRecDepth 100000 in
theorem rplain_text (n : Int) (s : ByteArray) (sa : Option Addr) (sc : Nat) (ns : List ByteArray) (xa : Option Addr) (xc : Nat) (xs : List AV) (w : World) (hs : s.size ≤ maxLen) (hlen : (textL s.data.toList).length + 1 ≤ 140737488355328) :
    Calls Tryd.prog 26 #[(AV.mk 4 n s sa sc ns xa xc xs).val] w (Gave (5 :: textL s.data.toList) w) := by
  have CALL := Lib.hid (fun (W : World) => rText_any s W hs (by omega))
  have hl1 := (textL_length s.data.toList).1
  obtain ⟨R, hR⟩ : ∃ R, textL s.data.toList = R := ⟨_, rfl⟩
  rw [hR] at CALL hl1 hlen ⊢
  have HS := Lib.hid (start_row w #[.int .i64 4, .int .i64 n, .string s, .slice sa ns.length sc, .slice xa xs.length xc] 5 5 rfl)
  have HBX := Lib.hid (start_box w #[.int .i64 4, .int .i64 n, .string s, .slice sa ns.length sc, .slice xa xs.length xc] (.cells #[.int .u8 5] 5))
  have hc2 := (box_cells HBX.out).2.2.1
  have hc0 := (box_cells HBX.out).1
  have HL := Lib.hid hlen
  have HL1 : Hid (1 ≤ R.length) := Lib.hid (by omega)
  clear hR hs hl1 hlen
  simp only [AV.val, AV.row]
  go_enter Tryd.func26, Tryd.ntmps26
  go_wp2_with fail
  refine (CALL.out _).mono ?_
  rintro e W2 ⟨nb, cb, rfl, hin, hq⟩
  obtain ⟨ad, rfl, hsrc⟩ := hin.source HL1.out
  have HT := Lib.hid (HS.out.later hq (by simp; omega))
  have hB2 := HT.out.size (Nat.le_refl _)
  have HSRC := Lib.hid hsrc
  clear hin hsrc hq
  go_wp2_with (at_builtin; refine wpList_app rfl _ _ rfl HT.out hB2 rfl R ad R.length cb rfl rfl HSRC.out (by have := HL.out; simp; omega) ?_)
  intro nc cc W3 hW3
  have HW3 := Lib.hid hW3
  clear hW3
  go_wp2_with fail
  go_ret
  exact HW3.out.gave (by simp)
end Go.Proofs.YtcbfbmidekmboaaDoor
