/- A step's place in a value, by the program: the document's place; for values whose names rise. -/
/- A step's place in a value, by the program: the document's place; for values whose names rise. -/
import Derived.Test.YtijibjdgnaphiaaDoorPplace
import Derived.Deep.QuietTactic
import Derived.BigQuiet
import Derived.Lib.AtoiErrMem
namespace Go.Proofs.YtijibjdgnaphiaaDoor
open Go.ChangeShapes Go.WideShapes Go.Deep Go.RowKit Go.Lib

/-- The errors of the library's are something. -/
def ErrV (w : World) : Prop := (∃ ev, w.cell? ⟨4, 0, none⟩ = some ev ∧ (ev = .nilIface ∨ ∃ te pe, ev = .iface te pe)) ∧ (∃ ev, w.cell? ⟨5, 0, none⟩ = some ev ∧ (ev = .nilIface ∨ ∃ te pe, ev = .iface te pe))

theorem ErrV.later {w w' : World} (h : ErrV w) (hb : Below w.heap.size w w') : ErrV w' :=
  ⟨h.1.imp fun _ ⟨h1, h2⟩ => ⟨cell_later h1 hb, h2⟩, h.2.imp fun _ ⟨h1, h2⟩ => ⟨cell_later h1 hb, h2⟩⟩

/-- The number that ParseUint answers. -/
def numV (l : List UInt8) : Int := match Lib.parseUintB 32 l with
  | .ok u => u
  | .range => 4294967295
  | _ => 0

theorem numV_some {l : List UInt8} {u : Nat} (h : numL l = some u) : numV l = u := by
  unfold numL at h
  unfold numV
  split at h
  · rename_i v hv
    rw [hv]
    split at h
    · rw [Option.some.inj h]
    · cases h
  · cases h

set_option maxHeartbeats 800000 in
set_option maxRecDepth 100000 in
theorem number_any (p : ByteArray) (w : World) (h1 : 0 < p.size) (h2 : p.size ≤ 60) (hE : ErrV w) :
    Calls Tryd.prog 68 #[.string p] w fun e w' => Below w.heap.size w w' ∧ e = .returned (.tuple #[.int .i64 (numV p.data.toList), .bool (numL p.data.toList).isSome]) := by
  obtain ⟨⟨e1, he1, hv1⟩, ⟨e2, he2, hv2⟩⟩ := hE
  rcases hp : Lib.parseUintB 32 p.data.toList with u | _ | _
  · have CALL := Lib.hid (Tryd.strconv_ParseUint_10_at32_ok p (by omega) u hp w)
    have hnv : numV p.data.toList = u := by unfold numV; rw [hp]
    rw [hnv]
    clear hnv
    have hu := parse_bound hp
    have hn : numL p.data.toList = if p.data.toList.length ≤ 4 ∧ (p.data.toList = [48] ∨ p.data.toList.head? ≠ some 48) then some u else none := by
      unfold numL; rw [hp]
    have hz : p.data.toList.length = p.size := by simp
    rw [hz] at hn
    have hh : p.data.toList.head? = some p[0] := by
      rw [List.head?_eq_getElem?, List.getElem?_eq_getElem (by rw [hz]; omega)]; rfl
    rw [hh] at hn
    have hl : p.toList = p.data.toList := ByteArray.toList_eq p
    have hcv : IntKind.i64.wrap (u : Int) = (u : Int) := IntWalk.i64_in _ (by omega)
    have hcv' : IntKind.i64.wrap ((u : Nat) : Int) = (u : Int) := hcv
    obtain ⟨R, hR⟩ : ∃ R, numL p.data.toList = R := ⟨_, rfl⟩
    rw [hR] at hn ⊢
    have ways : (decide ((p.size : Int) ≤ 4) = false ∧ R = none) ∨ (decide ((p.size : Int) ≤ 4) = true ∧ (p.toList == [48]) = true ∧ R = some u) ∨ (decide ((p.size : Int) ≤ 4) = true ∧ (p.toList == [48]) = false ∧ ((p[0].toNat : Int) != 48) = false ∧ ((p[0].toNat : Int) == 48) = true ∧ R = none) ∨
        (decide ((p.size : Int) ≤ 4) = true ∧ (p.toList == [48]) = false ∧ ((p[0].toNat : Int) != 48) = true ∧ ((p[0].toNat : Int) == 48) = false ∧ R = some u) := by
      by_cases g4 : p.size ≤ 4
      · right
        by_cases g0 : p.data.toList = [48]
        · left
          exact ⟨by simp; omega, by rw [hl, g0]; rfl, by rw [hn, if_pos ⟨g4, .inl g0⟩]⟩
        · right
          by_cases g1 : p[0] = 48
          · left
            refine ⟨by simp; omega, by rw [hl]; simpa using g0, by rw [g1]; rfl, by rw [g1]; rfl, ?_⟩
            rw [hn, if_neg]
            rintro ⟨_, h | h⟩
            · exact g0 h
            · exact h (by rw [g1])
          · right
            have g2 : ((p[0].toNat : Int) == 48) = false := by
              simp only [beq_eq_false_iff_ne, ne_eq]
              intro e
              exact g1 (UInt8.toNat_inj.1 (by simpa using (show p[0].toNat = 48 by omega)))
            refine ⟨by simp; omega, by rw [hl]; simpa using g0, by simpa using g2, g2, ?_⟩
            rw [hn, if_pos ⟨g4, .inr fun e => g1 (Option.some.inj e)⟩]
      · left
        refine ⟨by simp; omega, ?_⟩
        rw [hn, if_neg (fun h => g4 h.1)]
    clear hn hp hz he1 he2 hv1 hv2 hR hh hl
    go_enter Tryd.func68, Tryd.ntmps68
    go_wp2_with fail
    refine CALL.out.mono ?_
    rintro e w1 ⟨rfl, hw1⟩
    have hb : Below w.heap.size w w1 := by
      rcases hw1 with rfl | rfl
      · exact Below.refl _ _
      · exact Lib.bytesWorld_below _ _ _
    clear hw1
    rcases ways with ⟨g1, rfl⟩ | ⟨g1, g2, rfl⟩ | ⟨g1, g2, g3, g4, rfl⟩ | ⟨g1, g2, g3, g4, rfl⟩
    all_goals
      go_wp2_with fail
      go_quiet (fail)
      go_wp2_with fail
      go_ret2
      exact ⟨hb.trans ⟨rfl, rfl, rfl, Nat.le_refl _, fun _ _ => rfl⟩, rfl⟩
  · have CALL := Lib.hid (Tryd.strconv_ParseUint_10_at32_syntax p (by omega) hp e1 w he1 hv1)
    have hn : numL p.data.toList = none := by unfold numL; rw [hp]
    have hnv : numV p.data.toList = 0 := by unfold numV; rw [hp]
    rw [hn, hnv]
    clear hnv
    clear hn hp he1 he2 hv1 hv2
    go_enter Tryd.func68, Tryd.ntmps68
    go_wp2_with fail
    refine CALL.out.mono ?_
    rintro e w1 ⟨N, rfl, _, _, hb⟩
    go_wp2_with fail
    go_quiet (fail)
    go_wp2_with fail
    go_ret2
    exact ⟨hb.trans ⟨rfl, rfl, rfl, Nat.le_refl _, fun _ _ => rfl⟩, rfl⟩
  · have CALL := Lib.hid (Tryd.strconv_ParseUint_10_at32_range p (by omega) hp e2 w he2 hv2)
    have hn : numL p.data.toList = none := by unfold numL; rw [hp]
    have hnv : numV p.data.toList = 4294967295 := by unfold numV; rw [hp]
    rw [hn, hnv]
    clear hnv
    clear hn hp he1 he2 hv1 hv2
    go_enter Tryd.func68, Tryd.ntmps68
    go_wp2_with fail
    refine CALL.out.mono ?_
    rintro e w1 ⟨N, rfl, _, _, hb⟩
    go_wp2_with fail
    go_quiet (fail)
    go_wp2_with fail
    go_ret2
    exact ⟨hb.trans ⟨rfl, rfl, rfl, Nat.le_refl _, fun _ _ => rfl⟩, rfl⟩
end Go.Proofs.YtijibjdgnaphiaaDoor

namespace Go.Proofs.YtijibjdgnaphiaaDoor
open Go.ChangeShapes Go.WideShapes Go.Deep Go.RowKit Go.Lib

/-- The number that find answers. -/
def AV.findI : AV → ByteArray → Int
  | AV.mk k _ _ _ _ ns _ _ _, p => if k = 6 then (pos ns p : Nat) else if k = 5 then numV p.data.toList else 0

theorem findI_some {t : AV} {p : ByteArray} {j : Nat} (h : t.place p = some j) : t.findI p = j := by
  obtain ⟨k, n, s, na, nc, ns, xa, xc, xs⟩ := t
  rw [AV.place] at h
  rw [AV.findI]
  split at h
  · rename_i hk
    rw [if_pos hk]
    unfold idxOf at h
    split at h
    · rw [Option.some.inj h]
    · cases h
  · rename_i hk
    rw [if_neg hk]
    split at h
    · rename_i h5
      rw [if_pos h5]
      split at h
      · rename_i u hu
        rw [numV_some hu]
        split at h
        · rw [Option.some.inj h]
        · cases h
      · cases h
    · cases h

/-- What find answers. -/
def FindEnd (t : AV) (p : ByteArray) (w : World) (e : Ending) (w' : World) : Prop :=
  e = .returned (.tuple #[.int .i64 (t.findI p), .bool (t.place p).isSome]) ∧ Below w.heap.size w w'

theorem search_any (na : Option Addr) (nc : Nat) (ns : List ByteArray) (p : ByteArray) (w : World) (hin : AV.NamesIn w na ns) (hl : ns.length ≤ 24) (hr : ns.Pairwise (fun a b => ltB a b = true)) :
    Calls Tryd.prog 67 #[.slice na ns.length nc, .string p] w fun e w' => e = .returned (.tuple #[.int .i64 (pos ns p : Nat), .bool (idxOf ns p).isSome]) ∧ Below w.heap.size w w' := by
  by_cases hne : ns = []
  · subst hne
    refine (Tryd.slices_BinarySearch_empty na nc p w).mono fun e w' ⟨he, hw⟩ => ?_
    subst he hw
    exact ⟨by simp [pos, idxOf], Below.refl _ _⟩
  · obtain ⟨b, o, rfl, hit⟩ := hin.resolve_left hne
    obtain ⟨Sx, hS⟩ : ∃ Sx : Nat → ByteArray, Sx = fun t => if h : t < ns.length then ns[t] else p := ⟨_, rfl⟩
    have hs1 : ∀ t (h : t < ns.length), Sx t = ns[t] := fun t h => by rw [hS]; simp [h]
    have hs2 : ∀ t, ns.length ≤ t → Sx t = p := fun t h => by rw [hS]; simp [show ¬ t < ns.length by omega]
    have hle := pos_le ns p
    have hb : Lib.bsGo (fun t => Op.bytesLess (Sx t).toList p.toList) ns.length 0 ns.length = pos ns p := by
      refine bsGo_spec _ _ (fun t ht => ?_) (fun t ht => ?_) _ _ _ (by omega) (Nat.zero_le _) hle
      · rw [hs1 t (by omega)]
        exact pos_ahead ns p t (by omega) ht
      · by_cases h : t < ns.length
        · rw [hs1 t h]
          exact pos_behind ns p hr t h ht
        · rw [hs2 t (by omega)]
          exact ltB_irrefl p
    refine (Tryd.slices_BinarySearch b o ns.length nc Sx p w (by omega) (fun j hj => by rw [hs1 j hj]; exact hit j hj)).mono fun e w' ⟨he, q, hw⟩ => ?_
    rw [hb] at he
    subst he hw
    refine ⟨?_, ⟨rfl, rfl, rfl, Nat.le_refl _, fun _ _ => rfl⟩⟩
    congr 3
    have : decide (pos ns p < ns.length ∧ Sx (pos ns p) = p) = (idxOf ns p).isSome := by
      unfold idxOf
      by_cases h : pos ns p < ns.length
      · rw [hs1 _ h, List.getElem?_eq_getElem h]
        by_cases e : ns[pos ns p] = p
        · simp [e, h]
        · simp [e]
      · rw [List.getElem?_eq_none (by omega)]
        simp [h]
    rw [this]

set_option maxHeartbeats 800000 in
set_option maxRecDepth 100000 in
theorem find_any (t : AV) (p : ByteArray) (w : World) (hin : t.In w) (h1 : 0 < p.size) (h2 : p.size ≤ 60) (hE : ErrV w) (lv : Nat) (hf : AV.formedJ t lv = true) : Calls Tryd.prog 45 #[t.val, .string p] w (FindEnd t p w) := by
  obtain ⟨k, n, s, na, nc, ns, xa, xc, xs⟩ := t
  by_cases h6 : k = 6
  · subst h6
    obtain ⟨hr, hln⟩ := formed_names hf
    have hx := formed_len hf
    have hin' := hin
    rw [AV.In] at hin'
    have hnin := hin'.2.2.2.2.2.2.2.2.1
    have CALL := Lib.hid (fun W (hb : Below w.heap.size w W) => search_any na nc ns p W (hnin.imp id fun ⟨b, o, e, hc⟩ => ⟨b, o, e, fun i hi => cell_later (hc i hi) hb⟩) (by omega) hr)
    have hpl : (AV.mk 6 n s na nc ns xa xc xs).place p = idxOf ns p := by simp [AV.place]
    have HPL := Lib.hid hpl
    have hfi : (AV.mk 6 n s na nc ns xa xc xs).findI p = (pos ns p : Nat) := by rw [AV.findI, if_pos rfl]
    have HFI := Lib.hid hfi
    obtain ⟨R, hR⟩ : ∃ R, (idxOf ns p).isSome = R := ⟨_, rfl⟩
    rw [hR] at CALL
    have HR := Lib.hid hR
    simp only [AV.val, AV.row] at CALL ⊢
    clear hin hin' hnin hE hf hpl hfi hR hr hln hx
    go_enter Tryd.func45, Tryd.ntmps45
    go_wp2_with fail
    refine (CALL.out _ ((Below.refl _ _).alloc (Nat.le_refl _) _)).mono ?_
    rintro e w1 ⟨rfl, hb1⟩
    have hb2 : Below w.heap.size w w1 := ((Below.refl w.heap.size w).alloc (Nat.le_refl _) _).trans (hb1.mono (by simp))
    go_wp2_with fail
    go_ret2
    exact ⟨by rw [HPL.out, HR.out, HFI.out]; rfl, hb2⟩
  · have h6a : (k == 6) = false := by simpa using h6
    by_cases h5 : k = 5
    · subst h5
      have hx := formed_len hf
      have CALL := Lib.hid (fun W (hb : Below w.heap.size w W) => number_any p W h1 h2 (hE.later hb))
      have hpl : (AV.mk 5 n s na nc ns xa xc xs).place p = match numL p.data.toList with | some u => if u < xs.length then some u else none | none => none := by
        rw [AV.place, if_neg (by decide), if_pos rfl]
        cases numL p.data.toList <;> rfl
      have hfi : (AV.mk 5 n s na nc ns xa xc xs).findI p = numV p.data.toList := by rw [AV.findI, if_neg (by decide), if_pos rfl]
      have HFI := Lib.hid hfi
      obtain ⟨V, hV⟩ : ∃ V, numV p.data.toList = V := ⟨_, rfl⟩
      have HV := Lib.hid hV
      rw [hV] at CALL
      cases hR : numL p.data.toList with
      | none =>
        rw [hR] at CALL hpl
        have HPL := Lib.hid hpl
        simp only [AV.val, AV.row] at CALL ⊢
        clear hin hE hf hpl hR hfi hV
        go_enter Tryd.func45, Tryd.ntmps45
        go_wp2_with fail
        refine (CALL.out _ ((Below.refl _ _).alloc (Nat.le_refl _) _)).mono ?_
        rintro e w1 ⟨hb1, rfl⟩
        have hc4 : w1.cell? ⟨w.heap.size, 4, none⟩ = some (.slice xa xs.length xc) := cell_later (by simp) hb1
        have hb2 : Below w.heap.size w w1 := ((Below.refl w.heap.size w).alloc (Nat.le_refl _) _).trans (hb1.mono (by simp))
        clear hb1
        go_wp2_with fail
        go_quiet (fail)
        go_wp2_with fail
        go_ret2
        exact ⟨by rw [HPL.out, HFI.out, HV.out]; rfl, hb2.trans ⟨rfl, rfl, rfl, Nat.le_refl _, fun _ _ => rfl⟩⟩
      | some u =>
        obtain rfl : V = u := by rw [← hV, numV_some hR]
        rw [hR] at CALL hpl
        simp only [] at hpl
        have HPL := Lib.hid hpl
        simp only [AV.val, AV.row] at CALL ⊢
        clear hin hE hf hpl hR hfi hV
        go_enter Tryd.func45, Tryd.ntmps45
        go_wp2_with fail
        refine (CALL.out _ ((Below.refl _ _).alloc (Nat.le_refl _) _)).mono ?_
        rintro e w1 ⟨hb1, rfl⟩
        have hc4 : w1.cell? ⟨w.heap.size, 4, none⟩ = some (.slice xa xs.length xc) := cell_later (by simp) hb1
        have hb2 : Below w.heap.size w w1 := ((Below.refl w.heap.size w).alloc (Nat.le_refl _) _).trans (hb1.mono (by simp))
        clear hb1
        go_wp2_with fail
        go_quiet (fail)
        go_wp2_with fail
        go_ret2
        refine ⟨?_, hb2.trans ⟨rfl, rfl, rfl, Nat.le_refl _, fun _ _ => rfl⟩⟩
        rw [HPL.out, HFI.out, HV.out]
        by_cases hu : u < xs.length
        · rw [if_pos hu]
          have : decide (u < xs.length) = true := by simpa using hu
          simp [this]
        · rw [if_neg hu]
          have : decide (u < xs.length) = false := by simpa using hu
          simp [this]
    · have h5a : (k == 5) = false := by simpa using h5
      have hpl : (AV.mk k n s na nc ns xa xc xs).place p = none := by simp [AV.place, h5, h6]
      have HPL := Lib.hid hpl
      have H6 := Lib.hid h6
      simp only [AV.val, AV.row]
      clear hin hE hf hpl
      go_enter Tryd.func45, Tryd.ntmps45
      go_wp2_with fail
      go_ret2
      exact ⟨by rw [HPL.out, AV.findI, if_neg H6.out, if_neg h5]; rfl, (Below.refl _ _).alloc (Nat.le_refl _) _⟩
end Go.Proofs.YtijibjdgnaphiaaDoor
