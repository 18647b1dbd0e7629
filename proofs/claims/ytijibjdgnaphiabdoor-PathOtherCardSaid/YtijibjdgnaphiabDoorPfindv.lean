/- A step's place in a value, by the program: the document's place; for values whose names rise. -/
import Derived.Test.YtijibjdgnaphiabDoorPfind
namespace Go.Proofs.YtijibjdgnaphiabDoor
open Go.ChangeShapes Go.WideShapes Go.Deep Go.RowKit Go.Lib

/-- The number that find answers. -/
def AV.findI : AV → ByteArray → Int
  | AV.mk k _ _ _ _ ns _ _ _, p => if k = 6 then (pos ns p : Nat) else if k = 5 then numV p.data.toList else 0

theorem findI_some {t : AV} {p : ByteArray} {j : Nat} (h : t.place p = some j) : t.findI p = j := by
  obtain ⟨k, n, s, na, nc, ns, xa, xc, xs⟩ := t
  rw [AV.place] at h
  rw [AV.findI]
  split at h
  · rename_i hk
    rw [if_pos hk]
    unfold idxOf at h
    split at h
    · rw [Option.some.inj h]
    · cases h
  · rename_i hk
    rw [if_neg hk]
    split at h
    · rename_i h5
      rw [if_pos h5]
      split at h
      · rename_i u hu
        rw [numV_some hu]
        split at h
        · rw [Option.some.inj h]
        · cases h
      · cases h
    · cases h

/-- What find answers. -/
def FindEnd (t : AV) (p : ByteArray) (w : World) (e : Ending) (w' : World) : Prop :=
  e = .returned (.tuple #[.int .i64 (t.findI p), .bool (t.place p).isSome]) ∧ Below w.heap.size w w'

theorem search_any (na : Option Addr) (nc : Nat) (ns : List ByteArray) (p : ByteArray) (w : World) (hin : AV.NamesIn w na ns) (hl : ns.length ≤ 24) (hr : ns.Pairwise (fun a b => ltB a b = true)) :
    Calls Tryd.prog 24 #[.slice na ns.length nc, .string p] w fun e w' => e = .returned (.tuple #[.int .i64 (pos ns p : Nat), .bool (idxOf ns p).isSome]) ∧ Below w.heap.size w w' := by
  by_cases hne : ns = []
  · subst hne
    refine (Tryd.slices_BinarySearch_empty na nc p w).mono fun e w' ⟨he, hw⟩ => ?_
    subst he hw
    exact ⟨by simp [pos, idxOf], Below.refl _ _⟩
  · obtain ⟨b, o, rfl, hit⟩ := hin.resolve_left hne
    obtain ⟨Sx, hS⟩ : ∃ Sx : Nat → ByteArray, Sx = fun t => if h : t < ns.length then ns[t] else p := ⟨_, rfl⟩
    have hs1 : ∀ t (h : t < ns.length), Sx t = ns[t] := fun t h => by rw [hS]; simp [h]
    have hs2 : ∀ t, ns.length ≤ t → Sx t = p := fun t h => by rw [hS]; simp [show ¬ t < ns.length by omega]
    have hle := pos_le ns p
    have hb : Lib.bsGo (fun t => Op.bytesLess (Sx t).toList p.toList) ns.length 0 ns.length = pos ns p := by
      refine bsGo_spec _ _ (fun t ht => ?_) (fun t ht => ?_) _ _ _ (by omega) (Nat.zero_le _) hle
      · rw [hs1 t (by omega)]
        exact pos_ahead ns p t (by omega) ht
      · by_cases h : t < ns.length
        · rw [hs1 t h]
          exact pos_behind ns p hr t h ht
        · rw [hs2 t (by omega)]
          exact ltB_irrefl p
    refine (Tryd.slices_BinarySearch b o ns.length nc Sx p w (by omega) (fun j hj => by rw [hs1 j hj]; exact hit j hj)).mono fun e w' ⟨he, q, hw⟩ => ?_
    rw [hb] at he
    subst he hw
    refine ⟨?_, ⟨rfl, rfl, rfl, Nat.le_refl _, fun _ _ => rfl⟩⟩
    congr 3
    have : decide (pos ns p < ns.length ∧ Sx (pos ns p) = p) = (idxOf ns p).isSome := by
      unfold idxOf
      by_cases h : pos ns p < ns.length
      · rw [hs1 _ h, List.getElem?_eq_getElem h]
        by_cases e : ns[pos ns p] = p
        · simp [e, h]
        · simp [e]
      · rw [List.getElem?_eq_none (by omega)]
        simp [h]
    rw [this]

set_option maxHeartbeats 800000 in
set_option maxRecDepth 100000 in
theorem find_any (t : AV) (p : ByteArray) (w : World) (hin : t.In w) (h1 : 0 < p.size) (h2 : p.size ≤ 60) (hE : ErrV w) (lv : Nat) (hf : AV.formedJ t lv = true) : Calls Tryd.prog 16 #[t.val, .string p] w (FindEnd t p w) := by
  obtain ⟨k, n, s, na, nc, ns, xa, xc, xs⟩ := t
  by_cases h6 : k = 6
  · subst h6
    obtain ⟨hr, hln⟩ := formed_names hf
    have hx := formed_len hf
    have hin' := hin
    rw [AV.In] at hin'
    have hnin := hin'.2.2.2.2.2.2.2.2.1
    have CALL := Lib.hid (fun W (hb : Below w.heap.size w W) => search_any na nc ns p W (hnin.imp id fun ⟨b, o, e, hc⟩ => ⟨b, o, e, fun i hi => cell_later (hc i hi) hb⟩) (by omega) hr)
    have hpl : (AV.mk 6 n s na nc ns xa xc xs).place p = idxOf ns p := by simp [AV.place]
    have HPL := Lib.hid hpl
    have hfi : (AV.mk 6 n s na nc ns xa xc xs).findI p = (pos ns p : Nat) := by rw [AV.findI, if_pos rfl]
    have HFI := Lib.hid hfi
    obtain ⟨R, hR⟩ : ∃ R, (idxOf ns p).isSome = R := ⟨_, rfl⟩
    rw [hR] at CALL
    have HR := Lib.hid hR
    simp only [AV.val, AV.row] at CALL ⊢
    clear hin hin' hnin hE hf hpl hfi hR hr hln hx
    go_enter Tryd.func16, Tryd.ntmps16
    go_wp2_with fail
    refine (CALL.out _ ((Below.refl _ _).alloc (Nat.le_refl _) _)).mono ?_
    rintro e w1 ⟨rfl, hb1⟩
    have hb2 : Below w.heap.size w w1 := ((Below.refl w.heap.size w).alloc (Nat.le_refl _) _).trans (hb1.mono (by simp))
    go_wp2_with fail
    go_ret2
    exact ⟨by rw [HPL.out, HR.out, HFI.out]; rfl, hb2⟩
  · have h6a : (k == 6) = false := by simpa using h6
    by_cases h5 : k = 5
    · subst h5
      have hx := formed_len hf
      have CALL := Lib.hid (fun W (hb : Below w.heap.size w W) => number_any p W h1 h2 (hE.later hb))
      have hpl : (AV.mk 5 n s na nc ns xa xc xs).place p = match numL p.data.toList with | some u => if u < xs.length then some u else none | none => none := by
        rw [AV.place, if_neg (by decide), if_pos rfl]
        cases numL p.data.toList <;> rfl
      have hfi : (AV.mk 5 n s na nc ns xa xc xs).findI p = numV p.data.toList := by rw [AV.findI, if_neg (by decide), if_pos rfl]
      have HFI := Lib.hid hfi
      obtain ⟨V, hV⟩ : ∃ V, numV p.data.toList = V := ⟨_, rfl⟩
      have HV := Lib.hid hV
      rw [hV] at CALL
      cases hR : numL p.data.toList with
      | none =>
        rw [hR] at CALL hpl
        have HPL := Lib.hid hpl
        simp only [AV.val, AV.row] at CALL ⊢
        clear hin hE hf hpl hR hfi hV
        go_enter Tryd.func16, Tryd.ntmps16
        go_wp2_with fail
        refine (CALL.out _ ((Below.refl _ _).alloc (Nat.le_refl _) _)).mono ?_
        rintro e w1 ⟨hb1, rfl⟩
        have hc4 : w1.cell? ⟨w.heap.size, 4, none⟩ = some (.slice xa xs.length xc) := cell_later (by simp) hb1
        have hb2 : Below w.heap.size w w1 := ((Below.refl w.heap.size w).alloc (Nat.le_refl _) _).trans (hb1.mono (by simp))
        clear hb1
        go_wp2_with fail
        go_quiet (fail)
        go_wp2_with fail
        go_ret2
        exact ⟨by rw [HPL.out, HFI.out, HV.out]; rfl, hb2.trans ⟨rfl, rfl, rfl, Nat.le_refl _, fun _ _ => rfl⟩⟩
      | some u =>
        obtain rfl : V = u := by rw [← hV, numV_some hR]
        rw [hR] at CALL hpl
        simp only [] at hpl
        have HPL := Lib.hid hpl
        simp only [AV.val, AV.row] at CALL ⊢
        clear hin hE hf hpl hR hfi hV
        go_enter Tryd.func16, Tryd.ntmps16
        go_wp2_with fail
        refine (CALL.out _ ((Below.refl _ _).alloc (Nat.le_refl _) _)).mono ?_
        rintro e w1 ⟨hb1, rfl⟩
        have hc4 : w1.cell? ⟨w.heap.size, 4, none⟩ = some (.slice xa xs.length xc) := cell_later (by simp) hb1
        have hb2 : Below w.heap.size w w1 := ((Below.refl w.heap.size w).alloc (Nat.le_refl _) _).trans (hb1.mono (by simp))
        clear hb1
        go_wp2_with fail
        go_quiet (fail)
        go_wp2_with fail
        go_ret2
        refine ⟨?_, hb2.trans ⟨rfl, rfl, rfl, Nat.le_refl _, fun _ _ => rfl⟩⟩
        rw [HPL.out, HFI.out, HV.out]
        by_cases hu : u < xs.length
        · rw [if_pos hu]
          have : decide (u < xs.length) = true := by simpa using hu
          simp [this]
        · rw [if_neg hu]
          have : decide (u < xs.length) = false := by simpa using hu
          simp [this]
    · have h5a : (k == 5) = false := by simpa using h5
      have hpl : (AV.mk k n s na nc ns xa xc xs).place p = none := by simp [AV.place, h5, h6]
      have HPL := Lib.hid hpl
      have H6 := Lib.hid h6
      simp only [AV.val, AV.row]
      clear hin hE hf hpl
      go_enter Tryd.func16, Tryd.ntmps16
      go_wp2_with fail
      go_ret2
      exact ⟨by rw [HPL.out, AV.findI, if_neg H6.out, if_neg h5]; rfl, (Below.refl _ _).alloc (Nat.le_refl _) _⟩
end Go.Proofs.YtijibjdgnaphiabDoor
