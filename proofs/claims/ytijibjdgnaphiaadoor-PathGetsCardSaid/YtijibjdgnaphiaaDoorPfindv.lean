/- A step's place in a value, by the program: the document's place; for values whose names rise. -/
import Derived.Test.YtijibjdgnaphiaaDoorPfind
namespace Go.Proofs.YtijibjdgnaphiaaDoor
open Go.ChangeShapes Go.WideShapes Go.Deep Go.RowKit Go.Lib

/-- What find answers. -/
def FindEnd (t : AV) (p : ByteArray) (w : World) (e : Ending) (w' : World) : Prop :=
  Below w.heap.size w w' ∧ ∃ i : Int, e = .returned (.tuple #[.int .i64 i, .bool (t.place p).isSome]) ∧ (∀ j : Nat, t.place p = some j → i = j) ∧ ∀ n s na nc ns xa xc xs, t = .mk 6 n s na nc ns xa xc xs → i = pos ns p

theorem search_any (na : Option Addr) (nc : Nat) (ns : List ByteArray) (p : ByteArray) (w : World) (hin : AV.NamesIn w na ns) (hl : ns.length ≤ 24) (hr : ns.Pairwise (fun a b => ltB a b = true)) :
    Calls Tryd.prog 67 #[.slice na ns.length nc, .string p] w fun e w' => e = .returned (.tuple #[.int .i64 (pos ns p : Nat), .bool (idxOf ns p).isSome]) ∧ Below w.heap.size w w' := by
  by_cases hne : ns = []
  · subst hne
    refine (Tryd.slices_BinarySearch_empty na nc p w).mono fun e w' ⟨he, hw⟩ => ?_
    subst he hw
    exact ⟨by simp [pos, idxOf], Below.refl _ _⟩
  · obtain ⟨b, o, rfl, hit⟩ := hin.resolve_left hne
    obtain ⟨Sx, hS⟩ : ∃ Sx : Nat → ByteArray, Sx = fun t => if h : t < ns.length then ns[t] else p := ⟨_, rfl⟩
    have hs1 : ∀ t (h : t < ns.length), Sx t = ns[t] := fun t h => by rw [hS]; simp [h]
    have hs2 : ∀ t, ns.length ≤ t → Sx t = p := fun t h => by rw [hS]; simp [show ¬ t < ns.length by omega]
    have hle := pos_le ns p
    have hb : Lib.bsGo (fun t => Op.bytesLess (Sx t).toList p.toList) ns.length 0 ns.length = pos ns p := by
      refine bsGo_spec _ _ (fun t ht => ?_) (fun t ht => ?_) _ _ _ (by omega) (Nat.zero_le _) hle
      · rw [hs1 t (by omega)]
        exact pos_ahead ns p t (by omega) ht
      · by_cases h : t < ns.length
        · rw [hs1 t h]
          exact pos_behind ns p hr t h ht
        · rw [hs2 t (by omega)]
          exact ltB_irrefl p
    refine (Tryd.slices_BinarySearch b o ns.length nc Sx p w (by omega) (fun j hj => by rw [hs1 j hj]; exact hit j hj)).mono fun e w' ⟨he, q, hw⟩ => ?_
    rw [hb] at he
    subst he hw
    refine ⟨?_, ⟨rfl, rfl, rfl, Nat.le_refl _, fun _ _ => rfl⟩⟩
    congr 3
    have : decide (pos ns p < ns.length ∧ Sx (pos ns p) = p) = (idxOf ns p).isSome := by
      unfold idxOf
      by_cases h : pos ns p < ns.length
      · rw [hs1 _ h, List.getElem?_eq_getElem h]
        by_cases e : ns[pos ns p] = p
        · simp [e, h]
        · simp [e]
      · rw [List.getElem?_eq_none (by omega)]
        simp [h]
    rw [this]

set_option maxHeartbeats 800000 in
set_option maxRecDepth 100000 in
theorem find_any (t : AV) (p : ByteArray) (w : World) (hin : t.In w) (h1 : 0 < p.size) (h2 : p.size ≤ 60) (hE : ErrV w) (lv : Nat) (hf : AV.formedJ t lv = true) : Calls Tryd.prog 45 #[t.val, .string p] w (FindEnd t p w) := by
  obtain ⟨k, n, s, na, nc, ns, xa, xc, xs⟩ := t
  by_cases h6 : k = 6
  · subst h6
    obtain ⟨hr, hln⟩ := formed_names hf
    have hx := formed_len hf
    have hin' := hin
    rw [AV.In] at hin'
    have hnin := hin'.2.2.2.2.2.2.2.2.1
    have CALL := Lib.hid (fun W (hb : Below w.heap.size w W) => search_any na nc ns p W (hnin.imp id fun ⟨b, o, e, hc⟩ => ⟨b, o, e, fun i hi => cell_later (hc i hi) hb⟩) (by omega) hr)
    have hpl : (AV.mk 6 n s na nc ns xa xc xs).place p = idxOf ns p := by simp [AV.place]
    have HPL := Lib.hid hpl
    have hid : ∀ j : Nat, idxOf ns p = some j → pos ns p = j := fun j hj => by
      unfold idxOf at hj
      split at hj
      · exact Option.some.inj hj
      · cases hj
    have HID := Lib.hid hid
    obtain ⟨R, hR⟩ : ∃ R, (idxOf ns p).isSome = R := ⟨_, rfl⟩
    rw [hR] at CALL
    have HR := Lib.hid hR
    simp only [AV.val, AV.row] at CALL ⊢
    clear hin hin' hnin hE hf hpl hid hR hr hln hx
    go_enter Tryd.func45, Tryd.ntmps45
    go_wp2_with fail
    refine (CALL.out _ ((Below.refl _ _).alloc (Nat.le_refl _) _)).mono ?_
    rintro e w1 ⟨rfl, hb1⟩
    have hb2 : Below w.heap.size w w1 := ((Below.refl w.heap.size w).alloc (Nat.le_refl _) _).trans (hb1.mono (by simp))
    go_wp2_with fail
    go_ret2
    refine ⟨hb2, (pos ns p : Nat), by rw [HPL.out, HR.out]; rfl, fun j hj => ?_, fun n' s' na' nc' ns' xa' xc' xs' e => ?_⟩
    · rw [HPL.out] at hj
      rw [HID.out j hj]
    · cases e
      rfl
  · have h6a : (k == 6) = false := by simpa using h6
    by_cases h5 : k = 5
    · subst h5
      have hx := formed_len hf
      have CALL := Lib.hid (fun W (hb : Below w.heap.size w W) => number_any p W h1 h2 (hE.later hb))
      have hpl : (AV.mk 5 n s na nc ns xa xc xs).place p = match numL p.data.toList with | some u => if u < xs.length then some u else none | none => none := by
        rw [AV.place, if_neg (by decide), if_pos rfl]
        cases numL p.data.toList <;> rfl
      cases hR : numL p.data.toList with
      | none =>
        rw [hR] at CALL hpl
        have HPL := Lib.hid hpl
        simp only [AV.val, AV.row] at CALL ⊢
        clear hin hE hf hpl hR
        go_enter Tryd.func45, Tryd.ntmps45
        go_wp2_with fail
        refine (CALL.out _ ((Below.refl _ _).alloc (Nat.le_refl _) _)).mono ?_
        rintro e w1 ⟨hb1, i, rfl, _⟩
        have hc4 : w1.cell? ⟨w.heap.size, 4, none⟩ = some (.slice xa xs.length xc) := cell_later (by simp) hb1
        have hb2 : Below w.heap.size w w1 := ((Below.refl w.heap.size w).alloc (Nat.le_refl _) _).trans (hb1.mono (by simp))
        clear hb1
        go_wp2_with fail
        go_quiet (fail)
        go_wp2_with fail
        go_ret2
        refine ⟨hb2.trans ⟨rfl, rfl, rfl, Nat.le_refl _, fun _ _ => rfl⟩, i, by rw [HPL.out]; rfl, fun j hj => ?_, fun n' s' na' nc' ns' xa' xc' xs' e => by cases e⟩
        rw [HPL.out] at hj
        cases hj
      | some u =>
        rw [hR] at CALL hpl
        simp only [] at hpl
        have HPL := Lib.hid hpl
        simp only [AV.val, AV.row] at CALL ⊢
        clear hin hE hf hpl hR
        go_enter Tryd.func45, Tryd.ntmps45
        go_wp2_with fail
        refine (CALL.out _ ((Below.refl _ _).alloc (Nat.le_refl _) _)).mono ?_
        rintro e w1 ⟨hb1, i, rfl, hi⟩
        obtain rfl : i = u := hi u rfl
        have hc4 : w1.cell? ⟨w.heap.size, 4, none⟩ = some (.slice xa xs.length xc) := cell_later (by simp) hb1
        have hb2 : Below w.heap.size w w1 := ((Below.refl w.heap.size w).alloc (Nat.le_refl _) _).trans (hb1.mono (by simp))
        clear hb1 hi
        go_wp2_with fail
        go_quiet (fail)
        go_wp2_with fail
        go_ret2
        refine ⟨hb2.trans ⟨rfl, rfl, rfl, Nat.le_refl _, fun _ _ => rfl⟩, (u : Int), ?_, fun j hj => ?_, fun n' s' na' nc' ns' xa' xc' xs' e => by cases e⟩
        · rw [HPL.out]
          by_cases hu : u < xs.length
          · rw [if_pos hu]
            have : decide (u < xs.length) = true := by simpa using hu
            simp [this]
          · rw [if_neg hu]
            have : decide (u < xs.length) = false := by simpa using hu
            simp [this]
        · rw [HPL.out] at hj
          split at hj
          · rw [Option.some.inj hj]
          · cases hj
    · have h5a : (k == 5) = false := by simpa using h5
      have hpl : (AV.mk k n s na nc ns xa xc xs).place p = none := by simp [AV.place, h5, h6]
      have HPL := Lib.hid hpl
      have H6 := Lib.hid h6
      simp only [AV.val, AV.row]
      clear hin hE hf hpl
      go_enter Tryd.func45, Tryd.ntmps45
      go_wp2_with fail
      go_ret2
      refine ⟨(Below.refl _ _).alloc (Nat.le_refl _) _, 0, by rw [HPL.out]; rfl, fun j hj => ?_, fun n' s' na' nc' ns' xa' xc' xs' e => ?_⟩
      · rw [HPL.out] at hj
        cases hj
      · cases e
        exact absurd rfl H6.out
end Go.Proofs.YtijibjdgnaphiaaDoor
