/- A path's steps, by the document's answer: its pieces between points, or that it is no path; for every text of at most 2000 bytes. -/
import Derived.Test.YtijibjdgnaphiabDoorPsteps
namespace Go.Proofs.YtijibjdgnaphiabDoor
open Go.ChangeShapes Go.WideShapes Go.Deep Go.RowKit Go.Lib

theorem ownsRow_later {w w' : World} {base : Nat} {e : TypeId} {size : Nat} {v : Value} {n : Nat} {xs : List Value} (h : w.ownsRow base e size v n xs) (hb : Below w.heap.size w w') : w'.ownsRow base e size v n xs := by
  refine ⟨h.1, ?_⟩
  rcases h.2 with hn | ⟨g, cap, cur, rfl, hb1, hgg, rest⟩
  · exact .inl hn
  · refine .inr ⟨g, cap, cur, rfl, hb1, ?_, rest⟩
    rw [hb.block g (Array.getElem?_eq_some_iff.1 hgg).1]
    exact hgg

theorem ownsRow_slice {w : World} {base : Nat} {e : TypeId} {size : Nat} {v : Value} {n : Nat} {xs : List Value} (h : w.ownsRow base e size v n xs) : ∃ na cap, v = .slice na n cap := by
  rcases h.2 with ⟨hv, h0⟩ | ⟨g, cap, cur, hv, _⟩
  · exact ⟨_, _, by rw [hv, h0]⟩
  · exact ⟨_, _, hv⟩

theorem ownsRow_names {w : World} {base : Nat} {na : Option Addr} {n cap : Nat} {ns : List ByteArray} (h : w.ownsRow base 9 1 (.slice na n cap) ns.length (ns.map Value.string)) : AV.NamesIn w na ns := by
  rcases h.2 with ⟨_, h0⟩ | ⟨g, cap, cur, hv, _, hgg, _, _, _, ht⟩
  · exact .inl (List.length_eq_zero_iff.1 h0)
  · simp only [Value.slice.injEq] at hv
    refine .inr ⟨g, 0, hv.1, fun i hi => ?_⟩
    rw [cell_of_row _ _ _ _ _ _ hgg, Nat.zero_add]
    have h1 := congrArg (·[i]?) ht
    simp only [List.getElem?_take, Nat.mul_one, if_pos hi, List.getElem?_map, List.getElem?_eq_getElem hi, Option.map_some] at h1
    rw [← h1, Array.getElem?_toList]

theorem ownsRow_from {w : World} {base : Nat} {e : TypeId} {size : Nat} {na : Option Addr} {n c : Nat} {xs : List Value} (h : w.ownsRow base e size (.slice na n c) n xs) : ∀ a, na = some a → base ≤ a.block := fun a ha => by
  rcases h.2 with ⟨hv, _⟩ | ⟨g, cap, cur, hv, hge, _⟩
  · simp only [Value.slice.injEq] at hv
    rw [hv.1] at ha
    cases ha
  · simp only [Value.slice.injEq] at hv
    rw [hv.1] at ha
    cases ha
    exact hge

/-- How far the scan has come. -/
def Scan (l : List UInt8) (a i : Nat) (ns : List ByteArray) : Prop :=
  (i ≤ l.length ∧ dots l = ns.map (·.data.toList) ++ dots (l.drop a) ∧ ∀ c ∈ (l.drop a).take (i - a), c ≠ 46) ∨ (i = l.length + 1 ∧ dots l = ns.map (·.data.toList))

theorem scan_start (l : List UInt8) : Scan l 0 0 [] := .inl ⟨Nat.zero_le _, rfl, by simp⟩

theorem scan_on {l : List UInt8} {a i : Nat} {ns : List ByteArray} (h : Scan l a i ns) (ha : a ≤ i) {c : UInt8} (hi : l[i]? = some c) (hc : c ≠ 46) : Scan l a (i + 1) ns := by
  have hlt : i < l.length := (List.getElem?_eq_some_iff.1 hi).1
  rcases h with ⟨h1, h2, h3⟩ | ⟨h1, _⟩
  · exact .inl ⟨hlt, h2, no_next ha hi hc h3⟩
  · omega

theorem piece_data (s : ByteArray) (a i : Nat) : (s.extract a i).data.toList = (s.data.toList.drop a).take (i - a) := extract_data s a i

/-- A piece's end: a point, or the text's end. -/
theorem scan_piece {s : ByteArray} {a i : Nat} {ns : List ByteArray} (h : Scan s.data.toList a i ns) (ha : a ≤ i) (hi : i ≤ s.size) (hend : i = s.size ∨ s.data.toList[i]? = some 46) :
    ∃ rest, dots s.data.toList = ns.map (·.data.toList) ++ (s.extract a i).data.toList :: rest ∧ Scan s.data.toList (i + 1) (i + 1) (ns ++ [s.extract a i]) := by
  have hz : s.data.toList.length = s.size := by simp
  rcases h with ⟨h1, h2, h3⟩ | ⟨h1, _⟩
  · rw [piece_data]
    rcases hend with he | he
    · have e := at_end (l := s.data.toList) (a := a) (i := i) (by omega) h3
      rw [e] at h2
      refine ⟨[], h2, .inr ⟨by omega, ?_⟩⟩
      rw [h2, List.map_append]
      simp
    · have hlt : i < s.data.toList.length := (List.getElem?_eq_some_iff.1 he).1
      have e := at_dot ha he h3
      rw [e] at h2
      refine ⟨_, h2, .inl ⟨hlt, ?_, no_start _ _⟩⟩
      rw [h2, List.map_append]
      simp
  · omega

theorem scan_done {l : List UInt8} {a i : Nat} {ns : List ByteArray} (h : Scan l a i ns) (hi : l.length < i) : dots l = ns.map (·.data.toList) := by
  rcases h with ⟨h1, _⟩ | ⟨_, h2⟩
  · omega
  · exact h2

theorem info9 : (Tryd.prog.info? 9).map (fun i => (i.zero, i.size, i.bytes)) = some (some (.string ⟨#[]⟩), 1, 16) := by kernel_rfl

end Go.Proofs.YtijibjdgnaphiabDoor
