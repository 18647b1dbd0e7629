/- PathBack: what is put is got, and what was there, put back, gives the value again: the walk of the statement. -/
import Derived.Test.YtijibjdgnaphiabDoorPback
import Derived.Test.YtijibjdgnaphiabDoorPputs
namespace Go.Proofs.YtijibjdgnaphiabDoor
open Go.ChangeShapes Go.WideShapes Go.Deep Go.RowKit Go.Lib

theorem putSpec_err {t x : AV} {l : List UInt8} {c : Int} (h : putSpec t l x = .error c) : c = 2 ∨ c = 3 ∨ c = 4 := by
  unfold putSpec at h
  split at h
  · split at h
    · cases h; exact .inr (.inr rfl)
    · split at h
      · cases h
      · cases h; exact .inr (.inl rfl)
  · cases h; exact .inl rfl

theorem stepNames_ne {l : List UInt8} (h : stepErr l = 0) : stepNames l ≠ [] := by
  unfold stepErr at h
  unfold stepNames
  split at h
  · rename_i ps hp
    unfold stepsOf at hp
    split at hp
    · cases hp
      simpa using dots_ne l
    · cases hp
  · cases h

theorem putAt_knd : ∀ {ns : List ByteArray} {t x Z : AV}, ns ≠ [] → AV.putAt ns t x = some Z → Z.knd = t.knd
  | [], _, _, _, h, _ => absurd rfl h
  | p :: r, t, x, Z, _, h => by
    obtain ⟨k, n, s, na, nc, ns, xa, xc, xs⟩ := t
    rw [AV.putAt] at h
    split at h
    · split at h
      · split at h
        · cases h; rfl
        · cases h
      · cases h
    · split at h
      · rename_i h6
        cases h; rw [h6.1]; rfl
      · cases h

theorem knd_eqv {a b : AV} (h : AV.eqv a b = true) : a.knd = b.knd := by
  obtain ⟨k, n, s, na, nc, ns, xa, xc, xs⟩ := a
  obtain ⟨k1, n1, s1, na1, nc1, ns1, xa1, xc1, ys⟩ := b
  rw [eqv_iff] at h
  exact h.1.1

/-- What follows where something was put. -/
theorem back_spec {t x Z p : AV} {l : List UInt8} (h : putSpec t l x = .ok Z) (hp : AV.eqv p Z = true) :
    AV.formedJ p 6 = true ∧ (∃ y, getSpec p l = some y ∧ AV.eqv y x = true) ∧ ∀ O o, getSpec t l = some O → AV.eqv o O = true → ∃ T, putSpec p l o = .ok T ∧ AV.eqv T t = true := by
  unfold putSpec at h
  split at h
  · rename_i hg
    obtain ⟨h0, h6, hf, hx⟩ := hg
    split at h
    · cases h
    · rename_i z hz
      split at h
      · rename_i hzf
        cases h
        have hpf : AV.formedJ p 6 = true := by rw [formed_eqv p Z 6 hp]; exact hzf
        have hne := stepNames_ne h0
        refine ⟨hpf, ?_, fun O o hO ho => ?_⟩
        · have h1 := put_got (stepNames l) hf hz
          have h2 := at_eqv (stepNames l) hp
          rw [h1] at h2
          unfold getSpec
          rw [if_pos ⟨h0, hpf⟩]
          cases hy : p.at (stepNames l) with
          | none => rw [hy] at h2; exact h2.elim
          | some y => rw [hy] at h2; exact ⟨y, rfl, h2⟩
        · unfold getSpec at hO
          rw [if_pos ⟨h0, hf⟩] at hO
          obtain ⟨T, hT, hTe⟩ := put_back (stepNames l) hz hO
          have h2 := put_eqv (stepNames l) hp ho
          rw [hT] at h2
          have hof : AV.formedJ o 6 = true := by rw [formed_eqv o O 6 ho]; exact at_formed _ hf hO
          cases hy : AV.putAt (stepNames l) p o with
          | none => rw [hy] at h2; exact h2.elim
          | some y =>
            rw [hy] at h2
            have hye : AV.eqv y t = true := eqv_trans h2 hTe
            refine ⟨y, ?_, hye⟩
            unfold putSpec
            rw [if_pos ⟨h0, by rw [knd_eqv hp, putAt_knd hne hz]; exact h6, hpf, hof⟩, hy]
            dsimp only
            rw [if_pos (by rw [formed_eqv y t 6 hye]; exact hf)]
      · cases h
  · cases h

/-- The two boxes of the arguments. -/
structure Two (w : World) (a b : Array Value) (W : World) : Prop where
  h0 : W.heap[w.heap.size]? = some (.cells a 25 (0, 0))
  h1 : W.heap[w.heap.size + 1]? = some (.cells b 25 (0, 0))
  hb : Below w.heap.size w W

theorem Two.later {w W W' : World} {a b : Array Value} (h : Two w a b W) (hb : Below W.heap.size W W') : Two w a b W' :=
  ⟨(hb.block _ (block_lt h.h0)).trans h.h0, (hb.block _ (block_lt h.h1)).trans h.h1, h.hb.trans (hb.mono h.hb.size)⟩

theorem kept5 {W W' : World} {b : Nat} {a : Array Value} (h : W.heap[b]? = some (.cells a 25 (0, 0))) (hb : Below W.heap.size W W') : W'.heap[b]? = some (.cells a 25 (0, 0)) := (hb.block _ (block_lt h)).trans h

theorem one_more (W : World) (o : Obj) : Below W.heap.size W (W.alloc o) := (Below.refl _ _).alloc (Nat.le_refl _) o

end Go.Proofs.YtijibjdgnaphiabDoor
