/- A script of acts as it lies in memory; whether it is of a size that is looked at; under Go's own limit of length. -/
import Derived.Test.YtaaceaojgbicaaaFuse
namespace Go.Proofs.Ytaaceaojgbicaaa
open Go.ChangeShapes Go.WideShapes Go.Deep Go.RowKit Go.Lib Go.Maps

/-- An act, with the address of what is kept. -/
structure OpV where
  k : Int
  n : Int
  m : Int
  ka : Option Addr
  kc : Nat
  ks : List Bool

def OpV.row (o : OpV) : List Value := [.int .i64 o.k, .int .i64 o.n, .int .i64 o.m, .slice o.ka o.ks.length o.kc]
structure OpV.Good (w : World) (o : OpV) : Prop where
  wk : wfI o.k
  wn : wfI o.n
  wm : wfI o.m
  len : o.ks.length ≤ 9223372036854775807
  keep : BoolsIn w o.ka o.ks

structure ScriptIn (w : World) (na : Option Addr) (l : List OpV) : Prop where
  good : ∀ o ∈ l, o.Good w
  at_ : l = [] ∨ ∃ b o, na = some ⟨b, o, none⟩ ∧ ∀ i (h : i < l.length), w.rangeAt b (o + i * 4) l[i].row
  len : l.length ≤ 9223372036854775807

theorem ScriptIn.below {w w' : World} {na : Option Addr} {l : List OpV} (h : ScriptIn w na l) (hb : Below w.heap.size w w') : ScriptIn w' na l := by
  refine ⟨fun o ho => ?_, ?_, h.len⟩
  · obtain ⟨h1, h2, h3, h4, h5⟩ := h.good o ho
    exact ⟨h1, h2, h3, h4, h5.below hb⟩
  · rcases h.at_ with h | ⟨b, o, e, h⟩
    · exact .inl h
    · exact .inr ⟨b, o, e, fun i hi => rangeAt_only (h i hi) (Only.of_below hb (fun _ => False)) (fun e => e)⟩

/-- The four cells of an act. -/
theorem ScriptIn.cells {w : World} {na : Option Addr} {l : List OpV} (h : ScriptIn w na l) {i : Nat} {p : OpV} (hi : l[i]? = some p) : ∃ b o, na = some ⟨b, o, none⟩ ∧ b < w.heap.size ∧ w.cell? ⟨b, o + i * 4, none⟩ = some (.int .i64 p.k) ∧ w.cell? ⟨b, o + i * 4 + 1, none⟩ = some (.int .i64 p.n) ∧ w.cell? ⟨b, o + i * 4 + 2, none⟩ = some (.int .i64 p.m) ∧ w.cell? ⟨b, o + i * 4 + 3, none⟩ = some (.slice p.ka p.ks.length p.kc) := by
  obtain ⟨hlt, hp⟩ := List.getElem?_eq_some_iff.1 hi
  rcases h.at_ with h | ⟨b, o, e, h⟩
  · rw [h] at hlt; simp at hlt
  · have hr := h i hlt
    rw [hp] at hr
    have h0 := hr 0 _ rfl
    exact ⟨b, o, e, World.block_lt_of_cell? w _ h0, h0, hr 1 _ rfl, hr 2 _ rfl, hr 3 _ rfl⟩

def fewB (l : List OpV) : Bool := decide (l.length ≤ 60 ∧ ∀ o ∈ l, o.ks.length ≤ 1000)

set_option maxHeartbeats 4000000 in
set_option maxRecDepth 100000 in
theorem few_any (na : Option Addr) (ca : Nat) (l : List OpV) (w : World) (h : ScriptIn w na l) : Calls Try.prog 9 #[.slice na l.length ca] w fun e w' => e = .returned (.bool (fewB l)) ∧ w = w' := by
  have H := Lib.hid h
  have hl := h.len
  clear h
  go_enter Try.func9, Try.ntmps9
  go_wp2_with fail
  go_loopg [3] l.length (fun g i wr => ∃ j : Nat, j ≤ 100 ∧ j + g = l.length ∧ i = .int .i64 (j : Int) ∧ (∀ o ∈ l.take j, o.ks.length ≤ 1000) ∧ w = wr)
  case atStart => exact ⟨0, by omega, by omega, rfl, by simp, rfl⟩
  case round =>
    obtain ⟨j, hj100, hj, rfl, htake, rfl⟩ := hrel
    have HJ := Lib.hid hj
    have HTAKE := Lib.hid htake
    clear hj htake
    by_cases hlt : j < l.length
    · have hlt' : (j : Int) < (l.length : Int) := by omega
      by_cases h100 : j < 100
      · have h100' : (j : Int) < 100 := by omega
        obtain ⟨p, hp⟩ : ∃ p, l[j]? = some p := ⟨_, List.getElem?_eq_getElem hlt⟩
        obtain ⟨b, o, rfl, -, -, -, -, c3⟩ := H.out.cells hp
        have hpl := (H.out.good p (List.mem_of_getElem? hp)).len
        have HP := Lib.hid hp
        clear hp
        by_cases hbig : p.ks.length ≤ 1000
        · have hbig' : (p.ks.length : Int) ≤ 1000 := by omega
          have HB := Lib.hid hbig
          clear hbig
          go_wp2_with fail
          go_roundg (gk - 1)
          case measure => have := HJ.out; omega
          case rel => exact ⟨j + 1, by omega, by have := HJ.out; omega, by go_num, by
            rw [List.take_add_one, HP.out]
            intro q hq
            rcases List.mem_append.1 hq with hq | hq
            · exact HTAKE.out q hq
            · simp at hq; rw [hq]; exact HB.out, rfl⟩
        · have hbig' : (1000 : Int) < (p.ks.length : Int) := by omega
          have HB := Lib.hid hbig
          have HPM := Lib.hid (List.mem_of_getElem? HP.out)
          clear hbig
          go_wp2_with fail
          go_ret
          refine ⟨?_, rfl⟩
          rw [show fewB l = false from decide_eq_false (fun h => HB.out (h.2 p HPM.out))]
          rfl
      · have h100' : (100 : Int) ≤ (j : Int) := by omega
        have HF : Hid (fewB l = false) := Lib.hid (decide_eq_false (fun h => by have := h.1; omega))
        have hlong : (60 : Int) < (l.length : Int) := by omega
        clear h100
        go_wp2_with fail
        go_ret
        rw [HF.out]
        exact ⟨ret_bool (decide_eq_false (by omega)), rfl⟩
    · obtain rfl : j = l.length := by have := HJ.out; omega
      by_cases h60 : l.length ≤ 60
      · have HF : Hid (fewB l = true) := Lib.hid (decide_eq_true ⟨h60, by have := HTAKE.out; rwa [List.take_length] at this⟩)
        have h60' : (l.length : Int) ≤ 60 := by omega
        go_wp2_with fail
        go_ret
        rw [HF.out]
        exact ⟨rfl, rfl⟩
      · have HF : Hid (fewB l = false) := Lib.hid (decide_eq_false (fun h => h60 h.1))
        have h60' : (60 : Int) < (l.length : Int) := by omega
        clear h60
        go_wp2_with fail
        go_ret
        rw [HF.out]
        exact ⟨ret_bool (decide_eq_false (by omega)), rfl⟩
end Go.Proofs.Ytaaceaojgbicaaa
