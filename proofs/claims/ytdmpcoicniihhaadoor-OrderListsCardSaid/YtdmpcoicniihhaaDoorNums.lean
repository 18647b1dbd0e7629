/- Arrays of numbers: what they are in memory, and how they are ordered; no condition of ours. -/
import Derived.Test.YtdmpcoicniihhaaDoorLets
import Derived.Deep.AppendLies
import Derived.Deep.RegionLaw
namespace Go.Proofs.YtdmpcoicniihhaaDoor
open Go.ChangeShapes Go.WideShapes Go.Deep Go.RowKit Go.Lib

/-- The cells of values, one behind the other. -/
def rows (xs : List AV) : List Value := xs.flatMap AV.row

theorem rows_length : ∀ xs : List AV, (rows xs).length = xs.length * 5
  | [] => rfl
  | x :: xs => by
    unfold rows
    rw [List.flatMap_cons, List.length_append, AV.row_length]
    have := rows_length xs
    unfold rows at this
    rw [this]
    simp
    omega

theorem rows_at : ∀ (xs : List AV) (i j : Nat) (hi : i < xs.length), j < 5 → (rows xs)[i * 5 + j]? = xs[i].row[j]?
  | x :: xs, 0, j, _, hj => by
    unfold rows
    rw [List.flatMap_cons, List.getElem?_append_left (by rw [AV.row_length]; omega)]
    simp
  | x :: xs, i + 1, j, hi, hj => by
    have ih := rows_at xs i j (by simpa using hi) hj
    unfold rows at ih ⊢
    rw [List.flatMap_cons, List.getElem?_append_right (by rw [AV.row_length]; omega), AV.row_length, show (i + 1) * 5 + j - 5 = i * 5 + j by omega, ih]
    simp

theorem infoVal : (Tryd.prog.info? 25).map (fun i => (i.zero, i.size, i.bytes)) = some (some (.agg #[.int .i64 0, .int .i64 0, .string ⟨#[]⟩, .slice none 0 0, .slice none 0 0]), 5, 80) := by kernel_rfl

def nums (l : List Int) : List AV := l.map (AV.num 3)

theorem nums_length (l : List Int) : (nums l).length = l.length := by simp [nums]

/-- An array. -/
def AV.arr (xa : Option Addr) (xc : Nat) (xs : List AV) : AV := .mk 5 0 ⟨#[]⟩ none 0 [] xa xc xs

theorem arr_in {W : World} {P : Nat} {xa : Option Addr} {xc : Nat} {xs : List AV} (hV : W.ownsRow P 25 5 (.slice xa xs.length xc) xs.length (rows xs)) (hX : ∀ x ∈ xs, x.In W) : (AV.arr xa xc xs).In W := by
  rw [AV.arr, AV.In]
  have caps : xs.length ≤ xc ∧ xc ≤ maxLen := by
    rcases hV.2 with ⟨hv, h0⟩ | ⟨g, cap, cur, hv, _, _, hle, hcm, _⟩
    · simp only [Value.slice.injEq] at hv
      obtain ⟨_, h1, rfl⟩ := hv
      exact ⟨by omega, by simp [maxLen]⟩
    · simp only [Value.slice.injEq] at hv
      obtain ⟨_, _, rfl⟩ := hv
      exact ⟨hle, hcm⟩
  refine ⟨by decide, by decide, Nat.zero_le _, by simp, by simp [maxLen], caps.1, caps.2, by simp, .inl rfl, ?_⟩
  rcases hV.2 with ⟨hv, h0⟩ | ⟨g, cap, cur, hv, hg, hgg, hle, _, hcs, ht⟩
  · obtain rfl := List.length_eq_zero_iff.1 h0
    exact ⟨fun b o _ => by simp [AV.InAll], .inl rfl⟩
  · simp only [Value.slice.injEq] at hv
    obtain ⟨rfl, _, rfl⟩ := hv
    refine ⟨fun b' o' e => ?_, .inr ⟨g, 0, rfl⟩⟩
    cases e
    refine AV.InAll.of fun i hi => ⟨fun c v hcv => ?_, hX _ (List.getElem_mem hi)⟩
    have hc : c < 5 := by
      have := (List.getElem?_eq_some_iff.1 hcv).1
      rwa [AV.row_length] at this
    have h1 := congrArg (·[i * 5 + c]?) ht
    simp only [List.getElem?_take] at h1
    rw [if_pos (by omega), rows_at xs i c hi hc, Array.getElem?_toList] at h1
    rw [Nat.zero_add, Lib.cell_of_heap hgg, h1]
    exact hcv

/-- Lists of numbers. -/
def cmpL : List Int → List Int → Int
  | [], [] => 0
  | [], _ :: _ => -1
  | _ :: _, [] => 1
  | a :: l, b :: m => if a < b then -1 else if a > b then 1 else cmpL l m

theorem cmpL_drop {l m : List Int} {j : Nat} (h : j < l.length) (h' : j < m.length) : cmpL (l.drop j) (m.drop j) = if l[j] < m[j] then -1 else if l[j] > m[j] then 1 else cmpL (l.drop (j + 1)) (m.drop (j + 1)) := by
  rw [List.drop_eq_getElem_cons h, List.drop_eq_getElem_cons h', cmpL]

theorem cmpL_end {l m : List Int} {j : Nat} (hj : j ≤ l.length) (hj' : j ≤ m.length) (h : j = l.length ∨ j = m.length) : cmpL (l.drop j) (m.drop j) = if l.length < m.length then -1 else if l.length > m.length then 1 else 0 := by
  by_cases h1 : j = l.length
  · by_cases h2 : j = m.length
    · rw [List.drop_eq_nil_of_le (by omega), List.drop_eq_nil_of_le (by omega), if_neg (by omega), if_neg (by omega)]
      rfl
    · rw [show l.drop j = [] from List.drop_eq_nil_of_le (by omega), show m.drop j = m[j]'(by omega) :: m.drop (j + 1) from List.drop_eq_getElem_cons (by omega), if_pos (by omega)]
      rfl
  · have h2 : j = m.length := h.resolve_left h1
    rw [show m.drop j = [] from List.drop_eq_nil_of_le (by omega), show l.drop j = l[j]'(by omega) :: l.drop (j + 1) from List.drop_eq_getElem_cons (by omega), if_neg (by omega), if_pos (by omega)]
    rfl

theorem num_formed3 (n : Int) (lv : Nat) : AV.formedJ (AV.num 3 n) (lv + 1) = true := by simp [AV.num, AV.formedJ, ByteArray.toList_eq]

theorem allJ_nums (lv : Nat) : ∀ l : List Int, AV.allJ (nums l) (lv + 1) = true
  | [] => by simp [nums, AV.allJ]
  | a :: l => by
    have := allJ_nums lv l
    unfold nums at *
    rw [List.map_cons, AV.allJ, num_formed3, this]
    rfl

theorem arr_formed {xa : Option Addr} {xc : Nat} {l : List Int} (h : l.length ≤ 24) : AV.formedJ (AV.arr xa xc (nums l)) 6 = true := by
  have h1 := allJ_nums 4 l
  have h2 : (nums l).length ≤ 24 := by rw [nums_length]; exact h
  simp [AV.arr, AV.formedJ, ByteArray.toList_eq, h1, h2]

theorem ord_nums (a b : Int) : AV.ord (AV.num 3 a) (AV.num 3 b) = compareInt a b := by
  rw [AV.num, AV.num, AV.ord, lexI_right (cmpI_zero.2 rfl), if_pos rfl]

theorem ordAll_nums : ∀ l m : List Int, AV.ordAll false [] [] (nums l) (nums m) = cmpL l m
  | [], [] => by simp [nums, AV.ordAll, cmpL, compareInt]
  | [], b :: m => by
    rw [nums, nums, List.map_nil, List.map_cons, AV.ordAll, cmpL]
    unfold compareInt
    rw [if_pos (by simp only [List.length_cons]; omega)]
  | a :: l, [] => by rw [nums, nums, List.map_nil, List.map_cons, AV.ordAll, cmpL]
  | a :: l, b :: m => by
    have ih := ordAll_nums l m
    unfold nums at ih ⊢
    rw [List.map_cons, List.map_cons, AV.ordAll, ord_nums, cmpL]
    rw [show ([] : List ByteArray).tail = [] from rfl, ih]
    simp only [Bool.false_eq_true, if_false]
    rw [lexI_right (show (0 : Int) = 0 from rfl)]
    unfold lexI compareInt
    by_cases h1 : a < b
    · simp [h1]
    · by_cases h2 : a > b
      · simp [h1, h2]
      · simp [h1, h2]

theorem cmp_arrs {xa ya : Option Addr} {xc yc : Nat} {l m : List Int} (h : l.length ≤ 24) (h' : m.length ≤ 24) : cmpV (AV.arr xa xc (nums l)) (AV.arr ya yc (nums m)) = cmpL l m := by
  rw [cmpV, if_pos ⟨arr_formed h, arr_formed h'⟩, AV.arr, AV.arr, AV.ord, lexI_right (cmpI_zero.2 rfl), if_neg (by omega), if_neg (by omega), if_pos (.inl rfl)]
  exact ordAll_nums l m

/-- The numbers lie there. -/
def IntsIn (w : World) (na : Option Addr) (l : List Int) : Prop := l = [] ∨ ∃ b o, na = some ⟨b, o, none⟩ ∧ ∀ i (h : i < l.length), w.cell? ⟨b, o + i, none⟩ = some (.int .i64 l[i])

theorem nums_take {l : List Int} {j : Nat} (h : j < l.length) : rows (nums (l.take (j + 1))) = rows (nums (l.take j)) ++ (AV.num 3 l[j]).row := by
  unfold rows nums
  rw [List.take_succ_eq_append_getElem h, List.map_append, List.flatMap_append]
  simp
end Go.Proofs.YtdmpcoicniihhaaDoor
