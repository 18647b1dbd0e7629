/- What a power cut keeps, plainly, and the disk that it leaves; no condition. -/
import Derived.Test.YtaaceaojgbicaaaSync
import Derived.Maps.Ext
namespace Go.Proofs.Ytaaceaojgbicaaa
open Go.ChangeShapes Go.WideShapes Go.Deep Go.RowKit Go.Lib Go.Maps

/-- Is the pending write number i kept? -/
def keepB (ks : List Bool) (i : Nat) : Bool := ks.isEmpty || ks.getD (i % ks.length) false
/-- Those that are kept, number i being the first one. -/
def kept (ks : List Bool) : Nat → List Wr → List Wr
  | _, [] => []
  | i, p :: ps => if keepB ks i then p :: kept ks (i + 1) ps else kept ks (i + 1) ps

theorem kept_append (ks : List Bool) : ∀ (i : Nat) (ps qs : List Wr), kept ks i (ps ++ qs) = kept ks i ps ++ kept ks (i + ps.length) qs
  | i, [], qs => by simp [kept]
  | i, p :: ps, qs => by
    simp only [List.cons_append, kept, List.length_cons]
    rw [kept_append ks (i + 1) ps qs, show i + 1 + ps.length = i + (ps.length + 1) by omega]
    split <;> simp
theorem kept_take (ks : List Bool) {ps : List Wr} {k : Nat} {p : Wr} (h : ps[k]? = some p) : kept ks 0 (ps.take (k + 1)) = kept ks 0 (ps.take k) ++ (if keepB ks k then [p] else []) := by
  have hk := (List.getElem?_eq_some_iff.1 h).1
  rw [List.take_add_one, h, kept_append, List.length_take, Nat.min_eq_left (by omega), Nat.zero_add]
  rfl
theorem kept_mem (ks : List Bool) : ∀ (i : Nat) (ps : List Wr), ∀ p ∈ kept ks i ps, p ∈ ps
  | _, [], p, h => by simp [kept] at h
  | i, q :: ps, p, h => by
    simp only [kept] at h
    split at h
    · rcases List.mem_cons.1 h with rfl | h
      · simp
      · exact List.mem_cons_of_mem _ (kept_mem ks _ _ p h)
    · exact List.mem_cons_of_mem _ (kept_mem ks _ _ p h)

/-- What a cut leaves. -/
def DS.cut (s : DS) (ks : List Bool) : DS := { freshD s.size with last := over s.last (kept ks 0 s.pend), k := s.k }

def BoolsIn (w : World) (na : Option Addr) (ks : List Bool) : Prop :=
  ks = [] ∨ ∃ b o, na = some ⟨b, o, none⟩ ∧ ∀ j (h : j < ks.length), w.cell? ⟨b, o + j, none⟩ = some (.bool ks[j])

theorem BoolsIn.only {w w' : World} {S : Nat → Prop} {na : Option Addr} {l : List Bool} (h : BoolsIn w na l) (hO : Only S w w') (hn : ∀ x, na = some x → ¬ S x.block) : BoolsIn w' na l := by
  rcases h with h | ⟨b, o, e, h⟩
  · exact .inl h
  · refine .inr ⟨b, o, e, fun j hj => ?_⟩
    have h1 := h j hj
    rw [World.cell?_of_block (w := w) (w' := w') (a := ⟨b, o + j, none⟩) (hO.block b (World.block_lt_of_cell? w _ h1) (hn _ e))]
    exact h1
theorem BoolsIn.below {w w' : World} {na : Option Addr} {l : List Bool} (h : BoolsIn w na l) (hb : Below w.heap.size w w') : BoolsIn w' na l :=
  h.only (Only.of_below hb (fun _ => False)) (fun _ _ h => h)

theorem cut_disk {w1 w2 : World} {a2 : DA} {n : Nat} {f : Int → List UInt8} {k : Nat} (h : DiskAt w1 a2 (freshD n)) (hO : Only (fun j => j = a2.lb) w1 w2) (hM : MidAt w2 a2.lb f k) (hf : ∀ m, (f m).length = 256) :
    DiskAt w2 a2 { freshD n with last := f, k := k } where
  box := hO.heap h.box h.db_lb
  ne := h.ne
  size := h.size
  lens := h.lens
  wfs := h.wfs
  lastlen := hf
  last := by obtain ⟨m, D, h1, h2, h3⟩ := hM; exact ⟨m, D, h1, by simpa [freshD] using h2, h3⟩
  pend := ownsRow_only h.pend hO (fun k hk => h.pv_lb k hk)
  new := by
    obtain ⟨D, h1, h2⟩ := h.new
    exact ⟨D, ownsMap_only h1 hO (fun e => h.ne e.symm), fun m hm => .inl ⟨by
      rcases h2 m hm with ⟨h3, _⟩ | ⟨i, b, _, _, h3, _⟩
      · exact h3
      · simp [freshD] at h3, rfl⟩⟩

/-- The round of a range over the map of what lasts. -/
theorem wpList_next_sec (w : World) {ops : Array Oper} {rest : List Oper} {o : Oper} {a : Act} {Q : Exit → Act → World → Prop} (hg : o.guard = none) (it : Operand) (hop : o.op = Op.next it false)
    (b r n : Nat) (D : DataW Unit) (left : Lit → Bool) (cnt : Nat) (hit : a.eval it = .pointer (some ⟨r, 0, none⟩)) (h : w.ranges Try.prog 3 secElem b r n D left cnt)
    (hDone : cnt = 0 → (∀ kl, left kl = false) → wpList Try.prog ops Q rest (a.put o.dst (.tuple #[.bool false])) w)
    (hMore : ∀ (x : Int) (c : List UInt8) (w' : World) (cnt' : Nat), wfI x → c.length = 256 → left (kInt x) = true → (∀ zd, D.atKey (kInt x) zd = .lit (.string c)) → w'.ranges Try.prog 3 secElem b r n D (fun z => left z && !z.sameKey (kInt x)) cnt' → cnt' < cnt →
      w.grownBy w' (some r) → w'.heap.size = w.heap.size → (Instr.entry (.pointer (some ⟨r, 0, none⟩))).run Try.prog w' = .ok (.tuple #[.int .i64 x, secV c]) w' → wpList Try.prog ops Q rest (a.put o.dst (.tuple #[.bool true, .int .i64 x, secV c])) w') :
    wpList Try.prog ops Q (o :: rest) a w :=
  wpList_next_ranges w hg it hop 3 key3 secElem (Value.int .i64) secV (fun key kl hkey => by obtain ⟨x, rfl, _⟩ := Maps.keyOf_int_inv Try.underlying3 hkey; exact ⟨x, rfl⟩) (fun v y hv => by obtain ⟨l, _, rfl, _⟩ := secElem_inv hv; exact ⟨l, rfl⟩)
    b r n D left cnt hit h hDone (fun x c kl y w' cnt' hkey hlk hv hat hrg hlt hgr hsz hen => by
      obtain ⟨x', ex, rfl, hwx⟩ := Maps.keyOf_int_inv Try.underlying3 hkey
      cases ex
      obtain ⟨l, hl, el, rfl⟩ := secElem_inv hv
      obtain rfl := secV_inj el
      exact hMore x c w' cnt' hwx hl hlk hat hrg hlt hgr hsz hen)
end Go.Proofs.Ytaaceaojgbicaaa
