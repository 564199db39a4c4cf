/- Maps in memory as plain functions of their keys, whatever the keys and the elements are: what is looked up, stored, deleted, counted, and what a range meets. The keys are such as keys may be. -/
import Derived.Test.YtibidhmahjbciaaGRows
import Derived.Maps.OwnSet
import Derived.Maps.RangeWalk
import Derived.StringKeys
namespace Go.Proofs.Ytibidhmahjbciaa
open Go.ChangeShapes Go.WideShapes Go.ChangeAt Go.RowKit
set_option linter.unusedVariables false
set_option linter.unusedSimpArgs false

/- A kind of map: its types, how keys and elements lie and read. -/
structure MapD (κ ε : Type) where
  t : TypeId
  k : TypeId
  e : TypeId
  kv : κ → Value
  kl : κ → Lit
  ok : κ → Prop
  ev : ε → Value
  ed : ε → DataW Unit
  rd : Value → Option (DataW Unit × List MemPlace)
  z : ε
structure MapD.Ok {κ ε : Type} (M : MapD κ ε) (P : Program) : Prop where
  und : P.underlying M.t = some (.map M.k M.e)
  keyed : Maps.Keyed P M.k
  key : ∀ x, M.ok x → keyOf P M.k (M.kv x) = some (M.kl x)
  inj : ∀ x y, M.kl x = M.kl y → x = y
  zero : ∀ w, (zeroValue M.e).run P w = .ok (M.ev M.z) w
  reads : ∀ y, M.rd (M.ev y) = some (M.ed y, [])
  inv : ∀ v y ps, M.rd v = some (M.ed y, ps) → v = M.ev y
  invK : ∀ key l, keyOf P M.k key = some l → ∃ x, key = M.kv x ∧ l = M.kl x ∧ M.ok x
  invV : ∀ v y, M.rd v = some y → ∃ c, v = M.ev c ∧ y = (M.ed c, [])
/- What a map's turning leaves. -/
section
variable {W w w' : World} {b : Nat}
theorem turned_block (h : w.mapTurned w' b) {i : Nat} (hi : i < w.heap.size) (hn : i ≠ b) : w'.heap[i]? = w.heap[i]? := h.grown.block i hi (fun e => hn (Option.some.inj e))
theorem kept_turned (k : Kept W w) (hb : W.heap.size ≤ b) (h : w.mapTurned w' b) : Kept W w' := by
  have g := h.grown
  exact kept_of (g.os.trans (kept_os k)) (g.output.trans (kept_output k)) (Nat.le_trans k.2 g.size) (fun i hi => (turned_block h (Nat.lt_of_lt_of_le hi k.2) (by omega)).trans (kept_block k hi))
theorem turned_map (h : w.mapTurned w' b) : ∃ es clock, w.heap[b]? = some (.map es clock) := by
  obtain ⟨es, clock, _, _, hb, _⟩ := h
  exact ⟨es, clock, hb⟩
theorem at_map {X T : Nat} {cs : Array Value} (h : At w X cs T) {es : Array MapEntry} {clock : Nat} (g : w.heap[b]? = some (.map es clock)) : X ≠ b := by
  rintro rfl
  unfold At at h
  rw [h] at g
  cases g
theorem at_turned {X T : Nat} {cs : Array Value} (h : At w X cs T) (t : w.mapTurned w' b) : At w' X cs T := by
  obtain ⟨es, clock, g⟩ := turned_map t
  exact (turned_block t (at_lt h) (at_map h g)).trans h
theorem og_turned {α : Type} {enc : α → List Value} {c T B : Nat} {v : Value} {xs : List α} (h : Og enc c T w B v xs) (t : w.mapTurned w' b) : Og enc c T w' B v xs := by
  obtain ⟨es, clock, g⟩ := turned_map t
  exact og_block h (fun i cur _ ha => turned_block t (at_lt ha) (at_map ha g))
end
/- What a map has. -/
def Has {κ ε : Type} (M : MapD κ ε) (D : DataW Unit) (g : κ → Option ε) : Prop := ∀ x, Maps.has D (M.kl x) = (g x).isSome ∧ ∀ y, g x = some y → D.atKey (M.kl x) (M.ed M.z) = M.ed y
def Gm {κ ε : Type} (P : Program) (M : MapD κ ε) (w : World) (m : Nat) (g : κ → Option ε) (c : Nat) : Prop :=
  ∃ D : DataW Unit, w.ownsMap P M.k M.rd m (Maps.size D) D ∧ Maps.size D = c ∧ Has M D g
theorem owns_fit {P : Program} {w : World} {k : TypeId} {b n : Nat} {D : DataW Unit} {Q : Value → Option (DataW Unit × List MemPlace)} (h : w.ownsMap P k Q b n D) : w.ownsMap P k Q b (Maps.size D) D := by
  obtain ⟨es, clock, hb, F, hs, rfl⟩ := h
  exact ⟨es, clock, hb, F, by simp [Maps.size, length_sorted], rfl⟩
theorem owns_block {P : Program} {w w' : World} {D : DataW Unit} {k : TypeId} {Q : Value → Option (DataW Unit × List MemPlace)} {b n : Nat} (h : w.ownsMap P k Q b n D) (e : w'.heap[b]? = w.heap[b]?) : w'.ownsMap P k Q b n D := by
  obtain ⟨es, clock, hb, r⟩ := h
  exact ⟨es, clock, e.trans hb, r⟩
section
variable {κ ε : Type} {P : Program} {M : MapD κ ε} {w w' : World} {m c : Nat} {g : κ → Option ε}
theorem gm_block (h : Gm P M w m g c) (e : w'.heap[m]? = w.heap[m]?) : Gm P M w' m g c := by
  obtain ⟨D, h1, h2⟩ := h
  exact ⟨D, owns_block h1 e, h2⟩
theorem gm_lt (h : Gm P M w m g c) : m < w.heap.size := by
  obtain ⟨D, h1, _⟩ := h
  exact h1.lt
theorem gm_kept (h : Gm P M w m g c) (k : Kept w w') : Gm P M w' m g c := gm_block h (kept_block k (gm_lt h))
theorem gm_is (h : Gm P M w m g c) : ∃ es clock, w.heap[m]? = some (.map es clock) := by
  obtain ⟨D, ⟨es, clock, hb, _⟩, _⟩ := h
  exact ⟨es, clock, hb⟩
/- It stands while a row grows. -/
theorem gm_row {α : Type} {enc : α → List Value} {d T B : Nat} {v : Value} {xs : List α} (h : Gm P M w m g c) (o : Og enc d T w B v xs) (gr : w.grownBy w' v.ownBlock) : Gm P M w' m g c := by
  obtain ⟨es, clock, hb⟩ := gm_is h
  refine gm_block h (gr.block m (gm_lt h) (fun e => ?_))
  rcases o.2 with ⟨rfl, _⟩ | ⟨q, cap, cur, rfl, _, hg, _⟩
  · cases e
  · injection e with e
    subst e
    exact at_map hg hb rfl
theorem gm_made (w : World) : Gm P M (w.alloc (.map #[] 0)) w.heap.size (fun _ => none) 0 :=
  ⟨.map [], World.ownsMap_made w P M.k _, rfl, fun s => ⟨rfl, fun v h => by cases h⟩⟩
theorem gm_val (hM : M.Ok P) {D : DataW Unit} (hD : Has M D g) {x : κ} {v : Value} {ps : List MemPlace} (hv : M.rd v = some (D.atKey (M.kl x) (M.ed M.z), ps)) : v = M.ev ((g x).getD M.z) := by
  obtain ⟨g1, g2⟩ := hD x
  cases e : g x with
  | none =>
    rw [e] at g1
    rw [Maps.atKey_of_not_has g1] at hv
    exact hM.inv _ _ _ hv
  | some y =>
    rw [g2 y e] at hv
    exact hM.inv _ _ _ hv
theorem gm_look (hM : M.Ok P) (h : Gm P M w m g c) {x : κ} (hx : M.ok x) : (Instr.lookup M.t (.map (some m)) (M.kv x) true).run P w = .ok (.tuple #[M.ev ((g x).getD M.z), .bool (g x).isSome]) w := by
  obtain ⟨D, h1, h2, h3⟩ := h
  obtain ⟨v, ps, hrun, hv⟩ := h1.look_ok hM.keyed hM.und (hM.zero w) (hM.reads M.z) (hM.key x hx)
  rw [hrun, (h3 x).1, gm_val hM h3 hv]
theorem gm_look1 (hM : M.Ok P) (h : Gm P M w m g c) {x : κ} (hx : M.ok x) : (Instr.lookup M.t (.map (some m)) (M.kv x) false).run P w = .ok (M.ev ((g x).getD M.z)) w := by
  obtain ⟨D, h1, h2, h3⟩ := h
  obtain ⟨v, ps, hrun, hv⟩ := h1.lookup hM.keyed hM.und (hM.zero w) (hM.reads M.z) (hM.key x hx)
  rw [hrun, gm_val hM h3 hv]
theorem gm_len (hM : M.Ok P) (h : Gm P M w m g c) (ty : TypeId) : (Builtin.len_ #[M.t] ty #[.map (some m)]).run P w = .ok (.int .i64 (c : Int)) w := by
  obtain ⟨D, h1, h2, h3⟩ := h
  rw [h1.len hM.und ty, h2]
theorem gm_put [DecidableEq κ] (hM : M.Ok P) (h : Gm P M w m g c) (hn : c ≤ 100000) {x : κ} (hx : M.ok x) (y : ε) :
    ∃ w', (Instr.mapUpdate M.t (.map (some m)) (M.kv x) (M.ev y)).run P w = .ok () w' ∧ Gm P M w' m (fun q => if q = x then some y else g q) (c + if (g x).isSome then 0 else 1) ∧ w.mapTurned w' m := by
  obtain ⟨D, h1, h2, h3⟩ := h
  obtain ⟨w', hrun, g1, g2⟩ := h1.store hM.keyed hM.und (by rw [h2]; unfold maxLen; omega) (hM.key x hx) (hM.reads y)
  have hI : WideAt.IsKeyLit (M.kl x) := hM.keyed.key (hM.key x hx)
  refine ⟨w', hrun, ⟨_, owns_fit g1, ?_, fun q => ?_⟩, g2⟩
  · rw [Maps.size_put (h1.tidy hM.keyed), (h3 x).1, h2]
    cases e : g x with
    | none => simp
    | some y => simp
  · by_cases e : q = x
    · subst e
      simp only [if_pos]
      rw [Maps.has_put_same h1.isMap hI]
      refine ⟨rfl, fun z hz => ?_⟩
      injection hz with hz
      rw [Maps.atKey_put_same h1.isMap hI, hz]
    · simp only [if_neg e]
      have hne : M.kl q ≠ M.kl x := fun h => e (hM.inj _ _ h)
      rw [Maps.has_put_other hne]
      exact ⟨(h3 q).1, fun z hz => by rw [Maps.atKey_put_other hne]; exact (h3 q).2 z hz⟩
theorem gm_del [DecidableEq κ] (hM : M.Ok P) (h : Gm P M w m g c) {x : κ} (hx : M.ok x) (ty : TypeId) :
    ∃ w', (Builtin.delete_ #[M.t, M.k] ty #[.map (some m), M.kv x]).run P w = .ok (.tuple #[]) w' ∧ (∀ c', c' + (if (g x).isSome then 1 else 0) = c → Gm P M w' m (fun q => if q = x then none else g q) c') ∧ w.mapTurned w' m := by
  obtain ⟨D, h1, h2, h3⟩ := h
  obtain ⟨w', hrun, g1, g2⟩ := h1.drop hM.keyed hM.und (hM.key x hx) ty
  refine ⟨w', hrun, fun c' hc' => ⟨_, owns_fit g1, ?_, fun q => ?_⟩, g2⟩
  · have := Maps.size_del (k := M.kl x) (h1.tidy hM.keyed)
    rw [(h3 x).1, h2] at this
    cases e : g x with
    | none => rw [e] at hc' this; simp at hc' this; omega
    | some y => rw [e] at hc' this; simp at hc' this; omega
  · by_cases e : q = x
    · subst e
      simp only [if_pos]
      exact ⟨Maps.has_del_same, fun y hy => by cases hy⟩
    · simp only [if_neg e]
      have hne : M.kl q ≠ M.kl x := fun h => e (hM.inj _ _ h)
      rw [Maps.has_del_other hne]
      exact ⟨(h3 q).1, fun y hy => by rw [Maps.atKey_del_other hne]; exact (h3 q).2 y hy⟩
/- A range over it, under way: which keys are still to come, and how many. -/
def Gr (P : Program) (M : MapD κ ε) (w : World) (m r : Nat) (g : κ → Option ε) (c : Nat) (left : κ → Bool) (cnt : Nat) : Prop :=
  ∃ (D : DataW Unit) (lf : Lit → Bool), w.ranges P M.k M.rd m r (Maps.size D) D lf cnt ∧ Maps.size D = c ∧ Has M D g ∧ (∀ x, lf (M.kl x) = left x) ∧ ∀ x, left x = true → (g x).isSome = true
theorem gr_map {r cnt : Nat} {left : κ → Bool} (h : Gr P M w m r g c left cnt) : Gm P M w m g c := by
  obtain ⟨D, lf, h1, h2, h3, _⟩ := h
  exact ⟨D, h1.owns, h2, h3⟩
theorem gr_left {r cnt : Nat} {left : κ → Bool} (h : Gr P M w m r g c left cnt) : w.rangeLeft m r = cnt := by
  obtain ⟨D, lf, h1, _⟩ := h
  exact h1.left_eq
theorem gr_lt {r cnt : Nat} {left : κ → Bool} (h : Gr P M w m r g c left cnt) : r < w.heap.size := by
  obtain ⟨D, lf, h1, _⟩ := h
  exact h1.lt
theorem gr_iter {r cnt : Nat} {left : κ → Bool} (h : Gr P M w m r g c left cnt) : ∃ a b' s d, w.heap[r]? = some (.mapIter a b' s d) := by
  obtain ⟨D, lf, ⟨es, clock, since, seen, c0, hb, F, hs, hD, hr, rest⟩, _⟩ := h
  exact ⟨_, _, _, _, hr⟩
theorem gr_block {r cnt : Nat} {left : κ → Bool} (h : Gr P M w m r g c left cnt) (e : w'.heap[m]? = w.heap[m]?) (e' : w'.heap[r]? = w.heap[r]?) : Gr P M w' m r g c left cnt := by
  obtain ⟨D, lf, ⟨es, clock, since, seen, c0, hb, F, hs, hD, hr, rest⟩, h2⟩ := h
  exact ⟨D, lf, ⟨es, clock, since, seen, c0, e.trans hb, F, hs, hD, e'.trans hr, rest⟩, h2⟩
theorem gr_kept {r cnt : Nat} {left : κ → Bool} (h : Gr P M w m r g c left cnt) (k : Kept w w') : Gr P M w' m r g c left cnt := gr_block h (kept_block k (gm_lt (gr_map h))) (kept_block k (gr_lt h))
theorem gr_row {r cnt : Nat} {left : κ → Bool} {α : Type} {enc : α → List Value} {d T B : Nat} {v : Value} {xs : List α} (h : Gr P M w m r g c left cnt) (o : Og enc d T w B v xs) (gr : w.grownBy w' v.ownBlock) : Gr P M w' m r g c left cnt := by
  obtain ⟨es, clock, hb⟩ := gm_is (gr_map h)
  obtain ⟨i1, i2, i3, i4, hi⟩ := gr_iter h
  have hno : ∀ q, w.heap[q]? = some (.map es clock) ∨ w.heap[q]? = some (.mapIter i1 i2 i3 i4) → some q ≠ v.ownBlock := fun q hq e => by
    rcases o.2 with ⟨rfl, _⟩ | ⟨p, cap, cur, rfl, _, hg, _⟩
    · cases e
    · injection e with e
      subst e
      rw [hg] at hq
      rcases hq with hq | hq <;> cases hq
  exact gr_block h (gr.block m (gm_lt (gr_map h)) (hno m (.inl hb))) (gr.block r (gr_lt h) (hno r (.inr hi)))
theorem wpList_grange {ops : Array Oper} {rest : List Oper} {o : Oper} {a : Act} {Q : Exit → Act → World → Prop} (hM : M.Ok P) (hg : o.guard = none) (s : Operand) (hop : o.op = Op.range M.t s) (hs : a.eval s = .map (some m)) (h : Gm P M w m g c)
    (hK : ∀ w', Gr P M w' m w.heap.size g c (fun x => (g x).isSome) c → Kept w w' → wpList P ops Q rest (a.put o.dst (.pointer (some ⟨w.heap.size, 0, none⟩))) w') : wpList P ops Q (o :: rest) a w := by
  obtain ⟨D, h1, h2, h3⟩ := h
  refine wpList_range_own w hg s M.t hop M.k M.e hM.keyed hM.und M.rd m (Maps.size D) D hs h1 (fun w' r1 r2 r3 => hK w' ⟨D, _, by rw [← h2]; exact r1, h2, h3, fun x => (h3 x).1, fun x hx => hx⟩ ?_)
  exact kept_of r2.os r2.output r2.size (fun i hi => r2.block i hi (by simp))
theorem wpList_gnext [DecidableEq κ] {ops : Array Oper} {rest : List Oper} {o : Oper} {a : Act} {Q : Exit → Act → World → Prop} (hM : M.Ok P) (hg : o.guard = none) (s : Operand) (hop : o.op = Op.next s false) {r cnt : Nat} {left : κ → Bool} (hs : a.eval s = .pointer (some ⟨r, 0, none⟩)) (h : Gr P M w m r g c left cnt)
    (hDone : cnt = 0 → (∀ x, left x = false) → wpList P ops Q rest (a.put o.dst (.tuple #[.bool false])) w)
    (hMore : ∀ (x : κ) (y : ε) (w' : World) (cnt' : Nat), M.ok x → left x = true → g x = some y → Gr P M w' m r g c (fun q => left q && !decide (q = x)) cnt' → cnt' < cnt → w.grownBy w' (some r) → w'.heap.size = w.heap.size →
      (Instr.entry (.pointer (some ⟨r, 0, none⟩))).run P w' = .ok (.tuple #[M.kv x, M.ev y]) w' → wpList P ops Q rest (a.put o.dst (.tuple #[.bool true, M.kv x, M.ev y])) w') : wpList P ops Q (o :: rest) a w := by
  obtain ⟨D, lf, h1, h2, h3, h4, h5⟩ := h
  refine wpList_next_ranges w hg s hop M.k hM.keyed M.rd M.kv M.ev (fun key l hk => by obtain ⟨x, e, _⟩ := hM.invK key l hk; exact ⟨x, e⟩) (fun v y hv => by obtain ⟨c, e, _⟩ := hM.invV v y hv; exact ⟨c, e⟩) m r (Maps.size D) D lf cnt hs h1 (fun e hl => hDone e (fun x => by rw [← h4]; exact hl _)) ?_
  intro x y l yd w' cnt' hk hl hv hat hrg hlt hgr hsz hen
  obtain ⟨x', ex, rfl, hok⟩ := hM.invK _ _ hk
  have hlx : left x' = true := by rw [← h4]; exact hl
  have hsome := h5 x' hlx
  cases hgx : g x' with
  | none => rw [hgx] at hsome; cases hsome
  | some y' =>
    have hy := (h3 x').2 y' hgx
    rw [hat] at hy
    obtain ⟨yd1, yd2⟩ := yd
    simp only at hy
    subst hy
    have hev := hM.inv _ _ _ hv
    rw [ex, hev] at hen ⊢
    refine hMore x' y' w' cnt' hok hlx hgx ⟨D, _, hrg, h2, h3, fun q => ?_, fun q hq => ?_⟩ hlt hgr hsz hen
    · show (lf (M.kl q) && !(M.kl q).sameKey (M.kl x')) = _
      rw [h4]
      congr 2
      by_cases e : q = x'
      · subst e
        rw [WideAt.sameKey_self (hM.keyed.key hk)]
        simp
      · rw [Maps.sameKey_ne (fun h => e (hM.inj _ _ h))]
        simp [e]
    · simp at hq
      exact h5 q hq.1
end
/- Texts as keys. -/
def klT (s : ByteArray) : Lit := .string s.data.toList
theorem klT_inj (a b : ByteArray) (h : klT a = klT b) : a = b := by
  unfold klT at h
  injection h with h
  cases a; cases b
  simpa using h
theorem klT_inv {P : Program} {k : TypeId} (hk : P.underlying k = some .string) {key : Value} {l : Lit} (h : keyOf P k key = some l) : ∃ x : ByteArray, key = .string x ∧ l = klT x ∧ x.size ≤ maxLen := by
  cases key <;> simp [keyOf, hk, mapKey] at h
  obtain ⟨h1, h2⟩ := h
  exact ⟨_, rfl, h2.symm, h1⟩
end Go.Proofs.Ytibidhmahjbciaa
