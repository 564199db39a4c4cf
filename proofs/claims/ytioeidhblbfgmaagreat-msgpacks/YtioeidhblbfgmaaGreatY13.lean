/- Maps in memory as plain functions of their keys, whatever the keys and the elements are: what is looked up, stored, deleted, counted, and what a range meets. The keys are such as keys may be. More on rows: a row that is made, a store of what is there already. Rows have at most 4096 members where they are made. More on rows: a row that is made whole, a row copied into one's own; what a map's turning leaves of a row. Rows have at most 4096 members where they are made. Objects whose form is their maker's own: a predicate T says that one lies at a place, with what it holds, and which blocks are its own. What a walk needs of such ones. -/
import Derived.Test.YtioeidhblbfgmaaGreatY12
import Derived.Maps.OwnSet
import Derived.Maps.RangeWalk
import Derived.StringKeys
import Derived.Laws.OwnMore
import Derived.Laws.MakeOwn
import Derived.Laws.CopyRow

namespace Go.Proofs.YtioeidhblbfgmaaGreat
open Go.ChangeShapes Go.WideShapes Go.ChangeAt Go.RowKit
set_option linter.unusedVariables false
set_option linter.unusedSimpArgs false

/- A kind of map: its types, how keys and elements lie and read. -/
structure MapD (κ ε : Type) where
  t : TypeId
  k : TypeId
  e : TypeId
  kv : κ → Value
  kl : κ → Lit
  ok : κ → Prop
  ev : ε → Value
  ed : ε → DataW Unit
  rd : Value → Option (DataW Unit × List MemPlace)
  z : ε
structure MapD.Ok {κ ε : Type} (M : MapD κ ε) (P : Program) : Prop where
  und : P.underlying M.t = some (.map M.k M.e)
  keyed : Maps.Keyed P M.k
  key : ∀ x, M.ok x → keyOf P M.k (M.kv x) = some (M.kl x)
  inj : ∀ x y, M.kl x = M.kl y → x = y
  zero : ∀ w, (zeroValue M.e).run P w = .ok (M.ev M.z) w
  reads : ∀ y, M.rd (M.ev y) = some (M.ed y, [])
  inv : ∀ v y ps, M.rd v = some (M.ed y, ps) → v = M.ev y
  invK : ∀ key l, keyOf P M.k key = some l → ∃ x, key = M.kv x ∧ l = M.kl x ∧ M.ok x
  invV : ∀ v y, M.rd v = some y → ∃ c, v = M.ev c ∧ y = (M.ed c, [])
/- What a map's turning leaves. -/
section
variable {W w w' : World} {b : Nat}
theorem turned_block (h : w.mapTurned w' b) {i : Nat} (hi : i < w.heap.size) (hn : i ≠ b) : w'.heap[i]? = w.heap[i]? := h.grown.block i hi (fun e => hn (Option.some.inj e))
theorem kept_turned (k : Kept W w) (hb : W.heap.size ≤ b) (h : w.mapTurned w' b) : Kept W w' := by
  have g := h.grown
  exact kept_of (g.os.trans (kept_os k)) (g.output.trans (kept_output k)) (Nat.le_trans k.2 g.size) (fun i hi => (turned_block h (Nat.lt_of_lt_of_le hi k.2) (by omega)).trans (kept_block k hi))
theorem turned_map (h : w.mapTurned w' b) : ∃ es clock, w.heap[b]? = some (.map es clock) := by
  obtain ⟨es, clock, _, _, hb, _⟩ := h
  exact ⟨es, clock, hb⟩
theorem at_map {X T : Nat} {cs : Array Value} (h : At w X cs T) {es : Array MapEntry} {clock : Nat} (g : w.heap[b]? = some (.map es clock)) : X ≠ b := by
  rintro rfl
  unfold At at h
  rw [h] at g
  cases g
theorem at_turned {X T : Nat} {cs : Array Value} (h : At w X cs T) (t : w.mapTurned w' b) : At w' X cs T := by
  obtain ⟨es, clock, g⟩ := turned_map t
  exact (turned_block t (at_lt h) (at_map h g)).trans h
theorem og_turned {α : Type} {enc : α → List Value} {c T B : Nat} {v : Value} {xs : List α} (h : Og enc c T w B v xs) (t : w.mapTurned w' b) : Og enc c T w' B v xs := by
  obtain ⟨es, clock, g⟩ := turned_map t
  exact og_block h (fun i cur _ ha => turned_block t (at_lt ha) (at_map ha g))
end
/- What a map has. -/
def Has {κ ε : Type} (M : MapD κ ε) (D : DataW Unit) (g : κ → Option ε) : Prop := ∀ x, Maps.has D (M.kl x) = (g x).isSome ∧ ∀ y, g x = some y → D.atKey (M.kl x) (M.ed M.z) = M.ed y
def Gm {κ ε : Type} (P : Program) (M : MapD κ ε) (w : World) (m : Nat) (g : κ → Option ε) (c : Nat) : Prop :=
  ∃ D : DataW Unit, w.ownsMap P M.k M.rd m (Maps.size D) D ∧ Maps.size D = c ∧ Has M D g
theorem owns_fit {P : Program} {w : World} {k : TypeId} {b n : Nat} {D : DataW Unit} {Q : Value → Option (DataW Unit × List MemPlace)} (h : w.ownsMap P k Q b n D) : w.ownsMap P k Q b (Maps.size D) D := by
  obtain ⟨es, clock, hb, F, hs, rfl⟩ := h
  exact ⟨es, clock, hb, F, by simp [Maps.size, length_sorted], rfl⟩
theorem owns_block {P : Program} {w w' : World} {D : DataW Unit} {k : TypeId} {Q : Value → Option (DataW Unit × List MemPlace)} {b n : Nat} (h : w.ownsMap P k Q b n D) (e : w'.heap[b]? = w.heap[b]?) : w'.ownsMap P k Q b n D := by
  obtain ⟨es, clock, hb, r⟩ := h
  exact ⟨es, clock, e.trans hb, r⟩
section
variable {κ ε : Type} {P : Program} {M : MapD κ ε} {w w' : World} {m c : Nat} {g : κ → Option ε}
theorem gm_block (h : Gm P M w m g c) (e : w'.heap[m]? = w.heap[m]?) : Gm P M w' m g c := by
  obtain ⟨D, h1, h2⟩ := h
  exact ⟨D, owns_block h1 e, h2⟩
theorem gm_lt (h : Gm P M w m g c) : m < w.heap.size := by
  obtain ⟨D, h1, _⟩ := h
  exact h1.lt
theorem gm_kept (h : Gm P M w m g c) (k : Kept w w') : Gm P M w' m g c := gm_block h (kept_block k (gm_lt h))
theorem gm_is (h : Gm P M w m g c) : ∃ es clock, w.heap[m]? = some (.map es clock) := by
  obtain ⟨D, ⟨es, clock, hb, _⟩, _⟩ := h
  exact ⟨es, clock, hb⟩
/- It stands while a row grows. -/
theorem gm_row {α : Type} {enc : α → List Value} {d T B : Nat} {v : Value} {xs : List α} (h : Gm P M w m g c) (o : Og enc d T w B v xs) (gr : w.grownBy w' v.ownBlock) : Gm P M w' m g c := by
  obtain ⟨es, clock, hb⟩ := gm_is h
  refine gm_block h (gr.block m (gm_lt h) (fun e => ?_))
  rcases o.2 with ⟨rfl, _⟩ | ⟨q, cap, cur, rfl, _, hg, _⟩
  · cases e
  · injection e with e
    subst e
    exact at_map hg hb rfl
theorem gm_made (w : World) : Gm P M (w.alloc (.map #[] 0)) w.heap.size (fun _ => none) 0 :=
  ⟨.map [], World.ownsMap_made w P M.k _, rfl, fun s => ⟨rfl, fun v h => by cases h⟩⟩
theorem gm_val (hM : M.Ok P) {D : DataW Unit} (hD : Has M D g) {x : κ} {v : Value} {ps : List MemPlace} (hv : M.rd v = some (D.atKey (M.kl x) (M.ed M.z), ps)) : v = M.ev ((g x).getD M.z) := by
  obtain ⟨g1, g2⟩ := hD x
  cases e : g x with
  | none =>
    rw [e] at g1
    rw [Maps.atKey_of_not_has g1] at hv
    exact hM.inv _ _ _ hv
  | some y =>
    rw [g2 y e] at hv
    exact hM.inv _ _ _ hv
theorem gm_look (hM : M.Ok P) (h : Gm P M w m g c) {x : κ} (hx : M.ok x) : (Instr.lookup M.t (.map (some m)) (M.kv x) true).run P w = .ok (.tuple #[M.ev ((g x).getD M.z), .bool (g x).isSome]) w := by
  obtain ⟨D, h1, h2, h3⟩ := h
  obtain ⟨v, ps, hrun, hv⟩ := h1.look_ok hM.keyed hM.und (hM.zero w) (hM.reads M.z) (hM.key x hx)
  rw [hrun, (h3 x).1, gm_val hM h3 hv]
theorem gm_look1 (hM : M.Ok P) (h : Gm P M w m g c) {x : κ} (hx : M.ok x) : (Instr.lookup M.t (.map (some m)) (M.kv x) false).run P w = .ok (M.ev ((g x).getD M.z)) w := by
  obtain ⟨D, h1, h2, h3⟩ := h
  obtain ⟨v, ps, hrun, hv⟩ := h1.lookup hM.keyed hM.und (hM.zero w) (hM.reads M.z) (hM.key x hx)
  rw [hrun, gm_val hM h3 hv]
theorem gm_len (hM : M.Ok P) (h : Gm P M w m g c) (ty : TypeId) : (Builtin.len_ #[M.t] ty #[.map (some m)]).run P w = .ok (.int .i64 (c : Int)) w := by
  obtain ⟨D, h1, h2, h3⟩ := h
  rw [h1.len hM.und ty, h2]
theorem gm_put [DecidableEq κ] (hM : M.Ok P) (h : Gm P M w m g c) (hn : c ≤ 100000) {x : κ} (hx : M.ok x) (y : ε) :
    ∃ w', (Instr.mapUpdate M.t (.map (some m)) (M.kv x) (M.ev y)).run P w = .ok () w' ∧ Gm P M w' m (fun q => if q = x then some y else g q) (c + if (g x).isSome then 0 else 1) ∧ w.mapTurned w' m := by
  obtain ⟨D, h1, h2, h3⟩ := h
  obtain ⟨w', hrun, g1, g2⟩ := h1.store hM.keyed hM.und (by rw [h2]; unfold maxLen; omega) (hM.key x hx) (hM.reads y)
  have hI : WideAt.IsKeyLit (M.kl x) := hM.keyed.key (hM.key x hx)
  refine ⟨w', hrun, ⟨_, owns_fit g1, ?_, fun q => ?_⟩, g2⟩
  · rw [Maps.size_put (h1.tidy hM.keyed), (h3 x).1, h2]
    cases e : g x with
    | none => simp
    | some y => simp
  · by_cases e : q = x
    · subst e
      simp only [if_pos]
      rw [Maps.has_put_same h1.isMap hI]
      refine ⟨rfl, fun z hz => ?_⟩
      injection hz with hz
      rw [Maps.atKey_put_same h1.isMap hI, hz]
    · simp only [if_neg e]
      have hne : M.kl q ≠ M.kl x := fun h => e (hM.inj _ _ h)
      rw [Maps.has_put_other hne]
      exact ⟨(h3 q).1, fun z hz => by rw [Maps.atKey_put_other hne]; exact (h3 q).2 z hz⟩
theorem gm_del [DecidableEq κ] (hM : M.Ok P) (h : Gm P M w m g c) {x : κ} (hx : M.ok x) (ty : TypeId) :
    ∃ w', (Builtin.delete_ #[M.t, M.k] ty #[.map (some m), M.kv x]).run P w = .ok (.tuple #[]) w' ∧ (∀ c', c' + (if (g x).isSome then 1 else 0) = c → Gm P M w' m (fun q => if q = x then none else g q) c') ∧ w.mapTurned w' m := by
  obtain ⟨D, h1, h2, h3⟩ := h
  obtain ⟨w', hrun, g1, g2⟩ := h1.drop hM.keyed hM.und (hM.key x hx) ty
  refine ⟨w', hrun, fun c' hc' => ⟨_, owns_fit g1, ?_, fun q => ?_⟩, g2⟩
  · have := Maps.size_del (k := M.kl x) (h1.tidy hM.keyed)
    rw [(h3 x).1, h2] at this
    cases e : g x with
    | none => rw [e] at hc' this; simp at hc' this; omega
    | some y => rw [e] at hc' this; simp at hc' this; omega
  · by_cases e : q = x
    · subst e
      simp only [if_pos]
      exact ⟨Maps.has_del_same, fun y hy => by cases hy⟩
    · simp only [if_neg e]
      have hne : M.kl q ≠ M.kl x := fun h => e (hM.inj _ _ h)
      rw [Maps.has_del_other hne]
      exact ⟨(h3 q).1, fun y hy => by rw [Maps.atKey_del_other hne]; exact (h3 q).2 y hy⟩
/- A range over it, under way: which keys are still to come, and how many. -/
def Gr (P : Program) (M : MapD κ ε) (w : World) (m r : Nat) (g : κ → Option ε) (c : Nat) (left : κ → Bool) (cnt : Nat) : Prop :=
  ∃ (D : DataW Unit) (lf : Lit → Bool), w.ranges P M.k M.rd m r (Maps.size D) D lf cnt ∧ Maps.size D = c ∧ Has M D g ∧ (∀ x, lf (M.kl x) = left x) ∧ ∀ x, left x = true → (g x).isSome = true
theorem gr_map {r cnt : Nat} {left : κ → Bool} (h : Gr P M w m r g c left cnt) : Gm P M w m g c := by
  obtain ⟨D, lf, h1, h2, h3, _⟩ := h
  exact ⟨D, h1.owns, h2, h3⟩
theorem gr_left {r cnt : Nat} {left : κ → Bool} (h : Gr P M w m r g c left cnt) : w.rangeLeft m r = cnt := by
  obtain ⟨D, lf, h1, _⟩ := h
  exact h1.left_eq
theorem gr_lt {r cnt : Nat} {left : κ → Bool} (h : Gr P M w m r g c left cnt) : r < w.heap.size := by
  obtain ⟨D, lf, h1, _⟩ := h
  exact h1.lt
theorem gr_iter {r cnt : Nat} {left : κ → Bool} (h : Gr P M w m r g c left cnt) : ∃ a b' s d, w.heap[r]? = some (.mapIter a b' s d) := by
  obtain ⟨D, lf, ⟨es, clock, since, seen, c0, hb, F, hs, hD, hr, rest⟩, _⟩ := h
  exact ⟨_, _, _, _, hr⟩
theorem gr_block {r cnt : Nat} {left : κ → Bool} (h : Gr P M w m r g c left cnt) (e : w'.heap[m]? = w.heap[m]?) (e' : w'.heap[r]? = w.heap[r]?) : Gr P M w' m r g c left cnt := by
  obtain ⟨D, lf, ⟨es, clock, since, seen, c0, hb, F, hs, hD, hr, rest⟩, h2⟩ := h
  exact ⟨D, lf, ⟨es, clock, since, seen, c0, e.trans hb, F, hs, hD, e'.trans hr, rest⟩, h2⟩
theorem gr_kept {r cnt : Nat} {left : κ → Bool} (h : Gr P M w m r g c left cnt) (k : Kept w w') : Gr P M w' m r g c left cnt := gr_block h (kept_block k (gm_lt (gr_map h))) (kept_block k (gr_lt h))
theorem gr_row {r cnt : Nat} {left : κ → Bool} {α : Type} {enc : α → List Value} {d T B : Nat} {v : Value} {xs : List α} (h : Gr P M w m r g c left cnt) (o : Og enc d T w B v xs) (gr : w.grownBy w' v.ownBlock) : Gr P M w' m r g c left cnt := by
  obtain ⟨es, clock, hb⟩ := gm_is (gr_map h)
  obtain ⟨i1, i2, i3, i4, hi⟩ := gr_iter h
  have hno : ∀ q, w.heap[q]? = some (.map es clock) ∨ w.heap[q]? = some (.mapIter i1 i2 i3 i4) → some q ≠ v.ownBlock := fun q hq e => by
    rcases o.2 with ⟨rfl, _⟩ | ⟨p, cap, cur, rfl, _, hg, _⟩
    · cases e
    · injection e with e
      subst e
      rw [hg] at hq
      rcases hq with hq | hq <;> cases hq
  exact gr_block h (gr.block m (gm_lt (gr_map h)) (hno m (.inl hb))) (gr.block r (gr_lt h) (hno r (.inr hi)))
theorem wpList_grange {ops : Array Oper} {rest : List Oper} {o : Oper} {a : Act} {Q : Exit → Act → World → Prop} (hM : M.Ok P) (hg : o.guard = none) (s : Operand) (hop : o.op = Op.range M.t s) (hs : a.eval s = .map (some m)) (h : Gm P M w m g c)
    (hK : ∀ w', Gr P M w' m w.heap.size g c (fun x => (g x).isSome) c → Kept w w' → wpList P ops Q rest (a.put o.dst (.pointer (some ⟨w.heap.size, 0, none⟩))) w') : wpList P ops Q (o :: rest) a w := by
  obtain ⟨D, h1, h2, h3⟩ := h
  refine wpList_range_own w hg s M.t hop M.k M.e hM.keyed hM.und M.rd m (Maps.size D) D hs h1 (fun w' r1 r2 r3 => hK w' ⟨D, _, by rw [← h2]; exact r1, h2, h3, fun x => (h3 x).1, fun x hx => hx⟩ ?_)
  exact kept_of r2.os r2.output r2.size (fun i hi => r2.block i hi (by simp))
theorem wpList_gnext [DecidableEq κ] {ops : Array Oper} {rest : List Oper} {o : Oper} {a : Act} {Q : Exit → Act → World → Prop} (hM : M.Ok P) (hg : o.guard = none) (s : Operand) (hop : o.op = Op.next s false) {r cnt : Nat} {left : κ → Bool} (hs : a.eval s = .pointer (some ⟨r, 0, none⟩)) (h : Gr P M w m r g c left cnt)
    (hDone : cnt = 0 → (∀ x, left x = false) → wpList P ops Q rest (a.put o.dst (.tuple #[.bool false])) w)
    (hMore : ∀ (x : κ) (y : ε) (w' : World) (cnt' : Nat), M.ok x → left x = true → g x = some y → Gr P M w' m r g c (fun q => left q && !decide (q = x)) cnt' → cnt' < cnt → w.grownBy w' (some r) → w'.heap.size = w.heap.size →
      (Instr.entry (.pointer (some ⟨r, 0, none⟩))).run P w' = .ok (.tuple #[M.kv x, M.ev y]) w' → wpList P ops Q rest (a.put o.dst (.tuple #[.bool true, M.kv x, M.ev y])) w') : wpList P ops Q (o :: rest) a w := by
  obtain ⟨D, lf, h1, h2, h3, h4, h5⟩ := h
  refine wpList_next_ranges w hg s hop M.k hM.keyed M.rd M.kv M.ev (fun key l hk => by obtain ⟨x, e, _⟩ := hM.invK key l hk; exact ⟨x, e⟩) (fun v y hv => by obtain ⟨c, e, _⟩ := hM.invV v y hv; exact ⟨c, e⟩) m r (Maps.size D) D lf cnt hs h1 (fun e hl => hDone e (fun x => by rw [← h4]; exact hl _)) ?_
  intro x y l yd w' cnt' hk hl hv hat hrg hlt hgr hsz hen
  obtain ⟨x', ex, rfl, hok⟩ := hM.invK _ _ hk
  have hlx : left x' = true := by rw [← h4]; exact hl
  have hsome := h5 x' hlx
  cases hgx : g x' with
  | none => rw [hgx] at hsome; cases hsome
  | some y' =>
    have hy := (h3 x').2 y' hgx
    rw [hat] at hy
    obtain ⟨yd1, yd2⟩ := yd
    simp only at hy
    subst hy
    have hev := hM.inv _ _ _ hv
    rw [ex, hev] at hen ⊢
    refine hMore x' y' w' cnt' hok hlx hgx ⟨D, _, hrg, h2, h3, fun q => ?_, fun q hq => ?_⟩ hlt hgr hsz hen
    · show (lf (M.kl q) && !(M.kl q).sameKey (M.kl x')) = _
      rw [h4]
      congr 2
      by_cases e : q = x'
      · subst e
        rw [WideAt.sameKey_self (hM.keyed.key hk)]
        simp
      · rw [Maps.sameKey_ne (fun h => e (hM.inj _ _ h))]
        simp [e]
    · simp at hq
      exact h5 q hq.1
end
/- Texts as keys. -/
def klT (s : ByteArray) : Lit := .string s.data.toList
theorem klT_inj (a b : ByteArray) (h : klT a = klT b) : a = b := by
  unfold klT at h
  injection h with h
  cases a; cases b
  simpa using h
theorem klT_inv {P : Program} {k : TypeId} (hk : P.underlying k = some .string) {key : Value} {l : Lit} (h : keyOf P k key = some l) : ∃ x : ByteArray, key = .string x ∧ l = klT x ∧ x.size ≤ maxLen := by
  cases key <;> simp [keyOf, hk, mapKey] at h
  obtain ⟨h1, h2⟩ := h
  exact ⟨_, rfl, h2.symm, h1⟩
end Go.Proofs.YtioeidhblbfgmaaGreat


namespace Go.Proofs.YtioeidhblbfgmaaGreat
open Go.ChangeShapes Go.WideShapes Go.ChangeAt Go.RowKit
set_option linter.unusedVariables false
set_option linter.unusedSimpArgs false

section
variable {P : Program} {α : Type} {enc : α → List Value} {c bytes : Nat} {t e : TypeId} {w w' : World} {B : Nat} {v x : Value} {xs ys : List α}
theorem og_make (he : Enc enc c) (hT : TyG P t e c bytes) (hby : bytes ≤ 1024) (n : Nat) (hn : n ≤ 4096) (w : World) :
    ∃ w', (Instr.makeSlice t (.int .i64 0) (.int .i64 (n : Int))).run P w = .ok (.slice (some ⟨w.heap.size, 0, none⟩) 0 n) w' ∧ Og enc c e w' w.heap.size (.slice (some ⟨w.heap.size, 0, none⟩) 0 n) [] ∧ Kept w w' := by
  obtain ⟨hu, i, z, hi, hz, hs, hb, hc⟩ := hT
  obtain ⟨w', h1, h2, h3⟩ := run_make_own (P := P) w w.heap.size t e i z c hu hi hz hs .i64 .i64 n (by
    rw [hb]
    have : bytes * n ≤ 1024 * 4096 := Nat.mul_le_mul hby hn
    omega) (by unfold maxLen; omega) (Nat.le_refl _)
  exact ⟨w', h1, h2, kept_of h3.os h3.output h3.size (fun i hi => h3.block i hi (by simp))⟩
end
/- A store of what is there already turns nothing. -/
theorem same_store {w : World} {X T o : Nat} {cs : Array Value} {v : Value} (h : At w X cs T) (hv : cs[o]? = some v) : ∀ k : Nat, (w.setCell ⟨X, o, none⟩ v).heap[k]? = w.heap[k]? := by
  intro k
  by_cases e : k = X
  · subst e
    have h2 := at_set h o v
    have : cs.setIfInBounds o v = cs := by
      obtain ⟨h3, h4⟩ := Array.getElem?_eq_some_iff.1 hv
      apply Array.ext
      · simp
      · intro j hj1 hj2
        by_cases ej : j = o
        · subst ej; simp [h4]
        · exact Array.getElem_setIfInBounds_ne _ (fun q => ej q.symm)
    rw [this] at h2
    exact h2.trans h.symm
  · exact Below.heap_setCell _ _ _ _ e
theorem og_at {α : Type} {enc : α → List Value} {c T B q n cap : Nat} {w : World} {xs : List α} (he : Enc enc c) (h : Og enc c T w B (.slice (some ⟨q, 0, none⟩) n cap) xs) : ∃ cs, At w q cs T ∧ ∀ i x j u, xs[i]? = some x → (enc x)[j]? = some u → cs[i * c + j]? = some u := by
  have hh := h
  rcases h.2 with ⟨h1, _⟩ | ⟨g, c2, cur, h1, hb, hg, hc, hm, hs, ht⟩
  · cases h1
  · injection h1 with h1 h2 h3
    injection h1 with h1
    injection h1 with h1
    subst h1
    refine ⟨cur, hg, fun i x j u hx hu => ?_⟩
    have := World.ownsRow.cells hh (g := q) rfl (i * c + j) u (flatE_get he hx hu)
    rw [addr_plus, Nat.zero_add, at_cell hg] at this
    exact this
end Go.Proofs.YtioeidhblbfgmaaGreat


namespace Go.Proofs.YtioeidhblbfgmaaGreat
open Go.ChangeShapes Go.WideShapes Go.ChangeAt Go.RowKit
set_option linter.unusedVariables false
set_option linter.unusedSimpArgs false

theorem setRow_other {w : World} {Z k : Nat} {cs : Array Value} (h : k ≠ Z) : (w.setRow Z cs).heap[k]? = w.heap[k]? := by
  unfold World.setRow
  rw [Array.getElem?_modify, if_neg (Ne.symm h)]
theorem setRow_size (w : World) (Z : Nat) (cs : Array Value) : (w.setRow Z cs).heap.size = w.heap.size := by
  unfold World.setRow
  simp
theorem at_setRow {w : World} {Z : Nat} {cs ds : Array Value} {T : Nat} (h : At w Z ds T) : At (w.setRow Z cs) Z cs T := by
  unfold At World.setRow at *
  rw [Array.getElem?_modify, h]
  simp
theorem kept_setRow {u w : World} (h : Kept u w) {Z : Nat} (hZ : u.heap.size ≤ Z) (cs : Array Value) : Kept u (w.setRow Z cs) :=
  kept_of (show w.os = u.os from kept_os h) (show w.output = u.output from kept_output h) (by rw [setRow_size]; exact h.2) (fun i hi => (setRow_other (by omega)).trans (kept_block h hi))
section
variable {P : Program} {α : Type} {enc : α → List Value} {c bytes : Nat} {t e : TypeId} {w w' : World} {B : Nat} {v x : Value} {xs ys : List α}
theorem made_flat (he : Enc enc c) (z : α) (zc : Array Value) (hz : zc.toList = enc z) (n : Nat) : (madeCells zc (n * c)).toList = flatE enc (List.replicate n z) := by
  have hc0 : zc.size = c := by rw [← Array.length_toList, hz, he.len]
  apply List.ext_getElem?
  intro j
  by_cases hj : j < n * c
  · have hc : 0 < c := by
      rcases Nat.eq_zero_or_pos c with h0 | h0
      · subst h0; omega
      · exact h0
    have hi : j / c < n := (Nat.div_lt_iff_lt_mul hc).2 hj
    have hr : j % c < c := Nat.mod_lt _ hc
    have hu : (enc z)[j % c]? = some zc[j % c]! := by
      rw [← hz, Array.getElem?_toList, Array.getElem?_eq_getElem (by omega), getElem!_pos zc _ (by omega)]
    have h2 := flatE_get he (xs := List.replicate n z) (i := j / c) (x := z) (by rw [List.getElem?_replicate, if_pos hi]) hu
    rw [show j / c * c + j % c = j by rw [Nat.mul_comm]; exact Nat.div_add_mod j c] at h2
    rw [h2, Array.getElem?_toList]
    unfold madeCells
    rw [Array.getElem?_map, Array.getElem?_range, if_pos hj, hc0]
    rfl
  · rw [List.getElem?_eq_none (by rw [Array.length_toList, size_madeCells]; omega), List.getElem?_eq_none (by rw [flatE_len he, List.length_replicate]; omega)]
theorem og_full (he : Enc enc c) {i : TypeInfo} {zv : Value} (hu : P.underlying t = some (.slice e)) (hi : P.info? e = some i) (hz : i.zero = some zv) (hs : i.size = c) (hby : i.bytes ≤ 1024) {z : α} (hze : zv.cells.toList = enc z) (n : Nat) (hn : n ≤ 4096) (w : World) :
    ∃ cs, (Instr.makeSlice t (.int .i64 (n : Int)) (.int .i64 (n : Int))).run P w = .ok (.slice (some ⟨w.heap.size, 0, none⟩) n n) (w.alloc (.cells cs e)) ∧ Og enc c e (w.alloc (.cells cs e)) w.heap.size (.slice (some ⟨w.heap.size, 0, none⟩) n n) (List.replicate n z) := by
  have hb' : (i.bytes : Int) * (n : Int) ≤ 281474976710656 := by
    have h : i.bytes * n ≤ 1024 * 4096 := Nat.mul_le_mul hby hn
    have h2 : ((i.bytes * n : Nat) : Int) ≤ 281474976710656 := by omega
    rwa [Int.natCast_mul] at h2
  have hr := run_make (P := P) w t e i zv hu hi hz .i64 .i64 (n : Int) (n : Int) (by omega) (Int.le_refl _) hb' (by omega)
  simp only [Int.toNat_natCast] at hr
  rw [hs] at hr
  refine ⟨_, hr, ?_⟩
  refine ⟨by rw [flatE_len he], .inr ⟨w.heap.size, n, _, by rw [List.length_replicate], Nat.le_refl _, at_new w _ e, by rw [List.length_replicate]; exact Nat.le_refl _, by unfold maxLen; omega, size_madeCells _ _, ?_⟩⟩
  rw [List.length_replicate, List.take_of_length_le (by rw [Array.length_toList, size_madeCells]; exact Nat.le_refl _)]
  exact made_flat he z zv.cells hze n
theorem og_copy (he : Enc enc c) {i : TypeInfo} (hu : P.underlying t = some (.slice e)) (hi : P.info? e = some i) (hs : i.size = c) {G n : Nat} {zs : List α} {s : Value} (hd : Og enc c e w B (.slice (some ⟨G, 0, none⟩) n n) zs) (hz : zs.length = n) (h : Rg enc c w s xs) (hx : xs.length = n) (ty : TypeId) :
    ∃ cs, (Builtin.copy_ #[t, t] ty #[.slice (some ⟨G, 0, none⟩) n n, s]).run P w = .ok (.int .i64 (n : Int)) (w.setRow G cs) ∧ Og enc c e (w.setRow G cs) B (.slice (some ⟨G, 0, none⟩) n n) xs := by
  rcases hd.2 with ⟨h1, _⟩ | ⟨g, cap, cur, h1, hb, hg, hc1, hc2, hcs, ht⟩
  · cases h1
  injection h1 with h1 h2 h3
  injection h1 with h1
  injection h1 with h1
  subst h1
  rw [hz] at h2
  subst h3
  have hlen : (flatE enc xs).length = n * c := by rw [flatE_len he, hx]
  obtain ⟨a, cap2, rfl, hq1, hq2, hq3, hq4⟩ := h
  have hst := run_storeCells_at P G 0 e (flatE enc xs) 0 cur w hg (by rw [hlen, hcs]; omega) (flatE_ones he xs)
  have ee : (List.take (0 + 0) cur.toList ++ flatE enc xs ++ List.drop (0 + 0 + (flatE enc xs).length) cur.toList).toArray = (flatE enc xs).toArray := by
    rw [List.drop_eq_nil_of_le (by rw [hlen, Array.length_toList, hcs]; omega)]
    simp
  rw [ee] at hst
  have hf : (Builtin.firstCells i.size n (.slice a xs.length cap2)).run P w = .ok (flatE enc xs).toArray w := by
    cases a with
    | none =>
      have : xs = [] := List.eq_nil_of_length_eq_zero (by have := hq3 rfl; omega)
      subst this
      exact run_firstCells_none w _ _ _ _
    | some b =>
      by_cases hp : 0 < xs.length
      · obtain ⟨g, o, e1, hc⟩ := hq4 hp
        injection e1 with e1
        subst e1
        refine run_firstCells_some w i.size n ⟨g, o, none⟩ _ _ (flatE enc xs) (by rw [hlen, hs]) (fun j u hj => ?_)
        obtain ⟨i', j', x', rfl, hx', hu'⟩ := flatE_inv he hj
        rw [addr_plus, ← Nat.add_assoc]
        exact hc i' x' j' u hx' hu'
      · have : xs = [] := List.eq_nil_of_length_eq_zero (by omega)
        subst this
        refine run_firstCells_some w i.size n b _ _ [] (by rw [show n = 0 by simpa using hx.symm]; simp) (fun j u hj => by simp at hj)
  refine ⟨(flatE enc xs).toArray, ?_, ⟨by rw [flatE_len he], .inr ⟨G, n, _, by rw [hx], hb, at_setRow hg, by omega, hc2, by simp [hlen], ?_⟩⟩⟩
  · simp [Builtin.copy_, run_underlying hu, Builtin.lenOf, sizeOf, typeInfo, hi, hx, hst, goInt]
    rw [hx] at hf
    simp [hf, hst]
  · rw [hx]
    exact List.take_of_length_le (by simp [hlen])
theorem rg_turned {b : Nat} (h : Rg enc c w v xs) (t : w.mapTurned w' b) : Rg enc c w' v xs := by
  obtain ⟨a, cap, rfl, h1, h2, h3, h4⟩ := h
  refine ⟨a, cap, rfl, h1, h2, h3, fun hp => ?_⟩
  obtain ⟨g, o, rfl, hc⟩ := h4 hp
  refine ⟨g, o, rfl, fun i x j u hx hu => ?_⟩
  have h5 := hc i x j u hx hu
  obtain ⟨es, clock, hm⟩ := turned_map t
  have hne : g ≠ b := by
    rintro rfl
    unfold World.cell? at h5
    simp [hm] at h5
  exact (World.cell?_of_block (w := w) (turned_block t (gcell_lt h5) hne)).trans h5
end
end Go.Proofs.YtioeidhblbfgmaaGreat


namespace Go.Proofs.YtioeidhblbfgmaaGreat
open Go.ChangeShapes Go.WideShapes Go.ChangeAt Go.RowKit
set_option linter.unusedVariables false
set_option linter.unusedSimpArgs false

/- Only what is one's own may turn. -/
def Tn (F : Nat → Prop) (w w' : World) : Prop := w'.os = w.os ∧ w'.output = w.output ∧ w.heap.size ≤ w'.heap.size ∧ ∀ b, b < w.heap.size → ¬ F b → w'.heap[b]? = w.heap[b]?
/- A call turns what is one's own and new blocks alone. -/
def Sd (F : Nat → Prop) (w : World) (F' : Nat → Prop) (w' : World) : Prop := Tn F w w' ∧ ∀ b, F' b → F b ∨ w.heap.size ≤ b
def Shape (σ : Type) := World → Nat → σ → (Nat → Prop) → Prop
structure ObjIs {σ : Type} (T : Shape σ) : Prop where
  lt : ∀ {w X s F b}, T w X s F → F b → b < w.heap.size
  stay : ∀ {w w' X s F}, T w X s F → (∀ b, F b → w'.heap[b]? = w.heap[b]?) → T w' X s F
/- One as a walk knows it: W is the world ahead of all. -/
structure TT {σ : Type} (T : Shape σ) (W : World) (X : Nat) (s : σ) (F : Nat → Prop) (w : World) : Prop where
  t : T w X s F
  k : Kept W w
  f : ∀ b, F b → W.heap.size ≤ b
def Off (w : World) (F : Nat → Prop) (b : Nat) : Prop := b < w.heap.size ∧ ¬ F b
section
variable {σ : Type} {T : Shape σ} {W w w' : World} {X : Nat} {s s' : σ} {F F' : Nat → Prop} {b : Nat}
theorem sd_kept (k : Kept w w') : Sd F w F w' := ⟨⟨kept_os k, kept_output k, k.2, fun b hb _ => kept_block k hb⟩, fun b hb => .inl hb⟩
theorem off_kept (h : Off w F b) (k : Kept w w') : Off w' F b := ⟨Nat.lt_of_lt_of_le h.1 k.2, h.2⟩
theorem off_sd (h : Off w F b) (s : Sd F w F' w') : Off w' F' b := ⟨Nat.lt_of_lt_of_le h.1 s.1.2.2.1, fun hf => (s.2 b hf).elim h.2 (fun g => by have := h.1; omega)⟩
theorem off_same (h : Off w F b) (s : Sd F w F' w') : w'.heap[b]? = w.heap[b]? := s.1.2.2.2 b h.1 h.2
theorem off_new (hT : ObjIs T) (h : TT T W X s F w) (hb : w.heap.size ≤ b) (hb2 : b < w'.heap.size) : Off w' F b := ⟨hb2, fun hf => by have := hT.lt h.t hf; omega⟩
theorem off_turned {m : Nat} (h : Off w F b) (t : w.mapTurned w' m) : Off w' F b := ⟨Nat.lt_of_lt_of_le h.1 t.grown.size, h.2⟩
theorem off_grown {r : Option Nat} (h : Off w F b) (g : w.grownBy w' r) : Off w' F b := ⟨Nat.lt_of_lt_of_le h.1 g.size, h.2⟩
theorem at_sd {Z U : Nat} {cs : Array Value} (h : At w Z cs U) (o : Off w F Z) (s : Sd F w F' w') : At w' Z cs U := (off_same o s).trans h
theorem tt_kept (hT : ObjIs T) (h : TT T W X s F w) (kk : Kept w w') : TT T W X s F w' := ⟨hT.stay h.t (fun b hb => kept_block kk (hT.lt h.t hb)), kept_trans h.k kk, h.f⟩
theorem tt_sd (h : TT T W X s F w) (ht : T w' X s' F') (d : Sd F w F' w') : TT T W X s' F' w' :=
  ⟨ht, kept_of (d.1.1.trans (kept_os h.k)) (d.1.2.1.trans (kept_output h.k)) (Nat.le_trans h.k.2 d.1.2.2.1) (fun i hi => (d.1.2.2.2 i (Nat.lt_of_lt_of_le hi h.k.2) (fun hf => by have := h.f i hf; omega)).trans (kept_block h.k hi)), fun b hb => (d.2 b hb).elim (h.f b) (fun g => Nat.le_trans h.k.2 g)⟩
theorem tt_turned (hT : ObjIs T) (h : TT T W X s F w) {m : Nat} (hm : Off w F m) (hw : W.heap.size ≤ m) (t : w.mapTurned w' m) : TT T W X s F w' :=
  ⟨hT.stay h.t (fun b hb => turned_block t (hT.lt h.t hb) (fun e => hm.2 (e ▸ hb))), kept_turned h.k hw t, h.f⟩
theorem tt_grown (hT : ObjIs T) (h : TT T W X s F w) {r : Option Nat} (hr : ∀ q, r = some q → Off w F q ∧ W.heap.size ≤ q) (g : w.grownBy w' r) : TT T W X s F w' :=
  ⟨hT.stay h.t (fun b hb => g.block b (hT.lt h.t hb) (fun e => (hr b e.symm).1.2 hb)), kept_gr h.k g (fun j hj => (hr j hj).2), h.f⟩
theorem tt_off (h : TT T W X s F w) {b : Nat} (hb : b < W.heap.size) : Off w F b := ⟨Nat.lt_of_lt_of_le hb h.k.2, fun hf => by have := h.f b hf; omega⟩
/- A row apart from one. -/
theorem og_sd {α : Type} {enc : α → List Value} {c U : Nat} {v : Value} {xs : List α} {B : Nat} (h : Og enc c U w B v xs) (hF : ∀ g, v.ownBlock = some g → ¬ F g) (d : Sd F w F' w') : Og enc c U w' B v xs := og_block h (fun g cur hg ha => d.1.2.2.2 g (at_lt ha) (hF g hg))
theorem apart_sd {α : Type} {enc : α → List Value} {c U : Nat} {v : Value} {xs : List α} {B : Nat} (h : Og enc c U w B v xs) (hF : ∀ g, v.ownBlock = some g → ¬ F g) (d : Sd F w F' w') : ∀ g, v.ownBlock = some g → ¬ F' g := fun g hg hf => (d.2 g hf).elim (hF g hg) (fun q => by have := (World.ownsRow.lt h g hg).2; omega)
theorem apart_new (hT : ObjIs T) (ht : T w X s F) {α : Type} {enc : α → List Value} {c U B : Nat} {u : World} {v : Value} {xs : List α} (h : Og enc c U u B v xs) (hB : w.heap.size ≤ B) : ∀ g, v.ownBlock = some g → ¬ F g := fun g hg hf => by have := hT.lt ht hf; have := og_lt h hg; omega
end
end Go.Proofs.YtioeidhblbfgmaaGreat
