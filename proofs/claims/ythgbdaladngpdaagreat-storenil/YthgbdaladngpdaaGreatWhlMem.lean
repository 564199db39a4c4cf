/- A wheel in memory: its object of 65 cells, its rows of items, its map of ids and places. No condition. -/
import Derived.Test.YthgbdaladngpdaaGreatWhlLies
import Derived.Maps.OwnSet
import Derived.Laws.AppendOwn
import Derived.BigQuiet
namespace Go.Proofs.YthgbdaladngpdaaGreat.Whl
open Go.ChangeShapes Go.WideShapes Go.ChangeAt Go.RowKit
set_option linter.unusedVariables false
set_option maxRecDepth 100000
set_option linter.unusedSimpArgs false

theorem says_int {x y : Int} (e : x = y) : Ending.returned (.int .i64 x) = Ending.returned (.int .i64 y) := congrArg (fun z => Ending.returned (.int .i64 z)) e
theorem says_bool {x y : Bool} (e : x = y) : Ending.returned (.bool x) = Ending.returned (.bool y) := congrArg (fun z => Ending.returned (.bool z)) e
theorem kept_drewN {W w : World} (h : Kept W w) (n : Nat) : Kept W (w.drewN n) := h
theorem at_cells2 {w : World} {X T : Nat} {a0 a1 : Value} (h : At w X #[a0, a1] T) : w.cell? ⟨X, 0, none⟩ = some a0 ∧ w.cell? ⟨X, 1, none⟩ = some a1 ∧ ∀ j, w.frozen? ⟨X, j, none⟩ = false := ⟨at_cell h 0, at_cell h 1, at_frozen h⟩
/- Items as cells. -/
def iw (l : List It) : List Value := l.flatMap (fun x => [.int .u64 x.1, .int .i64 x.2])
theorem iw_cons (x : It) (l : List It) : iw (x :: l) = .int .u64 x.1 :: .int .i64 x.2 :: iw l := rfl
theorem iw_len : ∀ l : List It, (iw l).length = l.length * 2
  | [] => rfl
  | x :: l => by rw [iw_cons]; simp [iw_len l]; omega
theorem iw_app (l : List It) (x : It) : iw (l ++ [x]) = iw l ++ [.int .u64 x.1, .int .i64 x.2] := by unfold iw; simp
theorem iw_get : ∀ {l : List It} {i : Nat} {x : It}, l[i]? = some x → (iw l)[i * 2]? = some (.int .u64 x.1) ∧ (iw l)[i * 2 + 1]? = some (.int .i64 x.2)
  | [], i, x, h => by simp at h
  | y :: l, 0, x, h => by simp at h; subst h; exact ⟨rfl, rfl⟩
  | y :: l, i + 1, x, h => by
    simp at h
    have := iw_get h
    rw [iw_cons, show (i + 1) * 2 = i * 2 + 2 by omega]
    exact this
theorem iw_set : ∀ (l : List It) (i : Nat) (x : It), ((iw l).set (i * 2) (.int .u64 x.1)).set (i * 2 + 1) (.int .i64 x.2) = iw (l.set i x)
  | [], i, x => rfl
  | y :: l, 0, x => rfl
  | y :: l, i + 1, x => by
    rw [iw_cons, show (i + 1) * 2 = i * 2 + 2 by omega]
    simp only [List.set_cons_succ]
    rw [iw_cons, ← iw_set l i x]
theorem iw_take : ∀ (l : List It) (e : Nat), (iw l).take (e * 2) = iw (l.take e)
  | [], e => by simp [iw]
  | y :: l, 0 => rfl
  | y :: l, e + 1 => by
    rw [iw_cons, show (e + 1) * 2 = e * 2 + 2 by omega]
    simp only [List.take_succ_cons]
    rw [iw_cons, ← iw_take l e]
def Row (w : World) (v : Value) (l : List It) : Prop := w.ownsRow 0 123 2 v l.length (iw l)
def set2 (w : World) (q o : Nat) (a b : Value) : World := (w.setCell ⟨q, o, none⟩ a).setCell ⟨q, o + 1, none⟩ b
section
variable {w w' : World} {v : Value} {l : List It}
theorem row_block (h : Row w v l) (k : ∀ q cs, v.ownBlock = some q → At w q cs 123 → w'.heap[q]? = w.heap[q]?) : Row w' v l := by
  refine ⟨h.1, ?_⟩
  rcases h.2 with hn | ⟨q, cap, cur, rfl, hb, hg, rest⟩
  · exact .inl hn
  · exact .inr ⟨q, cap, cur, rfl, hb, (k q cur rfl hg).trans hg, rest⟩
theorem row_at (h : Row w v l) {q : Nat} (hq : v.ownBlock = some q) : ∃ cs, At w q cs 123 := by
  rcases h.2 with ⟨rfl, _⟩ | ⟨g, cap, cur, rfl, hb, hg, rest⟩
  · cases hq
  · injection hq with hq; subst hq; exact ⟨cur, hg⟩
theorem row_kept (h : Row w v l) (k : Kept w w') : Row w' v l := row_block h (fun q cs _ ha => kept_block k (at_lt ha))
theorem row_none (w : World) : Row w (.slice none 0 0) [] := World.ownsRow_nil w 0 123 2
theorem row_is (h : Row w v l) : ∃ a cap, v = .slice a l.length cap := by
  rcases h.2 with ⟨rfl, hn⟩ | ⟨g, cap, cur, rfl, _⟩
  · exact ⟨none, 0, by rw [hn]⟩
  · exact ⟨_, cap, rfl⟩
theorem row_some (h : Row w v l) (h0 : 0 < l.length) : ∃ q cap, v = .slice (some ⟨q, 0, none⟩) l.length cap ∧ l.length ≤ cap ∧ cap ≤ maxLen := by
  rcases h.2 with ⟨rfl, hn⟩ | ⟨g, cap, cur, rfl, _, _, hc, hm, _⟩
  · omega
  · exact ⟨g, cap, rfl, hc, hm⟩
theorem row_cells {q n cap : Nat} (h : Row w (.slice (some ⟨q, 0, none⟩) n cap) l) {i : Nat} {x : It} (hx : l[i]? = some x) : w.cell? ⟨q, i * 2, none⟩ = some (.int .u64 x.1) ∧ w.cell? ⟨q, i * 2 + 1, none⟩ = some (.int .i64 x.2) ∧ ∀ j, w.frozen? ⟨q, j, none⟩ = false := by
  rcases h.2 with ⟨h1, _⟩ | ⟨g, c2, cur, h1, hb, hg, hc, hm, hs, ht⟩
  · cases h1
  · injection h1 with h1 h2 h3
    injection h1 with h1
    injection h1 with h1
    subst h1
    obtain ⟨g0, g1⟩ := iw_get hx
    rw [← ht] at g0 g1
    have hl := lt_of_some hx
    rw [List.getElem?_take, if_pos (by omega)] at g0 g1
    exact ⟨(at_cell hg _).trans (by simpa using g0), (at_cell hg _).trans (by simpa using g1), at_frozen hg⟩
theorem row_set {q n cap : Nat} (h : Row w (.slice (some ⟨q, 0, none⟩) n cap) l) {i : Nat} (hi : i < l.length) (x : It) : Row (set2 w q (i * 2) (.int .u64 x.1) (.int .i64 x.2)) (.slice (some ⟨q, 0, none⟩) n cap) (l.set i x) := by
  refine ⟨by rw [iw_len], ?_⟩
  rcases h.2 with ⟨h1, _⟩ | ⟨g, c2, cur, h1, hb, hg, hc, hm, hs, ht⟩
  · cases h1
  · injection h1 with h1 h2 h3
    injection h1 with h1
    injection h1 with h1
    subst h1 h2 h3
    refine .inr ⟨q, cap, _, by rw [List.length_set], hb, at_set (at_set hg _ _) _ _, by rw [List.length_set]; exact hc, hm, by simpa using hs, ?_⟩
    rw [List.length_set]
    simp only [Array.toList_setIfInBounds]
    rw [List.take_set, List.take_set, ht, iw_set]
theorem row_cut {q n cap : Nat} (h : Row w (.slice (some ⟨q, 0, none⟩) n cap) l) {e : Nat} (he : e ≤ l.length) : Row w (.slice (some ⟨q, 0, none⟩) e cap) (l.take e) := by
  refine ⟨by rw [iw_len], ?_⟩
  rcases h.2 with ⟨h1, _⟩ | ⟨g, c2, cur, h1, hb, hg, hc, hm, hs, ht⟩
  · cases h1
  · injection h1 with h1 h2 h3
    injection h1 with h1
    injection h1 with h1
    subst h1 h2 h3
    have hl : (l.take e).length = e := by simp; omega
    refine .inr ⟨q, cap, cur, by rw [hl], hb, hg, by omega, hm, hs, ?_⟩
    rw [hl, ← iw_take, ← ht, List.take_take]
    congr 1
    omega
end
/- The map of ids and places. -/
def pv (p : Nat × Nat) : Value := .agg #[.int .i64 (p.1 : Int), .int .i64 (p.2 : Int)]
def pd (a b : Int) : DataW Unit := .agg [.lit (.int .i64 a), .lit (.int .i64 b)]
def rp (v : Value) : Option (DataW Unit × List MemPlace) :=
  match v with
  | .agg xs => match xs.toList with
    | [.int .i64 a, .int .i64 b] => some (pd a b, [])
    | _ => none
  | _ => none
theorem rp_mk (a b : Int) : rp (.agg #[.int .i64 a, .int .i64 b]) = some (pd a b, []) := rfl
theorem rp_inv {v : Value} {a b : Int} {ps : List MemPlace} (h : rp v = some (pd a b, ps)) : v = .agg #[.int .i64 a, .int .i64 b] := by
  unfold rp at h
  split at h
  · rename_i xs
    split at h
    · rename_i a' b' hx
      injection h with h
      injection h with h _
      unfold pd at h
      injection h with h
      injection h with h1 h2
      injection h1 with h1
      injection h1 with _ h1
      injection h2 with h2
      injection h2 with h2
      injection h2 with _ h2
      subst h1 h2
      congr 1
      exact Array.toList_inj.1 hx
    · cases h
  · cases h
def ki (i : Int) : Lit := .int .i64 i
theorem ki_ne {a b : Int} (h : a ≠ b) : ki a ≠ ki b := fun e => h (by unfold ki at e; injection e)
theorem zero57 (w : World) : (zeroValue 126).run Tryz.prog w = .ok (.agg #[.int .i64 0, .int .i64 0]) w := by kernel_rfl
theorem keyed3 : Maps.Keyed Tryz.prog 3 := Maps.int_keyed Tryz.underlying3
def Wf (k : Int) : Prop := (Lit.int .i64 k).wf = true
def Wu (k : Int) : Prop := (Lit.int .u64 k).wf = true
theorem key3 {k : Int} (h : Wf k) : keyOf Tryz.prog 3 (.int .i64 k) = some (ki k) := Maps.keyOf_int_mk Tryz.underlying3 h
def Whr (w : World) (m : Nat) (g : Int → Option (Nat × Nat)) (c : Nat) : Prop :=
  ∃ D : DataW Unit, w.ownsMap Tryz.prog 3 rp m (Maps.size D) D ∧ Maps.size D = c ∧ ∀ k : Int, Maps.has D (ki k) = (g k).isSome ∧ ∀ p, g k = some p → D.atKey (ki k) (pd 0 0) = pd (p.1 : Int) (p.2 : Int)
theorem owns_fit {w : World} {b n : Nat} {D : DataW Unit} {Q : Value → Option (DataW Unit × List MemPlace)} (h : w.ownsMap Tryz.prog 3 Q b n D) : w.ownsMap Tryz.prog 3 Q b (Maps.size D) D := by
  obtain ⟨es, clock, hb, F, hs, rfl⟩ := h
  exact ⟨es, clock, hb, F, by simp [Maps.size, length_sorted], rfl⟩
section
variable {W w w' : World} {b m c : Nat} {g : Int → Option (Nat × Nat)}
theorem turned_block (h : w.mapTurned w' b) {i : Nat} (hi : i < w.heap.size) (hn : i ≠ b) : w'.heap[i]? = w.heap[i]? := h.grown.block i hi (fun e => hn (Option.some.inj e))
theorem turned_map (h : w.mapTurned w' b) : ∃ es clock, w.heap[b]? = some (.map es clock) := by
  obtain ⟨es, clock, _, _, hb, _⟩ := h
  exact ⟨es, clock, hb⟩
theorem at_map {X T : Nat} {cs : Array Value} (h : At w X cs T) {es : Array MapEntry} {clock : Nat} (g : w.heap[b]? = some (.map es clock)) : X ≠ b := by
  rintro rfl
  unfold At at h
  rw [h] at g
  cases g
theorem at_turned {X T : Nat} {cs : Array Value} (h : At w X cs T) (t : w.mapTurned w' b) : At w' X cs T := by
  obtain ⟨es, clock, g⟩ := turned_map t
  exact (turned_block t (at_lt h) (at_map h g)).trans h
theorem row_turned {v : Value} {l : List It} (h : Row w v l) (t : w.mapTurned w' b) : Row w' v l := by
  obtain ⟨es, clock, g⟩ := turned_map t
  exact row_block h (fun i cur _ ha => turned_block t (at_lt ha) (at_map ha g))
theorem owns_block {D : DataW Unit} {k : TypeId} {Q : Value → Option (DataW Unit × List MemPlace)} {n : Nat} (h : w.ownsMap Tryz.prog k Q b n D) (e : w'.heap[b]? = w.heap[b]?) : w'.ownsMap Tryz.prog k Q b n D := by
  obtain ⟨es, clock, hb, r⟩ := h
  exact ⟨es, clock, e.trans hb, r⟩
theorem whr_block (h : Whr w m g c) (e : w'.heap[m]? = w.heap[m]?) : Whr w' m g c := by
  obtain ⟨D, h1, h2⟩ := h
  exact ⟨D, owns_block h1 e, h2⟩
theorem whr_is (h : Whr w m g c) : ∃ es clock, w.heap[m]? = some (.map es clock) := by
  obtain ⟨D, ⟨es, clock, hb, _⟩, _⟩ := h
  exact ⟨es, clock, hb⟩
theorem whr_lt (h : Whr w m g c) : m < w.heap.size := by
  obtain ⟨D, h1, _⟩ := h
  exact h1.lt
theorem whr_made (w : World) : Whr (w.alloc (.map #[] 0)) w.heap.size (fun _ => none) 0 :=
  ⟨.map [], World.ownsMap_made w Tryz.prog 3 _, rfl, fun s => ⟨rfl, fun v h => by cases h⟩⟩
theorem whr_look (h : Whr w m g c) {k : Int} (hk : Wf k) : (Instr.lookup 119 (.map (some m)) (.int .i64 k) true).run Tryz.prog w = .ok (.tuple #[pv ((g k).getD (0, 0)), .bool (g k).isSome]) w := by
  obtain ⟨D, h1, h2, h3⟩ := h
  obtain ⟨v, ps, hrun, hv⟩ := h1.look_ok keyed3 Tryz.underlying119 (zero57 w) (rp_mk 0 0) (key3 hk)
  obtain ⟨g1, g2⟩ := h3 k
  rw [hrun, g1]
  cases e : g k with
  | none =>
    rw [e] at g1
    rw [Maps.atKey_of_not_has g1] at hv
    rw [rp_inv hv]; rfl
  | some y =>
    rw [g2 y e] at hv
    rw [rp_inv hv]; rfl
theorem whr_len (h : Whr w m g c) (ty : TypeId) : (Builtin.len_ #[119] ty #[.map (some m)]).run Tryz.prog w = .ok (.int .i64 (c : Int)) w := by
  obtain ⟨D, h1, h2, h3⟩ := h
  rw [h1.len Tryz.underlying119 ty, h2]
theorem whr_put (h : Whr w m g c) (hn : c ≤ 100000) {k : Int} (hk : Wf k) (p : Nat × Nat) :
    ∃ w', (Instr.mapUpdate 119 (.map (some m)) (.int .i64 k) (.agg #[.int .i64 (p.1 : Int), .int .i64 (p.2 : Int)])).run Tryz.prog w = .ok () w' ∧ Whr w' m (updM g k p) (c + if g k = none then 1 else 0) ∧ w.mapTurned w' m := by
  obtain ⟨D, h1, h2, h3⟩ := h
  obtain ⟨w', hrun, g1, g2⟩ := h1.store keyed3 Tryz.underlying119 (by rw [h2]; unfold maxLen; omega) (key3 hk) (rp_mk (p.1 : Int) (p.2 : Int))
  have hI : WideAt.IsKeyLit (ki k) := keyed3.key (key3 hk)
  refine ⟨w', hrun, ⟨_, owns_fit g1, ?_, fun q => ?_⟩, g2⟩
  · rw [Maps.size_put (h1.tidy keyed3), (h3 k).1, h2]
    cases e : g k with
    | none => simp
    | some y => simp
  · by_cases e : q = k
    · subst e
      rw [updM_at, Maps.has_put_same h1.isMap hI]
      refine ⟨rfl, fun y hy => ?_⟩
      injection hy with hy
      rw [Maps.atKey_put_same h1.isMap hI, hy]
    · rw [updM_ne _ _ e, Maps.has_put_other (ki_ne e)]
      exact ⟨(h3 q).1, fun y hy => by rw [Maps.atKey_put_other (ki_ne e)]; exact (h3 q).2 y hy⟩
theorem whr_del (h : Whr w m g c) {k : Int} (hk : Wf k) (ty : TypeId) :
    ∃ w', (Builtin.delete_ #[119, 3] ty #[.map (some m), .int .i64 k]).run Tryz.prog w = .ok (.tuple #[]) w' ∧ (∀ c', c' + (if g k = none then 0 else 1) = c → Whr w' m (delM g k) c') ∧ w.mapTurned w' m := by
  obtain ⟨D, h1, h2, h3⟩ := h
  obtain ⟨w', hrun, g1, g2⟩ := h1.drop keyed3 Tryz.underlying119 (key3 hk) ty
  have hI : WideAt.IsKeyLit (ki k) := keyed3.key (key3 hk)
  refine ⟨w', hrun, fun c' hc' => ⟨_, owns_fit g1, ?_, fun q => ?_⟩, g2⟩
  · have := Maps.size_del (k := ki k) (h1.tidy keyed3)
    rw [(h3 k).1, h2] at this
    cases e : g k with
    | none => rw [e] at hc' this; simp at hc' this; omega
    | some y => rw [e] at hc' this; simp at hc' this; omega
  · by_cases e : q = k
    · subst e
      have e0 : delM g q q = none := by simp [delM]
      rw [e0]
      exact ⟨Maps.has_del_same, fun y hy => by cases hy⟩
    · rw [delM_ne _ e, Maps.has_del_other (ki_ne e)]
      exact ⟨(h3 q).1, fun y hy => by rw [Maps.atKey_del_other (ki_ne e)]; exact (h3 q).2 y hy⟩
end
/- Blocks of one's own may have turned, all else that was there stands. -/
def Tn (F : Nat → Prop) (w w' : World) : Prop :=
  w'.os = w.os ∧ w'.output = w.output ∧ w.heap.size ≤ w'.heap.size ∧ ∀ k, k < w.heap.size → ¬ F k → w'.heap[k]? = w.heap[k]?
section
variable {F : Nat → Prop} {u v w w' : World}
theorem tn_kept (h : Kept w w') : Tn F w w' := ⟨kept_os h, kept_output h, h.2, fun k hk _ => kept_block h hk⟩
theorem tn_refl : Tn F w w := tn_kept (kept_refl w)
theorem tn_trans (h : Tn F u v) (k : Tn F v w) : Tn F u w :=
  ⟨k.1.trans h.1, k.2.1.trans h.2.1, Nat.le_trans h.2.2.1 k.2.2.1, fun i hi hn => (k.2.2.2 i (Nat.lt_of_lt_of_le hi h.2.2.1) hn).trans (h.2.2.2 i hi hn)⟩
theorem tn_set (h : Tn F u w) {X : Nat} (hX : F X ∨ u.heap.size ≤ X) (o : Nat) (x : Value) : Tn F u (w.setCell ⟨X, o, none⟩ x) :=
  ⟨h.1, h.2.1, by simpa [World.setCell] using h.2.2.1, fun k hk hn => (Below.heap_setCell _ _ _ _ (by
    show k ≠ X
    rintro rfl
    rcases hX with hX | hX
    · exact hn hX
    · omega)).trans (h.2.2.2 k hk hn)⟩
theorem tn_set2 (h : Tn F u w) {X : Nat} (hX : F X ∨ u.heap.size ≤ X) (o : Nat) (a b : Value) : Tn F u (set2 w X o a b) := tn_set (tn_set h hX _ _) hX _ _
theorem tn_alloc (h : Tn F u w) (o : Obj) : Tn F u (w.alloc o) := tn_trans h (tn_kept (kept_alloc (kept_refl w) o))
theorem tn_turned {m : Nat} (h : Tn F u w) (hm : F m) (t : w.mapTurned w' m) : Tn F u w' := by
  have g := t.grown
  refine tn_trans h ⟨g.os, g.output, g.size, fun k hk hn => turned_block t hk (fun e => hn (by rw [e]; exact hm))⟩
theorem at_tn {X T : Nat} {cs : Array Value} (h : At w X cs T) (t : Tn F w w') (hX : ¬ F X) : At w' X cs T := (t.2.2.2 X (at_lt h) hX).trans h
theorem kept_tn {W : World} (h : Kept W w) (hF : ∀ k, F k → W.heap.size ≤ k) (t : Tn F w w') : Kept W w' :=
  kept_of (t.1.trans (kept_os h)) (t.2.1.trans (kept_output h)) (Nat.le_trans h.2 t.2.2.1) (fun i hi => (t.2.2.2 i (Nat.lt_of_lt_of_le hi h.2) (fun hf => by have := hF i hf; omega)).trans (kept_block h hi))
end
structure Wm (w : World) (F : Nat → Prop) (X m : Nat) (V : Nat → Value) (L : Nat → List It) (g : Int → Option (Nat × Nat)) (c : Nat) : Prop where
  obj : ∃ cs, At w X cs 121 ∧ cs.size = 65 ∧ (∀ b, b < 64 → cs[b]? = some (V b)) ∧ cs[64]? = some (.map (some m))
  map : Whr w m g c
  row : ∀ b, b < 64 → Row w (V b) (L b)
  apart : ∀ b d q, b < 64 → d < 64 → (V b).ownBlock = some q → (V d).ownBlock = some q → b = d
  fX : F X
  fm : F m
  fV : ∀ b q, b < 64 → (V b).ownBlock = some q → F q
  low : ∀ k, F k → k < w.heap.size
section
variable {w w' : World} {F : Nat → Prop} {X m c : Nat} {V : Nat → Value} {L : Nat → List It} {g : Int → Option (Nat × Nat)}
theorem wm_kept (h : Wm w F X m V L g c) (k : Kept w w') : Wm w' F X m V L g c := by
  obtain ⟨cs, h1, h2⟩ := h.obj
  exact ⟨⟨cs, at_kept h1 k, h2⟩, whr_block h.map (kept_block k (whr_lt h.map)), fun b hb => row_kept (h.row b hb) k, h.apart, h.fX, h.fm, h.fV, fun j hj => Nat.lt_of_lt_of_le (h.low j hj) k.2⟩
theorem wm_low (h : Wm w F X m V L g c) : X < w.heap.size ∧ m < w.heap.size ∧ ∀ b q, b < 64 → (V b).ownBlock = some q → q < w.heap.size := by
  obtain ⟨cs, h1, h2⟩ := h.obj
  refine ⟨at_lt h1, whr_lt h.map, fun b q hb hq => ?_⟩
  obtain ⟨ds, h3⟩ := row_at (h.row b hb) hq
  exact at_lt h3
theorem wm_cell (h : Wm w F X m V L g c) {b : Nat} (hb : b < 64) : w.cell? ⟨X, b, none⟩ = some (V b) ∧ w.cell? ⟨X, 64, none⟩ = some (.map (some m)) ∧ ∀ j, w.frozen? ⟨X, j, none⟩ = false := by
  obtain ⟨cs, h1, h2, h3, h4⟩ := h.obj
  exact ⟨(at_cell h1 _).trans (h3 b hb), (at_cell h1 _).trans h4, at_frozen h1⟩
theorem wm_map (h : Wm w F X m V L g c) : w.cell? ⟨X, 64, none⟩ = some (.map (some m)) := (wm_cell h (b := 0) (by omega)).2.1
/- What is stored elsewhere. -/
theorem wm_setP (h : Wm w F X m V L g c) {P : Nat} (hP : ¬ F P) (o : Nat) (v : Value) : Wm (w.setCell ⟨P, o, none⟩ v) F X m V L g c := by
  have hh : ∀ k, F k → (w.setCell ⟨P, o, none⟩ v).heap[k]? = w.heap[k]? := fun k hk => Below.heap_setCell _ _ _ _ (by show k ≠ P; rintro rfl; exact hP hk)
  obtain ⟨cs, h1, h2⟩ := h.obj
  exact ⟨⟨cs, (hh X h.fX).trans h1, h2⟩, whr_block h.map (hh m h.fm), fun b hb => row_block (h.row b hb) (fun q _ hq _ => hh q (h.fV b q hb hq)), h.apart, h.fX, h.fm, h.fV, fun j hj => by simpa [World.setCell] using h.low j hj⟩
/- An item stored. -/
theorem wm_set (h : Wm w F X m V L g c) {b i : Nat} (hb : b < 64) (hi : i < (L b).length) {q n cap : Nat} (hv : V b = .slice (some ⟨q, 0, none⟩) n cap) (x : It) :
    Wm (set2 w q (i * 2) (.int .u64 x.1) (.int .i64 x.2)) F X m V (upd L b ((L b).set i x)) g c := by
  have hr := h.row b hb
  have hq : (V b).ownBlock = some q := by rw [hv]; rfl
  obtain ⟨ds, hds⟩ := row_at hr hq
  obtain ⟨cs, h1, h2⟩ := h.obj
  obtain ⟨es, clock, hmp⟩ := whr_is h.map
  have hX := at_ne h1 hds (by decide)
  have hM := at_map hds hmp
  have hh : ∀ k, k ≠ q → (set2 w q (i * 2) (.int .u64 x.1) (.int .i64 x.2)).heap[k]? = w.heap[k]? := fun k hk => (Below.heap_setCell _ _ _ _ hk).trans (Below.heap_setCell _ _ _ _ hk)
  refine ⟨⟨cs, (hh X hX).trans h1, h2⟩, whr_block h.map (hh m (Ne.symm hM)), fun d hd => ?_, h.apart, h.fX, h.fm, h.fV, fun j hj => by simpa [set2, World.setCell] using h.low j hj⟩
  by_cases e : d = b
  · subst e
    rw [upd_at]
    rw [hv] at hr ⊢
    exact row_set hr hi x
  · rw [upd_ne _ _ e]
    exact row_block (h.row d hd) (fun p _ hp _ => hh p (by rintro rfl; exact e (h.apart d b p hd hb hp hq)))
/- The map turned. -/
theorem wm_turned (h : Wm w F X m V L g c) (t : w.mapTurned w' m) {g' : Int → Option (Nat × Nat)} {c' : Nat} (hw : Whr w' m g' c') : Wm w' F X m V L g' c' := by
  obtain ⟨cs, h1, h2⟩ := h.obj
  exact ⟨⟨cs, at_turned h1 t, h2⟩, hw, fun b hb => row_turned (h.row b hb) t, h.apart, h.fX, h.fm, h.fV, fun j hj => Nat.lt_of_lt_of_le (h.low j hj) t.grown.size⟩
/- A bucket's row stored. -/
theorem wm_store (h : Wm w F X m V L g c) {b : Nat} (hb : b < 64) {v : Value} {l : List It} (hr : Row w v l) (hq : ∀ q, v.ownBlock = some q → F q ∧ ∀ d, d < 64 → d ≠ b → (V d).ownBlock ≠ some q) :
    Wm (w.setCell ⟨X, b, none⟩ v) F X m (upd V b v) (upd L b l) g c := by
  obtain ⟨cs, h1, h2, h3, h4⟩ := h.obj
  obtain ⟨es, clock, hmp⟩ := whr_is h.map
  have hM := at_map h1 hmp
  have hh : ∀ k, k ≠ X → (w.setCell ⟨X, b, none⟩ v).heap[k]? = w.heap[k]? := fun k hk => Below.heap_setCell _ _ _ _ hk
  refine ⟨⟨_, at_set h1 _ _, by simpa using h2, fun d hd => ?_, ?_⟩, whr_block h.map (hh m (Ne.symm hM)), fun d hd => ?_, ?_, h.fX, h.fm, ?_, fun j hj => by simpa [World.setCell] using h.low j hj⟩
  · rw [Array.getElem?_setIfInBounds]
    by_cases e : b = d
    · rw [if_pos e, if_pos (by omega), ← e, upd_at]
    · rw [if_neg e, upd_ne _ _ (Ne.symm e)]; exact h3 d hd
  · rw [Array.getElem?_setIfInBounds, if_neg (by omega)]; exact h4
  · by_cases e : d = b
    · subst e
      rw [upd_at, upd_at]
      exact row_block hr (fun q ds _ ha => hh q (Ne.symm (at_ne h1 ha (by decide))))
    · rw [upd_ne _ _ e, upd_ne _ _ e]
      exact row_block (h.row d hd) (fun q ds _ ha => hh q (Ne.symm (at_ne h1 ha (by decide))))
  · intro a d q ha hd h5 h6
    by_cases ea : a = b
    · by_cases ed : d = b
      · omega
      · subst ea
        rw [upd_at] at h5
        rw [upd_ne _ _ ed] at h6
        exact absurd h6 ((hq q h5).2 d hd ed)
    · by_cases ed : d = b
      · subst ed
        rw [upd_at] at h6
        rw [upd_ne _ _ ea] at h5
        exact absurd h5 ((hq q h6).2 a ha ea)
      · rw [upd_ne _ _ ea] at h5
        rw [upd_ne _ _ ed] at h6
        exact h.apart a d q ha hd h5 h6
  · intro d q hd h5
    by_cases e : d = b
    · subst e; rw [upd_at] at h5; exact (hq q h5).1
    · rw [upd_ne _ _ e] at h5; exact h.fV d q hd h5
/- .. a beginning of it. -/
theorem wm_cut (h : Wm w F X m V L g c) {b e : Nat} (hb : b < 64) {q n cap : Nat} (hv : V b = .slice (some ⟨q, 0, none⟩) n cap) (he : e ≤ (L b).length) :
    Wm (w.setCell ⟨X, b, none⟩ (.slice (some ⟨q, 0, none⟩) e cap)) F X m (upd V b (.slice (some ⟨q, 0, none⟩) e cap)) (upd L b ((L b).take e)) g c := by
  have hr := h.row b hb
  have hq : (V b).ownBlock = some q := by rw [hv]; rfl
  rw [hv] at hr
  refine wm_store h hb (row_cut hr he) (fun p hp => ?_)
  injection hp with hp
  subst hp
  exact ⟨h.fV b _ hb hq, fun d hd hn h5 => hn (h.apart d b _ hd hb h5 hq)⟩
end
end Go.Proofs.YthgbdaladngpdaaGreat.Whl
