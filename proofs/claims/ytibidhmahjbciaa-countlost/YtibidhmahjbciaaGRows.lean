/- Rows of anything that lies in memory as so many cells each: rows that are read (Rg), rows of one's own (Og), and what append leaves of them. The rows have at most 4096 members where they are appended to. -/
import Derived.Test.YtibidhmahjbciaaState
import Derived.Laws.AppendOwn
import Derived.Maps.AppendAt
import Derived.Deep.MidRow
namespace Go.Proofs.Ytibidhmahjbciaa
open Go.ChangeShapes Go.WideShapes Go.ChangeAt Go.RowKit
set_option linter.unusedVariables false
set_option linter.unusedSimpArgs false

/- How a thing lies: as c cells. -/
structure Enc {α : Type} (enc : α → List Value) (c : Nat) : Prop where
  pos : 0 < c
  len : ∀ x, (enc x).length = c
  one : ∀ x, ∀ v ∈ enc x, v.oneCell' = true
def flatE {α : Type} (enc : α → List Value) (xs : List α) : List Value := xs.flatMap enc
section
variable {α : Type} {enc : α → List Value} {c : Nat}
theorem flatE_nil : flatE enc [] = [] := rfl
theorem flatE_cons (x : α) (xs : List α) : flatE enc (x :: xs) = enc x ++ flatE enc xs := rfl
theorem flatE_app (xs ys : List α) : flatE enc (xs ++ ys) = flatE enc xs ++ flatE enc ys := by unfold flatE; simp
theorem flatE_one (x : α) : flatE enc [x] = enc x := by unfold flatE; simp
theorem flatE_len (he : Enc enc c) (xs : List α) : (flatE enc xs).length = xs.length * c := by
  induction xs with
  | nil => simp [flatE]
  | cons x xs ih => rw [flatE_cons, List.length_append, ih, he.len, List.length_cons, Nat.add_mul, Nat.one_mul]; omega
theorem flatE_ones (he : Enc enc c) (xs : List α) : ∀ v ∈ flatE enc xs, v.oneCell' = true := by
  intro v hv
  unfold flatE at hv
  obtain ⟨x, _, h⟩ := List.mem_flatMap.1 hv
  exact he.one x v h
theorem flatE_get (he : Enc enc c) : ∀ {xs : List α} {i j : Nat} {x : α} {u : Value}, xs[i]? = some x → (enc x)[j]? = some u → (flatE enc xs)[i * c + j]? = some u
  | [], i, j, x, u, h, _ => by simp at h
  | y :: xs, 0, j, x, u, h, hu => by
    simp at h
    subst h
    have hj := (List.getElem?_eq_some_iff.1 hu).1
    rw [flatE_cons, Nat.zero_mul, Nat.zero_add, List.getElem?_append_left hj]
    exact hu
  | y :: xs, i + 1, j, x, u, h, hu => by
    simp at h
    rw [flatE_cons, show (i + 1) * c + j = (enc y).length + (i * c + j) by rw [he.len, Nat.add_mul, Nat.one_mul]; omega, List.getElem?_append_right (by omega), Nat.add_sub_cancel_left]
    exact flatE_get he h hu
theorem flatE_inv (he : Enc enc c) : ∀ {xs : List α} {k : Nat} {u : Value}, (flatE enc xs)[k]? = some u → ∃ i j x, k = i * c + j ∧ xs[i]? = some x ∧ (enc x)[j]? = some u
  | [], k, u, h => by simp [flatE] at h
  | y :: xs, k, u, h => by
    rw [flatE_cons] at h
    by_cases hk : k < (enc y).length
    · rw [List.getElem?_append_left hk] at h
      exact ⟨0, k, y, by simp, rfl, h⟩
    · rw [List.getElem?_append_right (by omega)] at h
      obtain ⟨i, j, x, e, hx, hu⟩ := flatE_inv he h
      refine ⟨i + 1, j, x, ?_, hx, hu⟩
      rw [he.len] at hk e
      rw [Nat.add_mul, Nat.one_mul]
      omega
end
theorem addr_plus (b o j : Nat) : (⟨b, o, none⟩ : Addr).add j = ⟨b, o + j, none⟩ := Addr.add_mid b o j
theorem gcell_lt {w : World} {b o : Nat} {v : Value} (h : w.cell? ⟨b, o, none⟩ = some v) : b < w.heap.size := by
  unfold World.cell? at h
  cases hb : w.heap[b]? with
  | none => simp [hb] at h
  | some x => exact (Array.getElem?_eq_some_iff.1 hb).1
/- A row that is read. -/
def Rg {α : Type} (enc : α → List Value) (c : Nat) (w : World) (v : Value) (xs : List α) : Prop :=
  ∃ a cap, v = .slice a xs.length cap ∧ xs.length ≤ cap ∧ cap ≤ maxLen ∧ (a = none → cap = 0) ∧ (0 < xs.length → ∃ g o, a = some ⟨g, o, none⟩ ∧ ∀ i x j u, xs[i]? = some x → (enc x)[j]? = some u → w.cell? ⟨g, o + i * c + j, none⟩ = some u)
/- A row of one's own. -/
def Og {α : Type} (enc : α → List Value) (c : Nat) (T : TypeId) (w : World) (B : Nat) (v : Value) (xs : List α) : Prop := w.ownsRow B T c v xs.length (flatE enc xs)
section
variable {α : Type} {enc : α → List Value} {c : Nat} {T : TypeId} {w w' : World} {B : Nat} {v : Value} {xs ys : List α}
theorem rg_kept (he : Enc enc c) (h : Rg enc c w v xs) (k : Kept w w') : Rg enc c w' v xs := by
  obtain ⟨a, cap, rfl, h1, h2, h3, h⟩ := h
  refine ⟨a, cap, rfl, h1, h2, h3, fun hp => ?_⟩
  obtain ⟨g, o, rfl, hc⟩ := h hp
  exact ⟨g, o, rfl, fun i x j u hx hu => (kept_cell k (gcell_lt (hc i x j u hx hu))).trans (hc i x j u hx hu)⟩
theorem rg_nil (enc : α → List Value) (c : Nat) (w : World) : Rg enc c w (.slice none 0 0) [] := ⟨none, 0, rfl, Nat.le_refl _, Nat.zero_le _, fun _ => rfl, fun h => absurd h (by simp)⟩
theorem rg_is (h : Rg enc c w v xs) : ∃ a cap, v = .slice a xs.length cap ∧ xs.length ≤ cap ∧ cap ≤ maxLen := by
  obtain ⟨a, cap, e, h1, h2, _⟩ := h
  exact ⟨a, cap, e, h1, h2⟩
theorem og_block (h : Og enc c T w B v xs) (k : ∀ g cur, v.ownBlock = some g → At w g cur T → w'.heap[g]? = w.heap[g]?) : Og enc c T w' B v xs := by
  refine ⟨h.1, ?_⟩
  rcases h.2 with hn | ⟨g, cap, cur, rfl, hb, hg, rest⟩
  · exact .inl hn
  · exact .inr ⟨g, cap, cur, rfl, hb, (k g cur rfl hg).trans hg, rest⟩
theorem og_stays (h : Og enc c T w B v xs) (k : Kept w w') : Og enc c T w' B v xs := og_block h (fun g cur _ ha => kept_block k (at_lt ha))
theorem og_set (h : Og enc c T w B v xs) {P : Nat} (hP : P < B) (o : Nat) (x : Value) : Og enc c T (w.setCell ⟨P, o, none⟩ x) B v xs := by
  refine ⟨h.1, ?_⟩
  rcases h.2 with hn | ⟨g, cap, cur, rfl, hb, hg, rest⟩
  · exact .inl hn
  · exact .inr ⟨g, cap, cur, rfl, hb, (Below.heap_setCell _ _ _ _ (by show g ≠ P; omega)).trans hg, rest⟩
theorem og_low {B' : Nat} (h : Og enc c T w B v xs) (hb : B' ≤ B) : Og enc c T w B' v xs := by
  refine ⟨h.1, ?_⟩
  rcases h.2 with hn | ⟨g, cap, cur, rfl, hg, rest⟩
  · exact .inl hn
  · exact .inr ⟨g, cap, cur, rfl, Nat.le_trans hb hg, rest⟩
theorem og_lt (h : Og enc c T w B v xs) {g : Nat} (hg : v.ownBlock = some g) : B ≤ g := (World.ownsRow.lt h g hg).1
theorem og_nil (enc : α → List Value) (c : Nat) (T : TypeId) (w : World) (B : Nat) : Og enc c T w B (.slice none 0 0) [] := World.ownsRow_nil w B T c
theorem rg_own (he : Enc enc c) (h : Og enc c T w B v xs) : Rg enc c w v xs := by
  have hh := h
  rcases h.2 with ⟨rfl, hn⟩ | ⟨g, cap, cur, rfl, hb, hg, h1, h2, h3, h4⟩
  · exact ⟨none, 0, by rw [hn], by omega, Nat.zero_le _, fun _ => rfl, fun hp => absurd hp (by omega)⟩
  · refine ⟨_, cap, rfl, h1, h2, fun e => (by cases e), fun _ => ⟨g, 0, rfl, fun i x j u hx hu => ?_⟩⟩
    have := World.ownsRow.cells hh (g := g) rfl (i * c + j) u (flatE_get he hx hu)
    rw [addr_plus] at this
    rw [← this, Nat.add_assoc]
theorem og_is (he : Enc enc c) (h : Og enc c T w B v xs) : ∃ a cap, v = .slice a xs.length cap ∧ xs.length ≤ cap ∧ cap ≤ maxLen := rg_is (rg_own he h)
theorem og_some (h : Og enc c T w B v xs) (hn : v ≠ .slice none 0 0) : ∃ g cap, v = .slice (some ⟨g, 0, none⟩) xs.length cap := by
  rcases h.2 with ⟨e, _⟩ | ⟨g, cap, cur, e, _⟩
  · exact absurd e hn
  · exact ⟨g, cap, e⟩
/- It stands while a row of another kind grows. -/
theorem og_beside {β : Type} {enc' : β → List Value} {c' : Nat} {U : TypeId} {B' : Nat} {u : Value} {ys : List β} (h : Og enc c T w B v xs) (k : Og enc' c' U w B' u ys) (hTU : T ≠ U) (g : w.grownBy w' u.ownBlock) : Og enc c T w' B v xs :=
  og_block h (fun q cur hq ha => g.block q (at_lt ha) (fun e => by
    rcases k.2 with ⟨rfl, _⟩ | ⟨g', cap, cur', rfl, _, hg, _⟩
    · cases e
    · injection e with e
      subst e
      exact at_ne ha hg hTU rfl))
/- A row as it is built. -/
theorem og_built (he : Enc enc c) (T : TypeId) (w : World) (B : Nat) (hB : B ≤ w.heap.size) (xs : List α) (hm : xs.length ≤ 4096) : Og enc c T (w.alloc (.cells (flatE enc xs).toArray T)) B (.slice (some ⟨w.heap.size, 0, none⟩) xs.length xs.length) xs := by
  refine ⟨flatE_len he xs, .inr ⟨w.heap.size, xs.length, _, rfl, hB, at_new w _ T, Nat.le_refl _, by unfold maxLen; omega, by simp [flatE_len he], ?_⟩⟩
  rw [← flatE_len he]
  simp
theorem og_grown (h : w.ownsRow B T c v xs.length (flatE enc xs)) : Og enc c T w B v xs := h
end
/- What append does to such rows. -/
def TyG (P : Program) (t e : TypeId) (c bytes : Nat) : Prop := P.underlying t = some (.slice e) ∧ ∃ i z, P.info? e = some i ∧ i.zero = some z ∧ i.size = c ∧ i.bytes = bytes ∧ z.cells.size = c
theorem kept_gr {W w w' : World} {row : Option Nat} (h : Kept W w) (g : w.grownBy w' row) (hr : ∀ k, row = some k → W.heap.size ≤ k) : Kept W w' :=
  kept_of (g.os.trans (kept_os h)) (g.output.trans (kept_output h)) (Nat.le_trans h.2 g.size) (fun i hi => (g.block i (Nat.lt_of_lt_of_le hi h.2) (fun e => by have := hr i e.symm; omega)).trans (kept_block h hi))
section
variable {P : Program} {α : Type} {enc : α → List Value} {c bytes : Nat} {t e : TypeId} {w : World} {B : Nat} {v x : Value} {xs ys : List α}
theorem gapp_none (hT : TyG P t e c bytes) {a : Option Addr} {n cap d : Nat} (h : n ≤ cap) (h0 : a = none → n = 0 ∧ cap = 0) (ty : TypeId) : (Builtin.append_ #[t, t] ty #[.slice a n cap, .slice none 0 d]).run P w = .ok (.slice a n cap) w := by
  obtain ⟨hu, i, z, hi, hz, hs, hb, hc⟩ := hT
  cases a with
  | none =>
    obtain ⟨rfl, rfl⟩ := h0 rfl
    simp [Builtin.append_, run_underlying hu, sizeOf, typeInfo, hi, Builtin.lenOf, Builtin.firstCells, storeCells]
  | some a => simp [Builtin.append_, run_underlying hu, sizeOf, typeInfo, hi, Builtin.lenOf, Builtin.firstCells, h, storeCells]
theorem grun_app (he : Enc enc c) (hT : TyG P t e c bytes) (hby : bytes ≤ 1024) (ho : Og enc c e w B v xs) (hx : Rg enc c w x ys) (hl : xs.length + ys.length ≤ 4096) (hB : B ≤ w.heap.size) (ty : TypeId) :
    ∃ v' w', (Builtin.append_ #[t, t] ty #[v, x]).run P w = .ok v' w' ∧ Og enc c e w' B v' (xs ++ ys) ∧ w.grownBy w' v.ownBlock ∧ (v ≠ .slice none 0 0 → v' ≠ .slice none 0 0) := by
  have hT0 := hT
  obtain ⟨hu, i, z, hi, hz, hs, hb, hc⟩ := hT
  obtain ⟨a, d, rfl, _, _, _, hx⟩ := hx
  have hgo : ∀ ad, a = some ad → (∀ j u, (flatE enc ys)[j]? = some u → w.cell? (ad.add j) = some u) → ∃ v' w', (Builtin.append_ #[t, t] ty #[v, .slice a ys.length d]).run P w = .ok v' w' ∧ Og enc c e w' B v' (xs ++ ys) ∧ w.grownBy w' v.ownBlock ∧ (v ≠ .slice none 0 0 → v' ≠ .slice none 0 0) := fun ad ea hcell => by
    obtain ⟨v', w', h1, h2, h3, h4⟩ := run_append_own (P := P) w B t ty e i z c bytes hu hi hz hs hb hc he.pos v xs.length (flatE enc xs) ho ad ys.length d (flatE enc ys) (flatE_len he ys) hcell (flatE_ones he ys) (by unfold maxLen; omega) (by
      have : (xs.length + ys.length) * bytes ≤ 4096 * 1024 := Nat.mul_le_mul hl hby
      omega) hB
    refine ⟨v', w', by rw [ea]; exact h1, ?_, h3, fun hn en => hn (h4.1 en).1⟩
    unfold Og
    rw [List.length_append, flatE_app]
    exact h2
  cases ys with
  | cons y ys =>
    obtain ⟨g, o, ea, hcell⟩ := hx (by simp)
    refine hgo _ ea (fun k u hk => ?_)
    obtain ⟨i', j, q, ek, hq, hqu⟩ := flatE_inv he hk
    rw [addr_plus, ek, ← Nat.add_assoc]
    exact hcell i' q j u hq hqu
  | nil =>
    cases a with
    | some ad => exact hgo ad rfl (fun j u hu => by simp [flatE] at hu)
    | none =>
      have hv : ∃ a n cap, v = .slice a n cap ∧ n ≤ cap ∧ (a = none → n = 0 ∧ cap = 0) := by
        rcases ho.2 with ⟨rfl, _⟩ | ⟨g, cap, cur, rfl, _, _, h1, _⟩
        · exact ⟨none, 0, 0, rfl, Nat.le_refl _, fun _ => ⟨rfl, rfl⟩⟩
        · exact ⟨_, _, cap, rfl, h1, fun e => (by cases e)⟩
      obtain ⟨a', n', cap', rfl, h1, h0⟩ := hv
      exact ⟨_, w, gapp_none hT0 h1 h0 ty, by rw [List.append_nil]; exact ho, ⟨rfl, rfl, rfl, Nat.le_refl _, fun _ _ _ => rfl⟩, fun h => h⟩
theorem wpList_gapp {ops : Array Oper} {rest : List Oper} {o : Oper} {act : Act} {Q : Exit → Act → World → Prop} (hgd : o.guard = none) (s q : Operand)
    (op : o.op = .call { callee := .builtin .append, args := #[s, q], argTypes := #[t, t] }) (he : Enc enc c) (hT : TyG P t e c bytes) (hby : bytes ≤ 1024) (B : Nat) (v x : Value) (xs ys : List α) (hs : act.eval s = v) (ho : Og enc c e w B v xs) (hq : act.eval q = x) (hx : Rg enc c w x ys)
    (hl : xs.length + ys.length ≤ 4096) (hB : B ≤ w.heap.size) (h : ∀ v' w', Og enc c e w' B v' (xs ++ ys) → w.grownBy w' v.ownBlock → (v ≠ .slice none 0 0 → v' ≠ .slice none 0 0) → wpList P ops Q rest (act.put o.dst v') w') : wpList P ops Q (o :: rest) act w :=
  wpList_plain hgd fun _ hK => by
    obtain ⟨v', w', hr, h2, h3, h4⟩ := grun_app he hT hby ho hx hl hB o.type
    unfold Oper.wp execOp
    simp only [op, resolve, invoke, builtin, Sem.run_bind, Sem.run_pure, Result.andThen_ok, List.map_toArray, List.map_cons, List.map_nil, hs, hq, hr]
    exact hK _ _ (h v' w' h2 h3 h4)
theorem op_run {w w' : World} {o : Oper} {a : Act} {K : Act → World → Prop} {Q : Exit → Act → World → Prop} (s x : Operand) (tx : TypeId) (ho : o.op = .call { callee := .builtin .append, args := #[s, x], argTypes := #[t, tx] }) (v y v' : Value)
    (hs : a.eval s = v) (hx : a.eval x = y) (hr : (Builtin.append_ #[t, tx] o.type #[v, y]).run P w = .ok v' w') (h : K (a.put o.dst v') w') : o.wp P a w K Q := by
  simpa [Oper.wp, execOp, ho, resolve, invoke, builtin, hs, hx, hr, Oper.upon_value] using h
/- One that lies alone in a new block. -/
theorem rg_alone (he : Enc enc c) {w : World} {g T : Nat} {y : α} (h : At w g (enc y).toArray T) : Rg enc c w (.slice (some ⟨g, 0, none⟩) 1 1) [y] := by
  refine ⟨_, 1, rfl, Nat.le_refl _, by unfold maxLen; omega, fun e => (by cases e), fun _ => ⟨g, 0, rfl, fun i x j u hx hu => ?_⟩⟩
  cases i with
  | zero =>
    simp at hx
    subst hx
    rw [Nat.zero_mul, Nat.add_zero, Nat.zero_add, at_cell h]
    simpa using hu
  | succ i => simp at hx
end
/- What a call answers that makes a row. -/
def GRowC {α : Type} (enc : α → List Value) (c : Nat) (T : TypeId) (xs : List α) (w : World) (e : Ending) (w' : World) : Prop := ∃ v, e = .returned v ∧ Og enc c T w' w.heap.size v xs ∧ Kept w w'
def GRowN {α : Type} (enc : α → List Value) (c : Nat) (T : TypeId) (xs : List α) (w : World) (e : Ending) (w' : World) : Prop := ∃ v, e = .returned v ∧ Og enc c T w' w.heap.size v xs ∧ v ≠ .slice none 0 0 ∧ Kept w w'
/- A row's beginning and its rest. -/
section
variable {α : Type} {enc : α → List Value} {c : Nat} {w : World} {xs : List α}
theorem rg_take {a : Option Addr} {n cap k : Nat} (h : Rg enc c w (.slice a n cap) xs) (hk : k ≤ xs.length) : Rg enc c w (.slice a k cap) (xs.take k) := by
  obtain ⟨a', cap', e, h1, h2, h3, h⟩ := h
  injection e with e1 e2 e3
  subst e1 e3
  refine ⟨a, cap, by rw [List.length_take, Nat.min_eq_left hk], by rw [List.length_take]; omega, h2, h3, fun hp => ?_⟩
  rw [List.length_take] at hp
  obtain ⟨g, o, rfl, hc⟩ := h (by omega)
  refine ⟨g, o, rfl, fun i x j u hx hu => ?_⟩
  rw [List.getElem?_take] at hx
  split at hx
  · exact hc i x j u hx hu
  · cases hx
/- Where the rest of a row lies. -/
def dropA (c q cap k : Nat) : Addr := if cap = k then ⟨q, 0, none⟩ else ⟨q, k * c, none⟩
theorem rg_drop {q n cap k : Nat} (h : Rg enc c w (.slice (some ⟨q, 0, none⟩) n cap) xs) (hk : k ≤ n) : Rg enc c w (.slice (some (dropA c q cap k)) (n - k) (cap - k)) (xs.drop k) := by
  obtain ⟨a', cap', e, h1, h2, h3, h⟩ := h
  injection e with e1 e2 e3
  subst e1 e2 e3
  refine ⟨_, cap - k, by rw [List.length_drop], by rw [List.length_drop]; omega, Nat.le_trans (Nat.sub_le _ _) h2, fun e => (by cases e), fun hp => ?_⟩
  rw [List.length_drop] at hp
  obtain ⟨g, o, e4, hc⟩ := h (by omega)
  injection e4 with e4
  injection e4 with e4 e5
  subst e4 e5
  refine ⟨q, k * c, by unfold dropA; rw [if_neg (by omega)], fun i x j u hx hu => ?_⟩
  rw [List.getElem?_drop] at hx
  have := hc (k + i) x j u hx hu
  rw [Nat.zero_add, Nat.add_mul] at this
  exact this
theorem og_len {T : TypeId} {B : Nat} {a : Option Addr} {n cap : Nat} (he : Enc enc c) (h : Og enc c T w B (.slice a n cap) xs) : xs.length = n ∧ n ≤ cap ∧ cap ≤ maxLen := by
  obtain ⟨a', cap', e, h1, h2⟩ := og_is he h
  injection e with e1 e2 e3
  subst e3
  exact ⟨e2.symm, by omega, h2⟩
end
end Go.Proofs.Ytibidhmahjbciaa
