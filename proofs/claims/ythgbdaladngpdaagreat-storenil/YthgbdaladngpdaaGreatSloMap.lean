/- A table as a map: what it has of each key, and what setting and dropping make of that. The chapter's example, walked. -/
import Derived.Test.YthgbdaladngpdaaGreatSloNew
namespace Go.Proofs.YthgbdaladngpdaaGreat.Slo
open Go.ChangeShapes Go.WideShapes Go.ChangeAt Go.RowKit
set_option linter.unusedVariables false
set_option maxRecDepth 100000
set_option linter.unusedSimpArgs false

noncomputable def mp (m : Nat) (L : Tb) (k : ByteArray) : Option Int := if (L (spot (hm m) m L k)).taken = true then some (L (spot (hm m) m L k)).v else none
section
variable {m most : Nat} {L : Tb} {k : ByteArray} {v : Int}
theorem mp_some (ok : Ok (hm m) m L) (c : cnt L m < m) (k : ByteArray) (v : Int) : mp m L k = some v ↔ ∃ i, L i = ⟨true, k, v⟩ := by
  have f := spot_found (k := k) ok c
  unfold mp
  constructor
  · intro h
    by_cases t : (L (spot (hm m) m L k)).taken = true
    · rw [if_pos t] at h
      refine ⟨spot (hm m) m L k, ?_⟩
      have h1 := f.mine t
      injection h with h2
      revert h1 t h2
      generalize L (spot (hm m) m L k) = s
      rcases s with ⟨a, b, d⟩
      intro h1 t h2
      simp_all
    · rw [if_neg t] at h; cases h
  · rintro ⟨i, hi⟩
    have g := has_found ok (k := k) (i := i) ⟨by rw [hi], by rw [hi]⟩
    rw [found_one f g, hi]
    simp
theorem mp_none (ok : Ok (hm m) m L) (c : cnt L m < m) (k : ByteArray) : mp m L k = none ↔ ∀ i, ¬ Has L k i := by
  constructor
  · intro h i g
    have := (mp_some ok c k (L i).v).2 ⟨i, by have := g.1; have := g.2; revert this; revert this; generalize L i = s; rcases s with ⟨a, b, d⟩; intro h1 h2; simp_all⟩
    rw [h] at this; cases this
  · intro h
    cases e : mp m L k with
    | none => rfl
    | some v =>
      obtain ⟨i, hi⟩ := (mp_some ok c k v).1 e
      exact absurd ⟨by rw [hi], by rw [hi]⟩ (h i)
theorem mp_ext {M : Tb} (ok : Ok (hm m) m L) (c : cnt L m < m) (ok' : Ok (hm m) m M) (c' : cnt M m < m) (k : ByteArray) (o : Option Int) (h : ∀ v, (∃ i, L i = ⟨true, k, v⟩) ↔ o = some v) : mp m L k = o := by
  cases e : mp m L k with
  | none =>
    cases o with
    | none => rfl
    | some v => have := (mp_some ok c k v).2 ((h v).2 rfl); rw [e] at this; cases this
  | some v => exact ((h v).1 ((mp_some ok c k v).1 e)).symm
theorem taken_mp : (L (spot (hm m) m L k)).taken = (mp m L k).isSome := by
  unfold mp
  by_cases t : (L (spot (hm m) m L k)).taken = true
  · rw [if_pos t, t]; rfl
  · rw [if_neg t]; simpa using t
theorem valI_mp : valI m L k = (mp m L k).getD 0 := by
  unfold mp valI
  by_cases t : (L (spot (hm m) m L k)).taken = true
  · rw [if_pos t, if_pos t]; rfl
  · rw [if_neg t, if_neg t]; rfl
theorem slotI_mp : slotI m L k = if (mp m L k).isSome = true then ((spot (hm m) m L k : Nat) : Int) else -1 := by
  unfold slotI; rw [taken_mp]
theorem mp_new (h : 0 < m) (k : ByteArray) : mp m (fun _ => no) k = none := by
  refine (mp_none (ok_fresh h) ?_ k).2 (fun i g => by cases g.1)
  rw [cnt_new]; exact h
theorem set_err (L : Tb) (k : ByteArray) (v : Int) : (setT (hm m) m most L k v).1 = if mp m L k = none ∧ cnt L m = most then 6 else 0 := by
  unfold setT mp
  by_cases t : (L (spot (hm m) m L k)).taken = true
  · rw [if_pos t, if_pos t]; simp
  · rw [if_neg t, if_neg t]
    by_cases c : cnt L m = most
    · rw [if_pos c, if_pos ⟨rfl, c⟩]
    · rw [if_neg c, if_neg (fun h => c h.2)]
theorem set_full (L : Tb) (k : ByteArray) (v : Int) (h1 : mp m L k = none) (h2 : cnt L m = most) : (setT (hm m) m most L k v).2 = L := by
  unfold setT
  unfold mp at h1
  by_cases t : (L (spot (hm m) m L k)).taken = true
  · rw [if_pos t] at h1; cases h1
  · rw [if_neg t, if_pos h2]
theorem set_puts (L : Tb) (k : ByteArray) (v : Int) (h : ¬ (mp m L k = none ∧ cnt L m = most)) : (setT (hm m) m most L k v).2 = upd L (spot (hm m) m L k) ⟨true, k, v⟩ := by
  unfold setT
  by_cases t : (L (spot (hm m) m L k)).taken = true
  · rw [if_pos t]
  · rw [if_neg t]
    by_cases c : cnt L m = most
    · exact absurd ⟨by unfold mp; rw [if_neg t], c⟩ h
    · rw [if_neg c]
theorem set_mp {w w' : World} {X R : Nat} (g : Good w X R m most L) (g' : Good w' X R m most (setT (hm m) m most L k v).2) (h : ¬ (mp m L k = none ∧ cnt L m = most)) (q : ByteArray) : mp m (setT (hm m) m most L k v).2 q = if q = k then some v else mp m L q := by
  have e := set_puts L k v h
  rw [e] at g' ⊢
  refine mp_ext g'.ok g'.free g'.ok g'.free q _ (fun x => ?_)
  rw [ent_put g.ok (spot_found g.ok g.free) v ⟨true, q, x⟩ rfl]
  by_cases hq : q = k
  · subst hq
    rw [if_pos rfl]
    constructor
    · rintro (h | h)
      · injection h with _ _ h; rw [h]
      · exact absurd rfl h.2
    · intro h; injection h with h; rw [h]; exact .inl rfl
  · rw [if_neg hq, mp_some g.ok g.free]
    constructor
    · rintro (h | h)
      · injection h with _ h _; exact absurd h hq
      · exact h.1
    · intro h; exact .inr ⟨h, hq⟩
theorem set_cnt {w : World} {X R : Nat} (g : Good w X R m most L) (h : ¬ (mp m L k = none ∧ cnt L m = most)) : cnt (setT (hm m) m most L k v).2 m = cnt L m + if mp m L k = none then 1 else 0 := by
  rw [set_puts L k v h]
  have := cnt_upd L (i := spot (hm m) m L k) (n := m) ⟨true, k, v⟩ (spot_found g.ok g.free).lt
  have t := taken_mp (m := m) (L := L) (k := k)
  rw [t] at this
  cases e : mp m L k with
  | none => rw [e] at this; simpa using this
  | some x => rw [e] at this; simpa using this
theorem drop_told (L : Tb) (k : ByteArray) : (dropT (hm m) m L k).1 = (mp m L k).isSome := by
  unfold dropT mp
  by_cases t : (L (spot (hm m) m L k)).taken = true
  · rw [if_pos t, if_pos t]; rfl
  · rw [if_neg t, if_neg t]; rfl
theorem drop_none (L : Tb) (k : ByteArray) (h : mp m L k = none) : (dropT (hm m) m L k).2 = L := by
  unfold dropT
  unfold mp at h
  by_cases t : (L (spot (hm m) m L k)).taken = true
  · rw [if_pos t] at h; cases h
  · rw [if_neg t]
theorem drop_mp {w w' : World} {X R : Nat} (g : Good w X R m most L) (g' : Good w' X R m most (dropT (hm m) m L k).2) (q : ByteArray) : mp m (dropT (hm m) m L k).2 q = if q = k then none else mp m L q := by
  cases e : mp m L k with
  | none =>
    rw [drop_none L k e]
    by_cases hq : q = k
    · rw [if_pos hq, hq, e]
    · rw [if_neg hq]
  | some x =>
    have t : (L (spot (hm m) m L k)).taken = true := by rw [taken_mp, e]; rfl
    have f := spot_found (k := k) g.ok g.free
    have hk := f.mine t
    have ed : (dropT (hm m) m L k).2 = closed (hm m) m L (spot (hm m) m L k) := by unfold dropT; rw [if_pos t]
    have hc := (closed_all g.ok g.free t).2.2
    rw [ed] at g' ⊢
    refine mp_ext g'.ok g'.free g'.ok g'.free q _ (fun y => ?_)
    rw [hc ⟨true, q, y⟩ rfl, hk]
    by_cases hq : q = k
    · subst hq
      rw [if_pos rfl]
      constructor
      · rintro ⟨_, h⟩; exact absurd rfl h
      · intro h; cases h
    · rw [if_neg hq, mp_some g.ok g.free]
      exact ⟨fun h => h.1, fun h => ⟨h, hq⟩⟩
theorem drop_cnt {w : World} {X R : Nat} (g : Good w X R m most L) : cnt (dropT (hm m) m L k).2 m + (if mp m L k = none then 0 else 1) = cnt L m := by
  cases e : mp m L k with
  | none => rw [drop_none L k e]; simp
  | some x =>
    have t : (L (spot (hm m) m L k)).taken = true := by rw [taken_mp, e]; rfl
    have ed : (dropT (hm m) m L k).2 = closed (hm m) m L (spot (hm m) m L k) := by unfold dropT; rw [if_pos t]
    rw [ed]
    simpa using (closed_all g.ok g.free t).2.1
end
/- The chapter's example. -/
abbrev tA : ByteArray := ⟨#[97]⟩
abbrev tB : ByteArray := ⟨#[98]⟩

end Go.Proofs.YthgbdaladngpdaaGreat.Slo
