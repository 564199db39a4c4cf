/- A store's places, by their use, beside what its table and its wheel have (Coh); what becomes of it where a place is emptied, filled, used. No condition but those that are stated. -/
import Derived.Test.YthgbdaladngpdaaGreatStoreMath
namespace Go.Proofs.YthgbdaladngpdaaGreat
set_option linter.unusedVariables false
set_option linter.unusedSimpArgs false

def updR (f : Nat → R) (a : Nat) (r : R) : Nat → R := fun i => if i = a then r else f i
theorem updR_at (f : Nat → R) (a : Nat) (r : R) : updR f a r a = r := by simp [updR]
theorem updR_ne (f : Nat → R) {a i : Nat} (r : R) (h : i ≠ a) : updR f a r i = f i := by simp [updR, h]
def less (l : List Nat) (i : Nat) : List Nat := l.filter (fun x => x != i)
theorem less_mem {l : List Nat} {i j : Nat} : j ∈ less l i ↔ j ∈ l ∧ j ≠ i := by unfold less; simp
structure Coh (c : Cf) (pl : Nat → R) (l : List Nat) (f : ByteArray → Option Int) (M : List (Int × Int)) (pend : Nat → Prop) : Prop where
  once : l.Nodup
  low : ∀ i ∈ l, i < c.n
  taken : ∀ i, i < c.n → (i ∈ l ↔ (pl i).kind ≠ 0)
  may : ∀ i ∈ l, mayR (pl i) = true
  ok : ∀ i, (pl i).ok
  keys : ∀ i ∈ l, ∀ j ∈ l, (pl i).key = (pl j).key → i = j
  map : ∀ k v, f k = some v ↔ ∃ i ∈ l, v = (i : Int) ∧ (pl i).key = k
  whl : ∀ z : Int × Int, z ∈ M ↔ ∃ i ∈ l, ¬ pend i ∧ z = ((pl i).s.p + (c.K : Int), (i : Int))
theorem zero_okR : zeroR.ok := by unfold zeroR R.ok; exact ⟨Nat.zero_le _, zero_ok, by decide, by decide, by decide, Nat.zero_le _⟩
section
variable {c : Cf} {pl : Nat → R} {l : List Nat} {f f' : ByteArray → Option Int} {M M' : List (Int × Int)} {pend pend' : Nat → Prop} {i : Nat} {r : R}
theorem may_kind (h : mayR r = true) : r.kind ≠ 0 := by
  unfold mayR contentMay at h
  intro e
  rw [e] at h
  simp at h
theorem coh_out (h : Coh c pl l f M pend) (hi : i ∈ l) (hp : ∀ j, j ≠ i → (pend' j ↔ pend j)) (hf : ∀ k, f' k = if k = (pl i).key then none else f k) (hM : ∀ z, z ∈ M' ↔ z ∈ M ∧ z.2 ≠ (i : Int)) :
    Coh c (updR pl i zeroR) (less l i) f' M' pend' := by
  refine ⟨h.once.filter _, fun j hj => h.low j (less_mem.1 hj).1, fun j hj => ?_, fun j hj => ?_, fun j => ?_, fun a ha b hb e => ?_, fun k v => ?_, fun z => ?_⟩
  · rw [less_mem]
    by_cases e : j = i
    · subst e; rw [updR_at]; simp [zeroR]
    · rw [updR_ne _ _ e, ← h.taken j hj]; simp [e]
  · have := less_mem.1 hj
    rw [updR_ne _ _ this.2]; exact h.may j this.1
  · unfold updR; split
    · exact zero_okR
    · exact h.ok j
  · have h1 := less_mem.1 ha
    have h2 := less_mem.1 hb
    rw [updR_ne _ _ h1.2, updR_ne _ _ h2.2] at e
    exact h.keys a h1.1 b h2.1 e
  · rw [hf]
    by_cases e : k = (pl i).key
    · rw [if_pos e]
      constructor
      · intro h'; cases h'
      · rintro ⟨j, hj, rfl, hk⟩
        have h1 := less_mem.1 hj
        rw [updR_ne _ _ h1.2] at hk
        exact absurd (h.keys j h1.1 i hi (hk.trans e)) h1.2
    · rw [if_neg e, h.map]
      constructor
      · rintro ⟨j, hj, rfl, hk⟩
        have hn : j ≠ i := by rintro rfl; exact e hk.symm
        exact ⟨j, less_mem.2 ⟨hj, hn⟩, rfl, by rw [updR_ne _ _ hn]; exact hk⟩
      · rintro ⟨j, hj, rfl, hk⟩
        have h1 := less_mem.1 hj
        rw [updR_ne _ _ h1.2] at hk
        exact ⟨j, h1.1, rfl, hk⟩
  · rw [hM, h.whl]
    constructor
    · rintro ⟨⟨j, hj, hpj, rfl⟩, hz⟩
      have hn : j ≠ i := by rintro rfl; exact hz rfl
      exact ⟨j, less_mem.2 ⟨hj, hn⟩, fun hq => hpj ((hp j hn).1 hq), by rw [updR_ne _ _ hn]⟩
    · rintro ⟨j, hj, hpj, rfl⟩
      have h1 := less_mem.1 hj
      rw [updR_ne _ _ h1.2]
      exact ⟨⟨j, h1.1, fun hq => hpj ((hp j h1.2).2 hq), rfl⟩, by have := h1.2; simp; omega⟩
theorem coh_in (h : Coh c pl l f M pend) (hi : i ∉ l) (hn : i < c.n) (hm : mayR r = true) (hok : r.ok) (hk : ∀ j ∈ l, (pl j).key ≠ r.key) (hpe : ¬ pend i) (hf : ∀ k, f' k = if k = r.key then some (i : Int) else f k) (hM : ∀ z : Int × Int, z ∈ M' ↔ z = (r.s.p + (c.K : Int), (i : Int)) ∨ (z ∈ M ∧ z.2 ≠ (i : Int))) :
    Coh c (updR pl i r) (i :: l) f' M' pend := by
  have hne : ∀ j ∈ l, j ≠ i := fun j hj e => hi (e ▸ hj)
  refine ⟨List.nodup_cons.2 ⟨hi, h.once⟩, fun j hj => ?_, fun j hj => ?_, fun j hj => ?_, fun j => ?_, fun a ha b hb e => ?_, fun k v => ?_, fun z => ?_⟩
  · rcases List.mem_cons.1 hj with rfl | hj
    · exact hn
    · exact h.low j hj
  · rw [List.mem_cons]
    by_cases e : j = i
    · subst e; rw [updR_at]; simp [may_kind hm]
    · rw [updR_ne _ _ e, ← h.taken j hj]; simp [e]
  · rcases List.mem_cons.1 hj with rfl | hj
    · rw [updR_at]; exact hm
    · rw [updR_ne _ _ (hne j hj)]; exact h.may j hj
  · unfold updR; split
    · exact hok
    · exact h.ok j
  · rcases List.mem_cons.1 ha with ea | ha'
    · rcases List.mem_cons.1 hb with eb | hb'
      · rw [ea, eb]
      · rw [ea, updR_at, updR_ne _ _ (hne b hb')] at e
        exact absurd e.symm (hk b hb')
    · rcases List.mem_cons.1 hb with eb | hb'
      · rw [eb, updR_at, updR_ne _ _ (hne a ha')] at e
        exact absurd e (hk a ha')
      · rw [updR_ne _ _ (hne a ha'), updR_ne _ _ (hne b hb')] at e
        exact h.keys a ha' b hb' e
  · rw [hf]
    by_cases e : k = r.key
    · rw [if_pos e]
      constructor
      · intro h'
        injection h' with h'
        exact ⟨i, List.mem_cons_self, h'.symm, by rw [updR_at]; exact e.symm⟩
      · rintro ⟨j, hj, rfl, hkj⟩
        rcases List.mem_cons.1 hj with rfl | hj
        · rfl
        · rw [updR_ne _ _ (hne j hj)] at hkj
          exact absurd (hkj.trans e) (hk j hj)
    · rw [if_neg e, h.map]
      constructor
      · rintro ⟨j, hj, rfl, hkj⟩
        exact ⟨j, List.mem_cons_of_mem _ hj, rfl, by rw [updR_ne _ _ (hne j hj)]; exact hkj⟩
      · rintro ⟨j, hj, rfl, hkj⟩
        rcases List.mem_cons.1 hj with rfl | hj
        · rw [updR_at] at hkj; exact absurd hkj.symm e
        · rw [updR_ne _ _ (hne j hj)] at hkj
          exact ⟨j, hj, rfl, hkj⟩
  · rw [hM, h.whl]
    constructor
    · rintro (rfl | ⟨⟨j, hj, hpj, rfl⟩, hz⟩)
      · exact ⟨i, List.mem_cons_self, hpe, by rw [updR_at]⟩
      · exact ⟨j, List.mem_cons_of_mem _ hj, hpj, by rw [updR_ne _ _ (hne j hj)]⟩
    · rintro ⟨j, hj, hpj, rfl⟩
      rcases List.mem_cons.1 hj with rfl | hj
      · left; rw [updR_at]
      · right
        rw [updR_ne _ _ (hne j hj)]
        exact ⟨⟨j, hj, hpj, rfl⟩, by have := hne j hj; simp; omega⟩
theorem use_mem (hi : i ∈ l) {j : Nat} : j ∈ i :: less l i ↔ j ∈ l := by
  rw [List.mem_cons, less_mem]
  constructor
  · rintro (rfl | h)
    · exact hi
    · exact h.1
  · intro h
    by_cases e : j = i
    · exact .inl e
    · exact .inr ⟨h, e⟩
theorem coh_use (h : Coh c pl l f M pend) (hi : i ∈ l) : Coh c pl (i :: less l i) f M pend := by
  refine ⟨List.nodup_cons.2 ⟨fun hx => (less_mem.1 hx).2 rfl, h.once.filter _⟩, fun j hj => h.low j ((use_mem hi).1 hj), fun j hj => (use_mem hi).trans (h.taken j hj), fun j hj => h.may j ((use_mem hi).1 hj), h.ok, fun a ha b hb e => h.keys a ((use_mem hi).1 ha) b ((use_mem hi).1 hb) e, fun k v => ?_, fun z => ?_⟩
  · rw [h.map]
    exact ⟨fun ⟨j, hj, q⟩ => ⟨j, (use_mem hi).2 hj, q⟩, fun ⟨j, hj, q⟩ => ⟨j, (use_mem hi).1 hj, q⟩⟩
  · rw [h.whl]
    exact ⟨fun ⟨j, hj, q⟩ => ⟨j, (use_mem hi).2 hj, q⟩, fun ⟨j, hj, q⟩ => ⟨j, (use_mem hi).1 hj, q⟩⟩
theorem coh_new : Coh c (fun _ => zeroR) [] (fun _ => none) [] (fun _ => False) := by
  refine ⟨List.nodup_nil, by simp, fun i _ => by simp [zeroR], by simp, fun _ => zero_okR, by simp, fun k v => by simp, fun z => by simp⟩
/- As rows of records. -/
theorem coh_rows (h : Coh c pl l f M pend) : Keys (l.map pl) := by
  have h1 := h.once
  have h2 := h.keys
  clear h
  induction l with
  | nil => exact List.Pairwise.nil
  | cons x t ih =>
    obtain ⟨g1, g2⟩ := List.nodup_cons.1 h1
    refine List.pairwise_cons.2 ⟨fun r hr => ?_, ih g2 (fun a ha b hb => h2 a (List.mem_cons_of_mem _ ha) b (List.mem_cons_of_mem _ hb))⟩
    obtain ⟨j, hj, rfl⟩ := List.mem_map.1 hr
    intro e
    have := h2 x List.mem_cons_self j (List.mem_cons_of_mem _ hj) e
    exact g1 (this ▸ hj)
theorem map_less (pl : Nat → R) (r : R) (l : List Nat) (i : Nat) : (less l i).map (updR pl i r) = (less l i).map pl := by
  refine List.map_congr_left (fun j hj => updR_ne _ _ (less_mem.1 hj).2)
theorem map_in (pl : Nat → R) (r : R) {l : List Nat} (hi : i ∉ l) : (i :: l).map (updR pl i r) = r :: l.map pl := by
  rw [List.map_cons, updR_at]
  congr 1
  exact List.map_congr_left (fun j hj => updR_ne _ _ (fun e => hi (e ▸ hj)))
theorem less_woK (h : Coh c pl l f M pend) (hi : i ∈ l) : (less l i).map pl = woK (l.map pl) (pl i).key := by
  unfold less woK
  rw [List.filter_map]
  congr 1
  refine List.filter_congr (fun j hj => ?_)
  show (j != i) = decide ((pl j).key ≠ (pl i).key)
  by_cases e : j = i
  · subst e; simp
  · have : (pl j).key ≠ (pl i).key := fun q => e (h.keys j hj i hi q)
    simp [e, this]
theorem find_in (h : Coh c pl l f M pend) (hi : i ∈ l) : findK (l.map pl) (pl i).key = some (pl i) := find_of (coh_rows h) (List.mem_map_of_mem hi)
theorem coh_none (h : Coh c pl l f M pend) {k : ByteArray} : f k = none ↔ findK (l.map pl) k = none := by
  rw [find_none]
  constructor
  · intro e r hr hk
    obtain ⟨j, hj, rfl⟩ := List.mem_map.1 hr
    have := (h.map k (j : Int)).2 ⟨j, hj, rfl, hk⟩
    rw [e] at this; cases this
  · intro e
    cases q : f k with
    | none => rfl
    | some v =>
      obtain ⟨j, hj, _, hk⟩ := (h.map k v).1 q
      exact absurd hk (e _ (List.mem_map_of_mem hj))
theorem coh_some (h : Coh c pl l f M pend) {k : ByteArray} {v : Int} (e : f k = some v) : ∃ i ∈ l, v = (i : Int) ∧ (pl i).key = k ∧ findK (l.map pl) k = some (pl i) := by
  obtain ⟨j, hj, e1, hk⟩ := (h.map k v).1 e
  exact ⟨j, hj, e1, hk, by rw [← hk]; exact find_in h hj⟩
theorem coh_perm (h : Coh c pl l f M pend) (hi : i ∈ l) : (l.map pl).Perm (pl i :: (less l i).map pl) := by
  rw [less_woK h hi]
  exact woK_perm (coh_rows h) (List.mem_map_of_mem hi)
theorem coh_size (h : Coh c pl l f M pend) (hi : i ∈ l) : sizeL (l.map pl) = lenR (pl i) + sizeL ((less l i).map pl) := (sizeL_perm (coh_perm h hi)).trans rfl
theorem coh_dig (h : Coh c pl l f M pend) (hi : i ∈ l) (k : Nat) : digL k (l.map pl) = if rg (pl i).key = k then dgN (pl i) ^^^ digL k ((less l i).map pl) else digL k ((less l i).map pl) := by
  rw [digL_perm k (coh_perm h hi)]
  rfl
end
theorem all_len : ∀ (n : Nat) (l : List Nat), (∀ i, i < n → i ∈ l) → n ≤ l.length
  | 0, _, _ => Nat.zero_le _
  | n + 1, l, h => by
    have h1 := all_len n (less l n) (fun i hi => less_mem.2 ⟨h i (by omega), by omega⟩)
    have h2 : (less l n).length < l.length := by
      unfold less
      rw [← List.countP_eq_length_filter]
      refine Nat.lt_of_le_of_ne List.countP_le_length (fun e => ?_)
      have := List.countP_eq_length.1 e n (h n (by omega))
      simp at this
    omega
theorem free_one {n : Nat} {l : List Nat} (h : l.length < n) : ∃ i, i < n ∧ i ∉ l := by
  refine Classical.byContradiction (fun hn => ?_)
  have := all_len n l (fun i hi => Classical.byContradiction (fun hx => hn ⟨i, hi, hx⟩))
  omega
end Go.Proofs.YthgbdaladngpdaaGreat
