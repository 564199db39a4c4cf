/- Each piece is told so often: the plain mathematics. -/
import Derived.Test.YtalcbahnhiibkaaTkLaw2
namespace Go.Proofs.Ytalcbahnhiibkaa
set_option linter.unusedVariables false
set_option linter.unusedSimpArgs false

/- How often each node was told. -/
def tellD (D : Int → Option Int) (xs : List Nw) : Int → Option Int := xs.foldl (fun D x => upd D x.node ((D x.node).getD 0 + 1)) D
theorem tellD_nil (D : Int → Option Int) : tellD D [] = D := rfl
theorem tellD_more (D : Int → Option Int) (xs : List Nw) (x : Nw) : tellD D (xs ++ [x]) = upd (tellD D xs) x.node ((tellD D xs x.node).getD 0 + 1) := by
  unfold tellD
  rw [List.foldl_append]
  rfl
theorem tellD_at : ∀ (xs : List Nw) (D : Int → Option Int), (xs.map Nw.node).Nodup → ∀ z, tellD D xs z = if z ∈ xs.map Nw.node then some ((D z).getD 0 + 1) else D z
  | [], D, _, z => by simp [tellD]
  | x :: xs, D, h, z => by
    rw [List.map_cons, List.nodup_cons] at h
    have ih := tellD_at xs (upd D x.node ((D x.node).getD 0 + 1)) h.2 z
    have e : tellD D (x :: xs) = tellD (upd D x.node ((D x.node).getD 0 + 1)) xs := rfl
    rw [e, ih]
    by_cases hz : z = x.node
    · subst hz
      rw [if_neg h.1]
      simp [upd]
    · have hu : upd D x.node ((D x.node).getD 0 + 1) z = D z := by unfold upd; rw [if_neg hz]
      rw [hu]
      simp [hz]
/- What is so while all is told. -/
structure Of (n : Nat) (l : List Pc) (L : Int → Option Nw) (D : Int → Option Int) : Prop where
  a : LA l L
  b : ∀ q ∈ l, (D q.x.node).getD 0 = (q.told : Int)
  c : ∀ x, (L x).isSome = true → (∃ q ∈ l, q.x.node = x) ∨ D x = some (n : Int)
  d : ∀ x, (D x).isSome = true → (L x).isSome = true
theorem node_told {l : List Pc} (hd : (nodes l).Nodup) {k i : Nat} {q : Pc} (hi : l[i]? = some q) : q.x.node ∈ (takeT l k).map Nw.node ↔ i ∈ pks l k := by
  constructor
  · intro h
    obtain ⟨x, hx, e⟩ := List.mem_map.1 h
    obtain ⟨j, q', hj, hq', rfl⟩ := take_mem hx
    rw [nodes_inj hd hi hq' e.symm]
    exact hj
  · intro h
    refine List.mem_map.2 ⟨q.x, ?_, rfl⟩
    unfold takeT tellL
    exact List.mem_map.2 ⟨i, h, nws_at hi⟩
theorem bump_in {l : List Pc} {p : List Nat} {i : Nat} {q : Pc} (h : l[i]? = some q) : bmp p i q ∈ bump l p := by
  have : (bump l p)[i]? = some (bmp p i q) := by rw [bump_get, h]; rfl
  exact List.mem_of_getElem? this
theorem of_take {n : Nat} {l : List Pc} {L : Int → Option Nw} {D : Int → Option Int} (h : Of n l L D) (g : Gd n l) (k : Nat) : Of n (takeR l n k) L (tellD D (takeT l k)) := by
  have hat := tellD_at (takeT l k) D (take_once g k)
  refine ⟨la_take h.a n k, fun q hq => ?_, fun x hx => ?_, fun x hx => ?_⟩
  · obtain ⟨h1, h2⟩ := keep_mem.1 hq
    obtain ⟨i, q', e, rfl⟩ := bump_mem h1
    have hb := h.b q' (List.mem_of_getElem? e)
    rw [bmp_x, hat]
    by_cases hp : i ∈ pks l k
    · rw [if_pos ((node_told g.once e).2 hp)]
      have : bmp (pks l k) i q' = ⟨q'.x, q'.told + 1⟩ := by unfold bmp; rw [if_pos (mm_true.2 hp)]
      rw [this]
      simp [hb]
    · rw [if_neg (fun hh => hp ((node_told g.once e).1 hh))]
      have : bmp (pks l k) i q' = q' := by unfold bmp; rw [if_neg (by rw [mm_false.2 hp]; simp)]
      rw [this]
      exact hb
  · rcases h.c x hx with ⟨q, hq, rfl⟩ | hD
    · obtain ⟨i, hi⟩ := List.mem_iff_getElem?.1 hq
      by_cases ht : (bmp (pks l k) i q).told < n
      · exact .inl ⟨_, keep_mem.2 ⟨bump_in hi, ht⟩, by rw [bmp_x]⟩
      · right
        have hlt := (g.fit q hq).2.2
        by_cases hp : i ∈ pks l k
        · rw [hat, if_pos ((node_told g.once hi).2 hp), h.b q hq]
          have : bmp (pks l k) i q = ⟨q.x, q.told + 1⟩ := by unfold bmp; rw [if_pos (mm_true.2 hp)]
          rw [this] at ht
          simp only at ht
          congr 1
          omega
        · have : bmp (pks l k) i q = q := by unfold bmp; rw [if_neg (by rw [mm_false.2 hp]; simp)]
          rw [this] at ht
          exact absurd hlt ht
    · right
      rw [hat, if_neg, hD]
      intro hm
      obtain ⟨y, hy, e⟩ := List.mem_map.1 hm
      obtain ⟨j, q', _, hq', rfl⟩ := take_mem hy
      have h1 := h.b q' (List.mem_of_getElem? hq')
      have h2 := (g.fit q' (List.mem_of_getElem? hq')).2.2
      rw [e, hD] at h1
      simp at h1
      omega
  · rw [hat] at hx
    by_cases hm : x ∈ (takeT l k).map Nw.node
    · obtain ⟨y, hy, rfl⟩ := List.mem_map.1 hm
      rw [la_told h.a hy]
      rfl
    · rw [if_neg hm] at hx
      exact h.d x hx
/- How much is still to be told. -/
def pot (n : Nat) : List Pc → Nat
  | [] => 0
  | q :: l => (n - q.told) + pot n l
theorem pot_set {n : Nat} : ∀ {xs : List Pc} {k : Nat} {q y : Pc}, xs[k]? = some q → pot n (xs.set k y) + (n - q.told) = pot n xs + (n - y.told)
  | [], k, q, y, h => by simp at h
  | x :: xs, 0, q, y, h => by
    simp at h
    subst h
    simp [pot]
    omega
  | x :: xs, k + 1, q, y, h => by
    simp at h
    have ih := pot_set (n := n) (y := y) h
    simp [pot]
    omega
theorem pot_keep (n : Nat) : ∀ l, pot n (keep n l) = pot n l
  | [] => rfl
  | q :: l => by
    have ih := pot_keep n l
    unfold keep at *
    rw [List.filter_cons]
    by_cases h : q.told < n
    · rw [if_pos (by simpa using h)]
      simp [pot, ih]
    · rw [if_neg (by simpa using h)]
      simp [pot, ih]
      omega
theorem pot_pks {n : Nat} {l : List Pc} (g : Gd n l) : ∀ j, pot n (bump l (pks l j)) + (pks l j).length = pot n l
  | 0 => by
    have : pks l 0 = [] := rfl
    rw [this, bump_nil]
    rfl
  | j + 1 => by
    have ih := pot_pks g j
    cases e : bk l (mm (pks l j)) l.length with
    | none => rw [pks_same e]; exact ih
    | some k =>
      obtain ⟨h1, h2, _⟩ := bk_some e
      have hk := List.getElem?_eq_getElem h1
      have hp := mm_false.1 h2
      have hs := pot_set (n := n) (y := ⟨l[k].x, l[k].told + 1⟩) (bump_at hk hp)
      rw [bump_set hk hp] at hs
      have ht := (g.fit l[k] (List.getElem_mem h1)).2.2
      rw [pks_more e, List.length_append]
      simp only [List.length_singleton] at *
      omega
theorem pot_take {n : Nat} {l : List Pc} (g : Gd n l) {k : Nat} (hk : 1 ≤ k) (hl : l ≠ []) : pot n (takeR l n k) + 1 ≤ pot n l := by
  have h1 := pot_pks g k
  have h2 : pks l k ≠ [] := pks_pos (List.length_pos_iff.2 hl) hk
  have h3 : 0 < (pks l k).length := List.length_pos_iff.2 h2
  unfold takeR
  rw [pot_keep]
  omega
theorem pot_le (n : Nat) : ∀ l, pot n l ≤ l.length * n
  | [] => by simp [pot]
  | q :: l => by
    have ih := pot_le n l
    simp [pot, Nat.add_mul]
    omega
theorem pot_64 {n : Nat} {l : List Pc} (g : Gd n l) : pot n l ≤ 64 * n := Nat.le_trans (pot_le n l) (Nat.mul_le_mul_right _ (gd_len g))
theorem take_empty (n k : Nat) : takeR [] n k = [] := by
  unfold takeR
  have : bump [] (pks [] k) = [] := rfl
  rw [this]
  rfl
/- Behind so many calls: still so much, or nothing. -/
def Lf (n : Nat) (l : List Pc) (r : Nat) : Prop := pot n l + r ≤ 64 * n ∨ l = []
theorem lf_start {n : Nat} {l : List Pc} (g : Gd n l) : Lf n l 0 := .inl (by have := pot_64 g; omega)
theorem lf_next {n : Nat} {l : List Pc} {r : Nat} (g : Gd n l) (h : Lf n l r) {k : Nat} (hk : 1 ≤ k) : Lf n (takeR l n k) (r + 1) := by
  by_cases hl : l = []
  · right
    rw [hl, take_empty]
  · rcases h with h | h
    · left
      have := pot_take g hk hl
      omega
    · exact absurd h hl
theorem lf_end {n : Nat} {l : List Pc} (h : Lf n l (64 * n + 1)) : l = [] := by
  rcases h with h | h
  · omega
  · exact h
theorem of_end {n : Nat} {L : Int → Option Nw} {D : Int → Option Int} (h : Of n [] L D) {x : Int} (hx : (L x).isSome = true) : D x = some (n : Int) := by
  rcases h.c x hx with ⟨q, hq, _⟩ | e
  · simp at hq
  · exact e
theorem of_dom {n : Nat} {L : Int → Option Nw} {D : Int → Option Int} (h : Of n [] L D) : dom D = dom L := dom_ext (fun x => by
  cases hL : (L x).isSome with
  | true => rw [of_end h hL]; rfl
  | false =>
    cases hD : (D x).isSome with
    | false => rfl
    | true => rw [h.d x hD] at hL; cases hL)
/- While they are added. -/
structure Ad (l : List Pc) (L : Int → Option Nw) : Prop where
  a : LA l L
  b : ∀ q ∈ l, q.told = 0
  c : ∀ x, (L x).isSome = true → ∃ q ∈ l, q.x.node = x
theorem ad_nil : Ad [] (fun _ => none) := ⟨la_nil _, fun q hq => by simp at hq, fun x hx => by simp at hx⟩
theorem ad_add {l : List Pc} {L : Int → Option Nw} (h : Ad l L) (x : Nw) : Ad (addP l x) (upd L x.node x) := by
  refine ⟨la_add h.a x, fun q hq => ?_, fun z hz => ?_⟩
  · unfold addP at hq
    rw [List.mem_cons] at hq
    rcases hq with rfl | hq
    · rfl
    · exact h.b q (List.mem_filter.1 hq).1
  · by_cases e : z = x.node
    · exact ⟨⟨x, 0⟩, by unfold addP; simp, e.symm⟩
    · unfold upd at hz
      rw [if_neg e] at hz
      obtain ⟨q, hq, rfl⟩ := h.c z hz
      exact ⟨q, by unfold addP; rw [List.mem_cons]; right; exact List.mem_filter.2 ⟨hq, by simpa using e⟩, rfl⟩
theorem of_start {n : Nat} {l : List Pc} {L : Int → Option Nw} (h : Ad l L) : Of n l L (fun _ => none) :=
  ⟨h.a, fun q hq => by rw [h.b q hq]; rfl, fun x hx => .inl (h.c x hx), fun x hx => by simp at hx⟩
/- A piece that is told now was told less often. -/
theorem told_low {n : Nat} {l : List Pc} {L : Int → Option Nw} {D : Int → Option Int} (h : Of n l L D) (g : Gd n l) {k j : Nat} {x : Nw} (hx : (takeT l k)[j]? = some x) : ∃ c : Nat, c < n ∧ (tellD D ((takeT l k).take j) x.node).getD 0 = (c : Int) := by
  have ho := take_once g k
  have hn := once_next ho hx
  have hd : (((takeT l k).take j).map Nw.node).Nodup := by
    rw [List.map_take]
    exact ho.sublist (List.take_sublist _ _)
  rw [tellD_at _ D hd, if_neg hn]
  obtain ⟨i, q, _, e, rfl⟩ := take_mem (List.mem_of_getElem? hx)
  exact ⟨q.told, (g.fit q (List.mem_of_getElem? e)).2.2, h.b q (List.mem_of_getElem? e)⟩
end Go.Proofs.Ytalcbahnhiibkaa
