/- All in turn: the plain mathematics of ProbeTurns. -/
import Derived.Test.YtgmcjnhijgnadaaProbeMath
import Derived.Test.YtgmcjnhijgnadaaGDom
namespace Go.Proofs.Ytgmcjnhijgnadaa
set_option linter.unusedVariables false
set_option linter.unusedSimpArgs false

/- Whole rows, one behind the other, and what is pinged of the last one. -/
def Tu (p : Pb) (pl : List Int) : Prop := ∃ B : List (List Int), (∀ b ∈ B, b.Perm (others p.self p.n)) ∧ pl = B.flatten ++ p.row.take p.place
theorem tu_new (self : Int) (n : Nat) : Tu (newP self n) [] := ⟨[], by simp, by simp [newP]⟩
theorem tu_tick {p : Pb} {pl : List Int} (h : Tu p pl) (g : Gp p) (hn : p.n ≠ 1) (x : Int) : Tu (tickP p x) (pl ++ [pingT p x]) := by
  obtain ⟨B, hB, rfl⟩ := h
  have ha := pingT_at g x hn
  have e : (tickP p x).row = rowT p x ∧ (tickP p x).place = placeT p + 1 ∧ (tickP p x).self = p.self ∧ (tickP p x).n = p.n := by
    unfold tickP
    rw [if_neg hn]
    exact ⟨rfl, rfl, rfl, rfl⟩
  have ht : (rowT p x).take (placeT p + 1) = (rowT p x).take (placeT p) ++ [pingT p x] := by
    have hk := (List.getElem?_eq_some_iff.1 ha).1
    have e2 := (List.getElem?_eq_some_iff.1 ha).2
    rw [List.take_succ_eq_append_getElem hk, e2]
  by_cases hp : p.place = p.n - 1
  · refine ⟨B ++ [p.row], fun b hb => ?_, ?_⟩
    · rw [e.2.2.1, e.2.2.2]
      rw [List.mem_append] at hb
      rcases hb with hb | hb
      · exact hB b hb
      · simp at hb
        subst hb
        exact g.row
    · rw [e.1, e.2.1, ht]
      have h0 : placeT p = 0 := by unfold placeT; rw [if_pos hp]
      rw [h0, hp, List.take_of_length_le (by rw [gp_len g]; exact Nat.le_refl _)]
      simp
  · refine ⟨B, fun b hb => by rw [e.2.2.1, e.2.2.2]; exact hB b hb, ?_⟩
    rw [e.1, e.2.1, ht]
    have h0 : placeT p = p.place := by unfold placeT; rw [if_neg hp]
    have h1 : rowT p x = p.row := by unfold rowT; rw [if_neg hp]
    rw [h0, h1, List.append_assoc]
theorem tick_n {p : Pb} (x : Int) : (tickP p x).n = p.n ∧ (tickP p x).self = p.self ∧ (tickP p x).ticks = p.ticks + 1 := by
  unfold tickP
  split <;> exact ⟨rfl, rfl, rfl⟩
/- A window of whole rows. -/
theorem blk {m : Nat} (R : List Int) : ∀ (B : List (List Int)) (b : Nat), (∀ c ∈ B, c.length = m) → b < B.length → ∃ c ∈ B, ((B.flatten ++ R).drop (b * m)).take m = c
  | [], b, _, hb => by simp at hb
  | c :: B, 0, h, hb => ⟨c, by simp, by
    have hc := h c (by simp)
    rw [Nat.zero_mul, List.drop_zero, List.flatten_cons, List.append_assoc, ← hc, List.take_left]⟩
  | c :: B, b + 1, h, hb => by
    have hc := h c (by simp)
    obtain ⟨d, h1, h2⟩ := blk R B b (fun c hc => h c (List.mem_cons_of_mem _ hc)) (by simpa using hb)
    refine ⟨d, List.mem_cons_of_mem _ h1, ?_⟩
    rw [List.flatten_cons, List.append_assoc, Nat.add_mul, Nat.one_mul, Nat.add_comm, ← List.drop_drop, ← hc, List.drop_left, hc]
    exact h2
theorem flat_len {m : Nat} : ∀ B : List (List Int), (∀ c ∈ B, c.length = m) → B.flatten.length = B.length * m
  | [], _ => by simp
  | c :: B, h => by
    rw [List.flatten_cons, List.length_append, flat_len B (fun c hc => h c (List.mem_cons_of_mem _ hc)), h c (by simp), List.length_cons, Nat.add_mul]
    omega
theorem tu_block {p : Pb} {pl : List Int} (h : Tu p pl) (g : Gp p) (hn : 2 ≤ p.n) {b : Nat} (hb : b * (p.n - 1) + (p.n - 1) ≤ pl.length) : ((pl.drop (b * (p.n - 1))).take (p.n - 1)).Perm (others p.self p.n) := by
  obtain ⟨B, hB, rfl⟩ := h
  have hl : ∀ c ∈ B, c.length = p.n - 1 := fun c hc => by rw [(hB c hc).length_eq, others_one g.s1 g.s2]
  have hf := flat_len B hl
  by_cases hlt : b < B.length
  · obtain ⟨c, h1, h2⟩ := blk (p.row.take p.place) B b hl hlt
    rw [h2]
    exact hB c h1
  · rw [List.length_append, hf, List.length_take, gp_len g] at hb
    have hm : 1 ≤ p.n - 1 := by omega
    have hbe : b = B.length := by
      rcases Nat.lt_or_ge B.length b with h1 | h1
      · exfalso
        have : (B.length + 1) * (p.n - 1) ≤ b * (p.n - 1) := Nat.mul_le_mul_right _ h1
        rw [Nat.add_mul, Nat.one_mul] at this
        omega
      · omega
    subst hbe
    have hp : p.place = p.n - 1 := by have := g.pl; omega
    rw [← hf, List.drop_left, hp, List.take_of_length_le (l := p.row) (by rw [gp_len g]; exact Nat.le_refl _), List.take_of_length_le (by rw [gp_len g]; exact Nat.le_refl _)]
    exact g.row
theorem tu_mem {p : Pb} {pl : List Int} (h : Tu p pl) (g : Gp p) {x : Int} (hx : x ∈ pl) : x ∈ others p.self p.n := by
  obtain ⟨B, hB, rfl⟩ := h
  rw [List.mem_append] at hx
  rcases hx with hx | hx
  · obtain ⟨b, hb, hxb⟩ := List.mem_flatten.1 hx
    exact (hB b hb).mem_iff.1 hxb
  · exact g.row.mem_iff.1 (List.mem_of_mem_take hx)
/- In any window that is long enough stands a whole row. -/
theorem tu_window {p : Pb} {pl : List Int} (h : Tu p pl) (g : Gp p) (hn : 2 ≤ p.n) {f : Nat} (hf : f + (2 * (p.n - 1) - 1) ≤ pl.length) {x : Int} : x ∈ (pl.drop f).take (2 * (p.n - 1) - 1) ↔ x ∈ others p.self p.n := by
  constructor
  · intro hx
    exact tu_mem h g (List.mem_of_mem_drop (List.mem_of_mem_take hx))
  · intro hx
    have hm : 1 ≤ p.n - 1 := by omega
    generalize hM : p.n - 1 = m at *
    -- the first whole row from f on
    obtain ⟨b, h1, h2⟩ : ∃ b, f ≤ b * m ∧ b * m < f + m := by
      refine ⟨(f + m - 1) / m, ?_, ?_⟩
      · have := Nat.div_add_mod (f + m - 1) m
        have h3 := Nat.mod_lt (f + m - 1) (show m > 0 by omega)
        rw [Nat.mul_comm] at this
        omega
      · have := Nat.div_mul_le_self (f + m - 1) m
        omega
    have hb : b * (p.n - 1) + (p.n - 1) ≤ pl.length := by rw [hM]; omega
    have hp := tu_block h g hn hb
    rw [hM] at hp
    have hxb := hp.mem_iff.2 hx
    obtain ⟨i, hi⟩ := List.mem_iff_getElem?.1 hxb
    have him : i < m := by
      have := (List.getElem?_eq_some_iff.1 hi).1
      rw [List.length_take] at this
      omega
    rw [List.getElem?_take, if_pos him, List.getElem?_drop] at hi
    refine List.mem_iff_getElem?.2 ⟨b * m - f + i, ?_⟩
    rw [List.getElem?_take, if_pos (by omega), List.getElem?_drop, show f + (b * m - f + i) = b * m + i by omega]
    exact hi
/- Those that were seen. -/
def snI (xs : List Int) (q : Int) : Option Bool := if q ∈ xs then some true else none
theorem snI_nil : snI [] = fun _ => none := by funext q; simp [snI]
theorem snI_more (xs : List Int) (x : Int) : snI (xs ++ [x]) = upd (snI xs) x true := by
  funext q
  unfold snI upd
  by_cases e : q = x
  · simp [e]
  · simp [e]
theorem snI_dom : ∀ {xs : List Int}, xs.Nodup → (∀ x ∈ xs, okU x) → dom (snI xs) = xs.length
  | [], _, _ => by rw [snI_nil]; exact dom_none
  | x :: xs, hd, hk => by
    rw [List.nodup_cons] at hd
    have ih := snI_dom hd.2 (fun v hv => hk v (List.mem_cons_of_mem _ hv))
    have e : snI (x :: xs) = upd (snI xs) x true := by
      funext q
      unfold snI upd
      by_cases e : q = x
      · simp [e]
      · simp [e]
    have hn : snI xs x = none := by unfold snI; rw [if_neg hd.1]
    rw [e, dom_upd _ (hk x (by simp)), ih, hn]
    simp
theorem seen_all {p : Pb} (g : Gp p) {xs : List Int} (h : ∀ x, x ∈ xs ↔ x ∈ others p.self p.n) : dom (snI xs) = p.n - 1 := by
  have e : dom (snI xs) = dom (snI (others p.self p.n)) := dom_ext (fun x => by
    unfold snI
    by_cases hx : x ∈ xs
    · rw [if_pos hx, if_pos ((h x).1 hx)]
    · rw [if_neg hx, if_neg (fun hh => hx ((h x).2 hh))])
  rw [e, snI_dom (others_once _ _) (fun x hx => by have h1 := others_mem.1 hx; have h2 := g.n2; exact ⟨h1.1, by omega⟩), others_one g.s1 g.s2]
theorem seen_self {p : Pb} {xs : List Int} (h : ∀ x, x ∈ xs ↔ x ∈ others p.self p.n) : snI xs p.self = none := by
  unfold snI
  rw [if_neg]
  intro hx
  have := others_mem.1 ((h _).1 hx)
  omega
end Go.Proofs.Ytgmcjnhijgnadaa
