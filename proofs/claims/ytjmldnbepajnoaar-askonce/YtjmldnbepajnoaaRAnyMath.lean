/- Plain mathematics: answers of unlike nodes, in one order and in another one, leave the same. -/
import Derived.Test.YtjmldnbepajnoaaRAkDuo
namespace Go.Proofs.YtjmldnbepajnoaaR
set_option linter.unusedVariables false
set_option linter.unusedSimpArgs false

structure Rv (u : Int) (M : List Opn) (q : Aq) : Prop where
  till : q.u = u
  off : ∀ k, q.come k = false → q.rp k = zeroRp
  big : ∀ k, 256 ≤ k → q.come k = false
  on : ∀ o ∈ M, q.come o.node.toNat = true → q.rp o.node.toNat = o.x
theorem rv_new (l : List Int) (u : Int) : Rv u [] (newQ l u) := ⟨rfl, fun _ _ => rfl, fun _ _ => rfl, fun o ho => by simp at ho⟩
theorem rv_take {key : ByteArray} {l : List Int} {u : Int} {M : List Opn} {q : Aq} (f : Fi key l M q) (r : Rv u M q) {o : Opn} (hn : okU o.node) (hM : ∀ m ∈ M, okU m.node ∧ m.node ≠ o.node) : Rv u (M ++ [o]) (takeQ q o.node o.x) := by
  have h1 := fi_may f hn
  have hno : inL (nodesL M) o.node = false := by
    rw [inL_no]
    intro h
    unfold nodesL at h
    obtain ⟨m, hm, e⟩ := List.mem_map.1 h
    exact (hM m hm).2 e
  cases h : mayT q o.node with
  | true =>
    rw [take_yes h]
    refine ⟨r.till, fun k hk => ?_, fun k hk => ?_, fun m hm hc => ?_⟩
    · have hk' : upN q.come o.node.toNat true k = false := hk
      show upN q.rp o.node.toNat o.x k = zeroRp
      unfold upN at *
      by_cases e : k = o.node.toNat
      · rw [if_pos e] at hk'; cases hk'
      · rw [if_neg e] at hk' ⊢; exact r.off k hk'
    · show upN q.come o.node.toNat true k = false
      unfold upN
      rw [if_neg (by have := hn.2; have := hn.1; omega)]
      exact r.big k hk
    · show upN q.rp o.node.toNat o.x m.node.toNat = m.x
      have hc' : upN q.come o.node.toNat true m.node.toNat = true := hc
      unfold upN at *
      rcases List.mem_append.1 hm with hm | hm
      · obtain ⟨g1, g2⟩ := hM m hm
        have e : ¬ m.node.toNat = o.node.toNat := by have := g1.1; have := hn.1; omega
        rw [if_neg e] at hc' ⊢
        exact r.on m hm hc'
      · simp at hm
        subst hm
        rw [if_pos rfl]
  | false =>
    rw [take_no h]
    refine ⟨r.till, r.off, r.big, fun m hm hc => ?_⟩
    rcases List.mem_append.1 hm with hm | hm
    · exact r.on m hm hc
    · simp at hm
      subst hm
      rw [f.come m.node hn, hno] at hc
      simp at hc
theorem aq_ext {q p : Aq} (h1 : q.l = p.l) (h2 : q.u = p.u) (h3 : ∀ k, q.come k = p.come k) (h4 : ∀ k, q.rp k = p.rp k) : q = p := by
  cases q
  cases p
  simp only at h1 h2 h3 h4
  subst h1 h2
  have e3 := funext h3
  have e4 := funext h4
  subst e3 e4
  rfl
theorem same_state {key : ByteArray} {l : List Int} {u : Int} {P M : List Opn} {q p : Aq} (f : Fi key l P q) (r : Rv u P q) (f2 : Fi key l M p) (r2 : Rv u M p) (h : ∀ o, o ∈ P ↔ o ∈ M) : q = p := by
  have hin : ∀ n, inL (nodesL P) n = inL (nodesL M) n := fun n => by
    rw [Bool.eq_iff_iff, inL_iff, inL_iff]
    unfold nodesL
    rw [List.mem_map, List.mem_map]
    exact ⟨fun ⟨o, ho, e⟩ => ⟨o, (h o).1 ho, e⟩, fun ⟨o, ho, e⟩ => ⟨o, (h o).2 ho, e⟩⟩
  have hcome : ∀ k, q.come k = p.come k := fun k => by
    by_cases hk : k < 256
    · have hok : okU (k : Int) := ⟨by omega, by omega⟩
      have a := f.come (k : Int) hok
      have b := f2.come (k : Int) hok
      simp only [Int.toNat_natCast] at a b
      rw [a, b, hin]
    · rw [r.big k (by omega), r2.big k (by omega)]
  refine aq_ext (f.nl.trans f2.nl.symm) (r.till.trans r2.till.symm) hcome (fun k => ?_)
  cases hc : q.come k with
  | false => rw [r.off k hc, r2.off k (by rw [← hcome]; exact hc)]
  | true =>
    have hk : k < 256 := by
      rcases Nat.lt_or_ge k 256 with e | e
      · exact e
      · rw [r.big k e] at hc; cases hc
    have a := f.come (k : Int) ⟨by omega, by omega⟩
    simp only [Int.toNat_natCast] at a
    rw [hc] at a
    have h2 : inL (nodesL P) (k : Int) = true := by
      cases e : inL (nodesL P) (k : Int) with
      | true => rfl
      | false => rw [e] at a; simp at a
    rw [inL_iff] at h2
    unfold nodesL at h2
    obtain ⟨o, ho, e⟩ := List.mem_map.1 h2
    have e2 : o.node.toNat = k := by omega
    have x1 := r.on o ho (by rw [e2]; exact hc)
    have x2 := r2.on o ((h o).1 ho) (by rw [e2, ← hcome]; exact hc)
    rw [e2] at x1 x2
    rw [x1, x2]
/- The other order. -/
def rot (n k i : Nat) : Nat := if i ≤ n then n - i else n + k - i
theorem rot_lt {n k i : Nat} (hn : n < k) (hi : i < k) : rot n k i < k := by unfold rot; split <;> omega
theorem rot_inj {n k i j : Nat} (hn : n < k) (hi : i < k) (hj : j < k) (h : rot n k i = rot n k j) : i = j := by
  unfold rot at h
  split at h <;> split at h <;> omega
theorem rot_rot {n k i : Nat} (hn : n < k) (hi : i < k) : rot n k (rot n k i) = i := by
  unfold rot
  split <;> split <;> omega
theorem rot_rem {n k i : Nat} (hn : n < k) (hi : i < k) : Int.tmod ((n : Int) + (k : Int) - (i : Int)) (k : Int) = (rot n k i : Int) := by
  rw [Int.tmod_eq_emod_of_nonneg (by omega)]
  unfold rot
  by_cases h : i ≤ n
  · rw [if_pos h]
    have e : (n : Int) + (k : Int) - (i : Int) = ((n - i : Nat) : Int) + (k : Int) := by omega
    rw [e, Int.add_emod_right, Int.emod_eq_of_lt (by omega) (by omega)]
  · rw [if_neg h, Int.emod_eq_of_lt (by omega) (by omega)]
    omega
def walkL (P : List Opn) (n : Nat) (i : Nat) : List Opn := (List.range i).map (fun j => P.getD (rot n P.length j) zeroOp)
theorem walk_next (P : List Opn) (n i : Nat) : walkL P n (i + 1) = walkL P n i ++ [P.getD (rot n P.length i) zeroOp] := by unfold walkL; rw [List.range_succ, List.map_append]; rfl
theorem getD_at {P : List Opn} {t : Nat} {o : Opn} (h : P[t]? = some o) : P.getD t zeroOp = o := by rw [List.getD_eq_getElem?_getD, h]; rfl
theorem walk_mem {P : List Opn} {n i : Nat} {o : Opn} : o ∈ walkL P n i ↔ ∃ j < i, P.getD (rot n P.length j) zeroOp = o := by
  unfold walkL
  rw [List.mem_map]
  simp only [List.mem_range]
theorem walk_all {P : List Opn} {n : Nat} (hn : n < P.length) (o : Opn) : o ∈ P ↔ o ∈ walkL P n P.length := by
  rw [walk_mem]
  constructor
  · intro h
    obtain ⟨t, ht⟩ := List.mem_iff_getElem?.1 h
    have hl := (List.getElem?_eq_some_iff.1 ht).1
    exact ⟨rot n P.length t, rot_lt hn hl, by rw [rot_rot hn hl]; exact getD_at ht⟩
  · rintro ⟨j, hj, e⟩
    have hl := rot_lt hn hj
    rw [getD_at (List.getElem?_eq_getElem hl)] at e
    rw [← e]
    exact List.getElem_mem hl
/- Unlike nodes. -/
def Apart (P : List Opn) : Prop := ∀ (i j : Nat) (x y : Opn), P[i]? = some x → P[j]? = some y → x.node = y.node → i = j
theorem apart_take {P : List Opn} (h : Apart P) {i : Nat} {o : Opn} (ho : P[i]? = some o) : ∀ m ∈ P.take i, m.node ≠ o.node := by
  intro m hm e
  obtain ⟨j, hj⟩ := List.mem_iff_getElem?.1 hm
  rw [List.getElem?_take] at hj
  split at hj
  · have := h j i m o hj ho e; omega
  · cases hj
theorem apart_walk {P : List Opn} (h : Apart P) {n i : Nat} (hn : n < P.length) (hi : i < P.length) {o : Opn} (ho : P[rot n P.length i]? = some o) : ∀ m ∈ walkL P n i, m.node ≠ o.node := by
  intro m hm e
  obtain ⟨j, hj, hjm⟩ := walk_mem.1 hm
  have hl := rot_lt hn (show j < P.length by omega)
  have hg : P[rot n P.length j]? = some m := by
    rw [getD_at (List.getElem?_eq_getElem hl)] at hjm
    rw [List.getElem?_eq_getElem hl, hjm]
  have := rot_inj hn (by omega) hi (h _ _ m o hg ho e)
  omega
theorem apart_nil : Apart [] := fun i j x y hx => by simp at hx
theorem apart_app {P : List Opn} (h : Apart P) {o : Opn} (hn : inL (nodesL P) o.node = false) : Apart (P ++ [o]) := by
  have hno : ∀ x ∈ P, x.node ≠ o.node := fun x hx e => by
    rw [inL_no] at hn
    exact hn (by unfold nodesL; exact List.mem_map.2 ⟨x, hx, e⟩)
  intro i j x y hx hy e
  have hi := (List.getElem?_eq_some_iff.1 hx).1
  have hj := (List.getElem?_eq_some_iff.1 hy).1
  rw [List.length_append] at hi hj
  simp at hi hj
  by_cases h1 : i < P.length
  · rw [List.getElem?_append_left h1] at hx
    by_cases h2 : j < P.length
    · rw [List.getElem?_append_left h2] at hy
      exact h i j x y hx hy e
    · have e2 : j = P.length := by omega
      subst e2
      simp at hy
      subst hy
      exact absurd e (hno x (List.mem_of_getElem? hx))
  · have e1 : i = P.length := by omega
    subst e1
    simp at hx
    subst hx
    by_cases h2 : j < P.length
    · rw [List.getElem?_append_left h2] at hy
      exact absurd e.symm (hno y (List.mem_of_getElem? hy))
    · omega
end Go.Proofs.YtjmldnbepajnoaaR
