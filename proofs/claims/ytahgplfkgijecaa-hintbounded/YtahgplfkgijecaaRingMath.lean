/- The plain mathematics of owners: of nodes from 0 to 63 the two of the greatest weights; what becomes of them without a node, and with one more. No condition. -/
import Derived.Test.YtahgplfkgijecaaMixTexts
namespace Go.Proofs.Ytahgplfkgijecaa
set_option linter.unusedVariables false
set_option linter.unusedSimpArgs false

def bst (W : Int → Int) (p : Int → Bool) : Nat → Option Int
  | 0 => none
  | k + 1 => match bst W p k with
    | none => if p (k : Int) then some (k : Int) else none
    | some b => if p (k : Int) && decide (W b < W (k : Int)) then some (k : Int) else some b
/- It is better: of more weight, or of the same and the lesser number. -/
def Bt (W : Int → Int) (a n : Int) : Prop := W n < W a ∨ (W n = W a ∧ a < n)
structure Top (W : Int → Int) (p : Int → Bool) (k : Nat) (a : Int) : Prop where
  lo : 0 ≤ a
  hi : a < k
  has : p a = true
  top : ∀ n : Int, 0 ≤ n → n < k → p n = true → n ≠ a → Bt W a n
section
variable {W : Int → Int} {p q : Int → Bool} {k : Nat} {a b n x : Int}
theorem bst_both (W : Int → Int) (p : Int → Bool) : ∀ k, (∀ a, bst W p k = some a → Top W p k a) ∧ (bst W p k = none → ∀ n, 0 ≤ n → n < (k : Int) → p n = false)
  | 0 => ⟨fun a h => (by cases h), fun _ n h1 h2 => (by omega)⟩
  | k + 1 => by
    obtain ⟨h1, h2⟩ := bst_both W p k
    unfold bst
    cases hb : bst W p k with
    | none =>
      have h3 := h2 hb
      cases hp : p (k : Int) with
      | true =>
        refine ⟨fun a h => ?_, fun h => (by simp at h)⟩
        simp at h
        subst h
        exact ⟨by omega, by omega, hp, fun n n1 n2 n3 n4 => by rw [h3 n n1 (by omega)] at n3; cases n3⟩
      | false =>
        refine ⟨fun a h => (by simp at h), fun _ n n1 n2 => ?_⟩
        by_cases e : n = (k : Int)
        · rw [e]; exact hp
        · exact h3 n n1 (by omega)
    | some b =>
      have h3 := h1 b hb
      refine ⟨fun a h => ?_, fun h => ?_⟩
      · simp only at h
        split at h
        · rename_i hc
          rw [Bool.and_eq_true, decide_eq_true_eq] at hc
          injection h with h
          subst h
          refine ⟨by omega, by omega, hc.1, fun n n1 n2 n3 n4 => ?_⟩
          by_cases e : n = b
          · rw [e]; exact .inl hc.2
          · rcases h3.top n n1 (by omega) n3 e with g | ⟨g, _⟩
            · exact .inl (by omega)
            · exact .inl (by omega)
        · rename_i hc
          injection h with h
          subst h
          refine ⟨h3.lo, by have := h3.hi; omega, h3.has, fun n n1 n2 n3 n4 => ?_⟩
          by_cases e : n = (k : Int)
          · subst e
            rw [n3, Bool.true_and, decide_eq_true_eq] at hc
            by_cases g : W (k : Int) = W b
            · exact .inr ⟨g, h3.hi⟩
            · exact .inl (by omega)
          · exact h3.top n n1 (by omega) n3 n4
      · simp only at h
        split at h <;> cases h
theorem bst_some (h : bst W p k = some a) : Top W p k a := (bst_both W p k).1 a h
theorem bst_none (h : bst W p k = none) : ∀ n, 0 ≤ n → n < (k : Int) → p n = false := (bst_both W p k).2 h
theorem top_one (h : Top W p k a) (g : Top W p k b) : a = b := by
  refine Classical.byContradiction fun e => ?_
  have h1 := h.top b g.lo g.hi g.has (fun x => e x.symm)
  have h2 := g.top a h.lo h.hi h.has e
  unfold Bt at h1 h2
  omega
theorem bst_of (h : Top W p k a) : bst W p k = some a := by
  cases hb : bst W p k with
  | none => have := bst_none hb a h.lo h.hi; rw [h.has] at this; cases this
  | some b => rw [top_one h (bst_some hb)]
theorem bst_no (h : ∀ n, 0 ≤ n → n < (k : Int) → p n = false) : bst W p k = none := by
  cases hb : bst W p k with
  | none => rfl
  | some b => have g := bst_some hb; have := h b g.lo g.hi; rw [g.has] at this; cases this
theorem bst_ext (h : ∀ n, 0 ≤ n → n < (k : Int) → p n = q n) : bst W p k = bst W q k := by
  cases hb : bst W p k with
  | none => exact (bst_no (fun n h1 h2 => by rw [← h n h1 h2]; exact bst_none hb n h1 h2)).symm
  | some b =>
    have g := bst_some hb
    exact (bst_of ⟨g.lo, g.hi, by rw [← h b g.lo g.hi]; exact g.has, fun n h1 h2 h3 h4 => g.top n h1 h2 (by rw [h n h1 h2]; exact h3) h4⟩).symm
end
/- But one. -/
def wo (p : Int → Bool) (a : Int) (n : Int) : Bool := p n && !decide (n = a)
def own (W : Int → Int) (p : Int → Bool) : List Int :=
  match bst W p 64 with
  | none => []
  | some a => a :: (match bst W (wo p a) 64 with | none => [] | some b => [b])
section
variable {W : Int → Int} {p q : Int → Bool} {a b n x : Int}
theorem wo_true : wo p a n = true ↔ p n = true ∧ n ≠ a := by unfold wo; simp
theorem own_ext (h : ∀ n, 0 ≤ n → n < 64 → p n = q n) : own W p = own W q := by
  unfold own
  rw [bst_ext (k := 64) h]
  cases bst W q 64 with
  | none => rfl
  | some a => simp only; rw [bst_ext (k := 64) (p := wo p a) (q := wo q a) (fun n h1 h2 => by unfold wo; rw [h n h1 h2])]
theorem own_nil (h : bst W p 64 = none) : own W p = [] := by unfold own; rw [h]
theorem own_one (h : bst W p 64 = some a) (g : bst W (wo p a) 64 = none) : own W p = [a] := by unfold own; rw [h]; simp only; rw [g]
theorem own_two (h : bst W p 64 = some a) (g : bst W (wo p a) 64 = some b) : own W p = [a, b] := by unfold own; rw [h]; simp only; rw [g]
theorem own_cases (W : Int → Int) (p : Int → Bool) : (own W p = [] ∧ bst W p 64 = none) ∨ (∃ a, own W p = [a] ∧ bst W p 64 = some a ∧ bst W (wo p a) 64 = none) ∨ ∃ a b, own W p = [a, b] ∧ bst W p 64 = some a ∧ bst W (wo p a) 64 = some b := by
  cases h : bst W p 64 with
  | none => exact .inl ⟨own_nil h, rfl⟩
  | some a =>
    cases g : bst W (wo p a) 64 with
    | none => exact .inr (.inl ⟨a, own_one h g, rfl, g⟩)
    | some b => exact .inr (.inr ⟨a, b, own_two h g, rfl, g⟩)
theorem own_len (W : Int → Int) (p : Int → Bool) : (own W p).length ≤ 2 := by
  rcases own_cases W p with ⟨h, _⟩ | ⟨a, h, _⟩ | ⟨a, b, h, _⟩ <;> rw [h] <;> simp
theorem own_in (h : n ∈ own W p) : 0 ≤ n ∧ n < 64 ∧ p n = true := by
  rcases own_cases W p with ⟨e, _⟩ | ⟨a, e, g, _⟩ | ⟨a, b, e, g1, g2⟩ <;> rw [e] at h
  · cases h
  · simp at h
    subst h
    have := bst_some g
    exact ⟨this.lo, this.hi, this.has⟩
  · simp at h
    rcases h with rfl | rfl
    · have := bst_some g1
      exact ⟨this.lo, this.hi, this.has⟩
    · have := bst_some g2
      exact ⟨this.lo, this.hi, (wo_true.1 this.has).1⟩
/- Without one that isn't the best, the best is the same. -/
theorem top_less {k : Nat} (h : Top W p k a) (e : a ≠ x) : Top W (wo p x) k a :=
  ⟨h.lo, h.hi, wo_true.2 ⟨h.has, e⟩, fun n h1 h2 h3 h4 => h.top n h1 h2 (wo_true.1 h3).1 h4⟩
theorem none_less {k : Nat} (h : bst W p k = none) : bst W (wo p x) k = none := bst_no (fun n h1 h2 => by unfold wo; rw [bst_none h n h1 h2]; rfl)
theorem wo_swap (p : Int → Bool) (a x : Int) : wo (wo p x) a = wo (wo p a) x := by
  funext n
  unfold wo
  cases p n <;> simp [Bool.and_comm]
theorem own_stay (h : n ∈ own W p) (e : n ≠ x) : n ∈ own W (wo p x) := by
  rcases own_cases W p with ⟨e1, _⟩ | ⟨a, e1, g, _⟩ | ⟨a, b, e1, g1, g2⟩ <;> rw [e1] at h
  · cases h
  · simp at h
    subst h
    have g3 := bst_of (top_less (bst_some g) e)
    unfold own
    rw [g3]
    simp
  · simp at h
    rcases h with rfl | rfl
    · have g3 := bst_of (top_less (bst_some g1) e)
      unfold own
      rw [g3]
      simp
    · by_cases ea : a = x
      · subst ea
        unfold own
        rw [g2]
        simp
      · have g3 := bst_of (top_less (bst_some g1) ea)
        have g4 := bst_of (top_less (bst_some g2) e)
        rw [← wo_swap] at g4
        rw [own_two g3 g4]
        simp
theorem own_same (h : x ∉ own W p) : own W (wo p x) = own W p := by
  rcases own_cases W p with ⟨e1, g⟩ | ⟨a, e1, g1, g2⟩ | ⟨a, b, e1, g1, g2⟩ <;> rw [e1] at h ⊢
  · exact own_nil (none_less g)
  · simp at h
    have g3 := bst_of (top_less (bst_some g1) (fun e => h e.symm))
    exact own_one g3 (by rw [wo_swap]; exact none_less g2)
  · simp at h
    have g3 := bst_of (top_less (bst_some g1) (fun e => h.1 e.symm))
    have g4 := bst_of (top_less (bst_some g2) (fun e => h.2 e.symm))
    exact own_two g3 (by rw [wo_swap]; exact g4)
theorem own_gone : x ∉ own W (wo p x) := fun h => (wo_true.1 (own_in h).2.2).2 rfl
/- With one more. -/
def wi (p : Int → Bool) (x : Int) (n : Int) : Bool := p n || decide (n = x)
theorem wi_wo (h : p x = false) : wo (wi p x) x = p := by
  funext n
  unfold wo wi
  by_cases e : n = x
  · subst e; simp [h]
  · simp [e]
theorem wi_in (h : p x = true) : wi p x = p := by
  funext n
  unfold wi
  by_cases e : n = x
  · subst e; simp [h]
  · simp [e]
theorem own_more (h : n ∈ own W (wi p x)) (e : n ≠ x) : n ∈ own W p := by
  cases hp : p x with
  | true => rw [wi_in hp] at h; exact h
  | false =>
    have := own_stay h e
    rw [wi_wo hp] at this
    exact this
/- How many are lost. -/
def lostN (l m : List Int) : Nat := (l.filter (fun n => !decide (n ∈ m))).length
theorem lost_one (W : Int → Int) (p : Int → Bool) (x : Int) : lostN (own W p) (own W (wi p x)) ≤ 1 := by
  have two : ∀ (a b : Int) (m : List Int), a ∈ m ∨ b ∈ m → lostN [a, b] m ≤ 1 := fun a b m h => by
    unfold lostN
    rcases h with h | h
    · have h1 : (!decide (a ∈ m)) = false := by simp [h]
      rw [List.filter_cons_of_neg (by rw [h1]; simp)]
      exact List.length_filter_le _ [b]
    · have h1 : (!decide (b ∈ m)) = false := by simp [h]
      have : ([a, b] : List Int) = [a] ++ [b] := rfl
      rw [this, List.filter_append, List.filter_cons_of_neg (l := []) (a := b) (by rw [h1]; simp)]
      simp only [List.filter_nil, List.append_nil]
      exact List.length_filter_le _ [a]
  rcases own_cases W p with ⟨e1, _⟩ | ⟨a, e1, _⟩ | ⟨a, b, e1, g1, g2⟩ <;> rw [e1]
  · unfold lostN; simp
  · unfold lostN; exact List.length_filter_le _ [a]
  · refine two a b _ ?_
    cases hp : p x with
    | true => rw [wi_in hp, e1]; simp
    | false =>
      rcases own_cases W (wi p x) with ⟨e2, k1⟩ | ⟨c, e2, k1, k2⟩ | ⟨c, d, e2, k1, k2⟩
      · have h3 := bst_none k1 a (bst_some g1).lo (bst_some g1).hi
        unfold wi at h3
        rw [(bst_some g1).has] at h3
        cases h3
      · by_cases ec : c = x
        · subst ec
          rw [wi_wo hp, g1] at k2
          cases k2
        · have hc : c ∈ own W p := own_more (x := x) (by rw [e2]; simp) ec
          rw [e1] at hc
          simp at hc
          rw [e2]
          simp
          rcases hc with hc | hc
          · exact .inl hc.symm
          · exact .inr hc.symm
      · by_cases ec : c = x
        · subst ec
          rw [wi_wo hp, g1] at k2
          injection k2 with k2
          rw [e2, k2]
          simp
        · have hc : c ∈ own W p := own_more (x := x) (by rw [e2]; simp) ec
          rw [e1] at hc
          simp at hc
          rw [e2]
          simp
          rcases hc with hc | hc
          · exact .inl (.inl hc.symm)
          · exact .inr (.inl hc.symm)
/- Nobody has more weight. -/
theorem own_first (h1 : 0 ≤ n) (h2 : n < 64) (h3 : p n = true) : ∃ a l, own W p = a :: l ∧ (n = a ∨ ∃ b, l = [b] ∧ W n ≤ W b ∧ W n ≤ W a) := by
  rcases own_cases W p with ⟨e1, g⟩ | ⟨a, e1, g1, g2⟩ | ⟨a, b, e1, g1, g2⟩
  · have := bst_none g n h1 h2
    rw [h3] at this
    cases this
  · refine ⟨a, [], e1, ?_⟩
    by_cases e : n = a
    · exact .inl e
    · have := bst_none g2 n h1 h2
      rw [wo_true.2 ⟨h3, e⟩] at this
      cases this
  · refine ⟨a, [b], e1, ?_⟩
    by_cases e : n = a
    · exact .inl e
    · refine .inr ⟨b, rfl, ?_, ?_⟩
      · by_cases e2 : n = b
        · rw [e2]; exact Int.le_refl _
        · have := (bst_some g2).top n h1 h2 (wo_true.2 ⟨h3, e⟩) e2
          unfold Bt at this
          omega
      · have := (bst_some g1).top n h1 h2 h3 e
        unfold Bt at this
        omega
theorem own_full (ha : 0 ≤ a) (ha2 : a < 64) (hpa : p a = true) (hb : 0 ≤ b) (hb2 : b < 64) (hpb : p b = true) (e : a ≠ b) : (own W p).length = 2 := by
  rcases own_cases W p with ⟨e1, g⟩ | ⟨c, e1, g1, g2⟩ | ⟨c, d, e1, g1, g2⟩
  · have := bst_none g a ha ha2
    rw [hpa] at this
    cases this
  · by_cases e2 : a = c
    · have := bst_none g2 b hb hb2
      rw [wo_true.2 ⟨hpb, fun h => e (by rw [e2, h])⟩] at this
      cases this
    · have := bst_none g2 a ha ha2
      rw [wo_true.2 ⟨hpa, e2⟩] at this
      cases this
  · rw [e1]; rfl
end
/- Of rows of nodes. -/
def mem (l : List Int) (n : Int) : Bool := decide (n ∈ l)
def wt (key : ByteArray) (n : Int) : Int := twoI (textI key.data.toList key.size) (n + 1)
def owners (key : ByteArray) (l : List Int) : List Int := own (wt key) (mem l)
/- The same, whatever their order. -/
def sameO (x y : List Int) : Bool := decide (x.length = y.length) && x.all (mem y)
theorem sameO_self (x : List Int) : sameO x x = true := by
  unfold sameO mem
  simp
def moved (keys : List ByteArray) (a b : List Int) : List ByteArray := keys.filter (fun k => !sameO (owners k a) (owners k b))
theorem moved_self (keys : List ByteArray) (a : List Int) : moved keys a a = [] := by
  unfold moved
  rw [List.filter_eq_nil_iff]
  intro k _
  rw [sameO_self]
  simp
theorem owners_ext {key : ByteArray} {l m : List Int} (h : ∀ n, n ∈ l ↔ n ∈ m) : owners key l = owners key m := own_ext (fun n _ _ => by unfold mem; rw [Bool.eq_iff_iff, decide_eq_true_eq, decide_eq_true_eq]; exact h n)
theorem owners_len (key : ByteArray) (l : List Int) : (owners key l).length ≤ 2 := own_len _ _
theorem owners_in {key : ByteArray} {l : List Int} {n : Int} (h : n ∈ owners key l) : 0 ≤ n ∧ n < 64 ∧ n ∈ l := by
  obtain ⟨h1, h2, h3⟩ := own_in h
  exact ⟨h1, h2, of_decide_eq_true h3⟩
theorem mem_less (l : List Int) (x : Int) : mem (l.filter (fun n => n != x)) = wo (mem l) x := by
  funext n
  unfold mem wo
  rw [Bool.eq_iff_iff, decide_eq_true_eq, List.mem_filter]
  simp
theorem mem_more (l : List Int) (x : Int) : mem (l ++ [x]) = wi (mem l) x := by
  funext n
  unfold mem wi
  rw [Bool.eq_iff_iff, decide_eq_true_eq, List.mem_append]
  simp
theorem owners_same {key : ByteArray} {l : List Int} {x : Int} (h : x ∉ owners key l) : owners key (l.filter (fun n => n != x)) = owners key l := by
  unfold owners at *
  rw [mem_less]
  exact own_same h
theorem owners_stay {key : ByteArray} {l : List Int} {x n : Int} (h : n ∈ owners key l) (e : n ≠ x) : n ∈ owners key (l.filter (fun n => n != x)) := by
  unfold owners at *
  rw [mem_less]
  exact own_stay h e
theorem owners_gone {key : ByteArray} {l : List Int} {x : Int} : x ∉ owners key (l.filter (fun n => n != x)) := by
  unfold owners
  rw [mem_less]
  exact own_gone
theorem owners_more {key : ByteArray} {l : List Int} {x n : Int} (h : n ∈ owners key (l ++ [x])) (e : n ≠ x) : n ∈ owners key l := by
  unfold owners at *
  rw [mem_more] at h
  exact own_more h e
theorem owners_lost (key : ByteArray) (l : List Int) (x : Int) : lostN (owners key l) (owners key (l ++ [x])) ≤ 1 := by
  unfold owners
  rw [mem_more]
  exact lost_one _ _ _
theorem owners_turned {key : ByteArray} {l : List Int} {k : Nat} : owners key (l.drop k ++ l) = owners key l := owners_ext (fun n => by
  rw [List.mem_append]
  constructor
  · rintro (h | h)
    · exact List.mem_of_mem_drop h
    · exact h
  · exact fun h => .inr h)
theorem owners_none (key : ByteArray) : owners key [] = [] := own_nil (bst_no (fun n _ _ => rfl))
theorem owners_33 (key : ByteArray) : owners key [3, 3] = [3] := by
  have h : Top (wt key) (mem [3, 3]) 64 3 := ⟨by decide, by decide, by decide, fun n _ _ h1 h2 => by
    unfold mem at h1
    simp at h1
    exact absurd h1 h2⟩
  refine own_one (bst_of h) (bst_no (fun n _ _ => ?_))
  unfold wo mem
  by_cases e : n = 3
  · simp [e]
  · simp [e]
theorem owners_012 (key : ByteArray) : (owners key [0, 1, 2]).length = 2 := own_full (a := 0) (b := 1) (by decide) (by decide) (by decide) (by decide) (by decide) (by decide) (by decide)
end Go.Proofs.Ytahgplfkgijecaa
