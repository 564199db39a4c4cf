/- The plain mathematics of sorting a row of unlike numbers in place: the row as a function of its places; what swaps do (USm), rising ranges (UAsc), insertion (UIns), heaps (UHp, USf, UTl). No condition but those that are stated. A row of bytes in memory that is sorted in place (Ar); the library's order of two bytes. The row has at most 256 members. The library's insertion sort of bytes, from a place on to another one. The row has at most 256 unlike members. -/
import Derived.Test.YtgmcjnhijgnadaaState
import Derived.Test.YtgmcjnhijgnadaaPrRef6

namespace Go.Proofs.Ytgmcjnhijgnadaa
set_option linter.unusedVariables false
set_option linter.unusedSimpArgs false

def uSw (D : Nat → Int) (i j : Nat) : Nat → Int := fun k => if k = j then D i else if k = i then D j else D k
theorem uSw_j (D : Nat → Int) (i j : Nat) : uSw D i j j = D i := by unfold uSw; rw [if_pos rfl]
theorem uSw_i (D : Nat → Int) (i j : Nat) : uSw D i j i = D j := by
  unfold uSw
  by_cases h : i = j
  · rw [if_pos h, h]
  · rw [if_neg h, if_pos rfl]
theorem uSw_o (D : Nat → Int) {i j k : Nat} (h1 : k ≠ i) (h2 : k ≠ j) : uSw D i j k = D k := by unfold uSw; rw [if_neg h2, if_neg h1]
/- What stands from a to b has changed places, and nothing else. -/
def USm (a b : Nat) (D E : Nat → Int) : Prop := ∃ f g : Nat → Nat, (∀ k, f (g k) = k) ∧ (∀ k, g (f k) = k) ∧ (∀ k, k < a ∨ b ≤ k → f k = k) ∧ ∀ k, E k = D (f k)
section
variable {a b a' b' m : Nat} {D E G : Nat → Int}
theorem usm_refl (a b : Nat) (D : Nat → Int) : USm a b D D := ⟨id, id, fun _ => rfl, fun _ => rfl, fun _ _ => rfl, fun _ => rfl⟩
theorem usm_trans (h : USm a b D E) (h2 : USm a b E G) : USm a b D G := by
  obtain ⟨f, g, f1, f2, f3, f4⟩ := h
  obtain ⟨f', g', g1, g2, g3, g4⟩ := h2
  refine ⟨fun k => f (f' k), fun k => g' (g k), fun k => ?_, fun k => ?_, fun k hk => ?_, fun k => ?_⟩
  · show f (f' (g' (g k))) = k
    rw [g1, f1]
  · show g' (g (f (f' k))) = k
    rw [f2, g2]
  · show f (f' k) = k
    rw [g3 k hk, f3 k hk]
  · rw [g4, f4]
theorem usm_wide (h : USm a b D E) (h1 : a' ≤ a) (h2 : b ≤ b') : USm a' b' D E := by
  obtain ⟨f, g, f1, f2, f3, f4⟩ := h
  exact ⟨f, g, f1, f2, fun k hk => f3 k (by omega), f4⟩
theorem usm_sw (D : Nat → Int) {i j : Nat} (h1 : a ≤ i) (h2 : i < b) (h3 : a ≤ j) (h4 : j < b) : USm a b D (uSw D i j) := by
  have ht : ∀ k, (if (if k = j then i else if k = i then j else k) = j then i else if (if k = j then i else if k = i then j else k) = i then j else (if k = j then i else if k = i then j else k)) = k := fun k => by
    by_cases e1 : k = j
    · subst e1
      rw [if_pos rfl]
      by_cases e2 : i = k
      · rw [if_pos e2, e2]
      · rw [if_neg e2, if_pos rfl]
    · rw [if_neg e1]
      by_cases e2 : k = i
      · subst e2
        rw [if_pos rfl, if_pos rfl]
      · rw [if_neg e2, if_neg e1, if_neg e2]
  refine ⟨fun k => if k = j then i else if k = i then j else k, fun k => if k = j then i else if k = i then j else k, ht, ht, fun k hk => ?_, fun k => ?_⟩
  · show (if k = j then i else if k = i then j else k) = k
    rw [if_neg (by omega), if_neg (by omega)]
  · show uSw D i j k = D (if k = j then i else if k = i then j else k)
    unfold uSw
    by_cases e1 : k = j
    · rw [if_pos e1, if_pos e1]
    · rw [if_neg e1, if_neg e1]
      by_cases e2 : k = i
      · rw [if_pos e2, if_pos e2]
      · rw [if_neg e2, if_neg e2]
theorem usm_out (h : USm a b D E) {k : Nat} (hk : k < a ∨ b ≤ k) : E k = D k := by
  obtain ⟨f, g, f1, f2, f3, f4⟩ := h
  rw [f4, f3 k hk]
theorem usm_in (h : USm a b D E) {k : Nat} (h1 : a ≤ k) (h2 : k < b) : ∃ q, a ≤ q ∧ q < b ∧ E k = D q := by
  obtain ⟨f, g, f1, f2, f3, f4⟩ := h
  refine ⟨f k, ?_, ?_, f4 k⟩
  · refine Nat.le_of_not_lt (fun hl => ?_)
    have e := f3 (f k) (.inl hl)
    have e2 := congrArg g e
    rw [f2, f2] at e2
    omega
  · refine Nat.lt_of_not_le (fun hl => ?_)
    have e := f3 (f k) (.inr hl)
    have e2 := congrArg g e
    rw [f2, f2] at e2
    omega
theorem usm_from (h : USm a b D E) {k : Nat} (h1 : a ≤ k) (h2 : k < b) : ∃ q, a ≤ q ∧ q < b ∧ D k = E q := by
  obtain ⟨f, g, f1, f2, f3, f4⟩ := h
  have hg : ∀ q, q < a ∨ b ≤ q → g q = q := fun q hq => by
    have e := congrArg g (f3 q hq)
    rw [f2] at e
    exact e.symm
  refine ⟨g k, ?_, ?_, by rw [f4, f1]⟩
  · refine Nat.le_of_not_lt (fun hl => ?_)
    have e := hg (g k) (.inl hl)
    have e2 := congrArg f e
    rw [f1, f1] at e2
    omega
  · refine Nat.lt_of_not_le (fun hl => ?_)
    have e := hg (g k) (.inr hl)
    have e2 := congrArg f e
    rw [f1, f1] at e2
    omega
theorem usm_all {p : Int → Prop} (h : USm a b D E) (hp : ∀ k, a ≤ k → k < b → p (D k)) : ∀ k, a ≤ k → k < b → p (E k) := fun k h1 h2 => by
  obtain ⟨q, q1, q2, e⟩ := usm_in h h1 h2
  rw [e]
  exact hp q q1 q2
def UInj (m : Nat) (D : Nat → Int) : Prop := ∀ i j, i < m → j < m → D i = D j → i = j
theorem usm_inj (h : USm a b D E) (hb : b ≤ m) (hi : UInj m D) : UInj m E := by
  obtain ⟨f, g, f1, f2, f3, f4⟩ := h
  have hf : ∀ k, k < m → f k < m := fun k hk => by
    refine Nat.lt_of_not_le (fun hl => ?_)
    have e := f3 (f k) (.inr (by omega))
    have e2 := congrArg g e
    rw [f2, f2] at e2
    omega
  intro i j h1 h2 e
  rw [f4, f4] at e
  have e2 := congrArg g (hi _ _ (hf i h1) (hf j h2) e)
  rw [f2, f2] at e2
  exact e2
theorem uinj_lt (hi : UInj m D) {i j : Nat} (h1 : i < m) (h2 : j < m) (hn : i ≠ j) (h : ¬ D i < D j) : D j < D i := by
  have : D i ≠ D j := fun e => hn (hi i j h1 h2 e)
  omega
/- Rising. -/
def UAsc (a b : Nat) (D : Nat → Int) : Prop := ∀ i j, a ≤ i → i < j → j < b → D i < D j
theorem uasc_one (a : Nat) (D : Nat → Int) : UAsc a (a + 1) D := fun i j h1 h2 h3 => by omega
theorem uasc_more (h : UAsc a b D) (hab : a < b) (hl : D (b - 1) < D b) : UAsc a (b + 1) D := fun i j h1 h2 h3 => by
  by_cases e : j = b
  · subst e
    by_cases e2 : i = j - 1
    · subst e2; exact hl
    · have := h i (j - 1) h1 (by omega) (by omega)
      omega
  · exact h i j h1 h2 (by omega)
/- One is let down to its place. -/
def UIns (a i j : Nat) (D : Nat → Int) : Prop := (∀ p q, a ≤ p → p < q → q < i → p ≠ j → q ≠ j → D p < D q) ∧ ∀ q, j < q → q < i → D j < D q
theorem uins_start {j : Nat} (h : UAsc a j D) : UIns a (j + 1) j D := ⟨fun p q h1 h2 h3 h4 h5 => h p q h1 h2 (by omega), fun q h1 h2 => by omega⟩
theorem uins_step {i j : Nat} (h : UIns a i j D) (h1 : a < j) (h2 : j < i) (hl : D j < D (j - 1)) : UIns a i (j - 1) (uSw D j (j - 1)) := by
  have ej : uSw D j (j - 1) j = D (j - 1) := uSw_i D j (j - 1)
  have ep : uSw D j (j - 1) (j - 1) = D j := uSw_j D j (j - 1)
  have eo : ∀ k, k ≠ j → k ≠ j - 1 → uSw D j (j - 1) k = D k := fun k e1 e2 => uSw_o D e1 e2
  refine ⟨fun p q p1 p2 p3 p4 p5 => ?_, fun q q1 q2 => ?_⟩
  · by_cases c1 : q = j
    · subst c1
      rw [ej, eo p (by omega) p4]
      exact h.1 p (q - 1) p1 (by omega) (by omega) (by omega) (by omega)
    · by_cases c2 : p = j
      · subst c2
        rw [ej, eo q c1 p5]
        exact h.1 (p - 1) q (by omega) (by omega) p3 (by omega) c1
      · rw [eo p c2 p4, eo q c1 p5]
        exact h.1 p q p1 p2 p3 c2 c1
  · rw [ep]
    by_cases c1 : q = j
    · subst c1
      rw [ej]
      exact hl
    · rw [eo q c1 (by omega)]
      exact h.2 q (by omega) q2
theorem uins_done {i j : Nat} (h : UIns a i j D) (h1 : a ≤ j) (h2 : j < i) (hl : j = a ∨ D (j - 1) < D j) : UAsc a i D := fun p q p1 p2 p3 => by
  by_cases c1 : p = j
  · subst c1; exact h.2 q p2 p3
  · by_cases c2 : q = j
    · subst c2
      have hl2 : D (q - 1) < D q := by
        rcases hl with e | e
        · omega
        · exact e
      by_cases c3 : p = q - 1
      · subst c3; exact hl2
      · have := h.1 p (q - 1) p1 (by omega) (by omega) c1 (by omega)
        omega
    · exact h.1 p q p1 p2 p3 c1 c2
/- Heaps: from the place f on, as many as hi; from the node lo on. -/
def UHp (D : Nat → Int) (f lo hi : Nat) : Prop := ∀ c, 1 ≤ c → c < hi → lo ≤ (c - 1) / 2 → D (f + c) < D (f + (c - 1) / 2)
def USf (D : Nat → Int) (f lo hi r : Nat) : Prop := lo ≤ r ∧ (∀ c, 1 ≤ c → c < hi → lo ≤ (c - 1) / 2 → (c - 1) / 2 ≠ r → D (f + c) < D (f + (c - 1) / 2)) ∧ (r ≠ lo → lo ≤ (r - 1) / 2 ∧ ∀ c, 1 ≤ c → c < hi → (c - 1) / 2 = r → D (f + c) < D (f + (r - 1) / 2))
theorem usf_start {f lo hi : Nat} (h : UHp D f (lo + 1) hi) : USf D f lo hi lo := ⟨Nat.le_refl _, fun c h1 h2 h3 h4 => h c h1 h2 (by omega), fun h => absurd rfl h⟩
theorem usf_step {f lo hi r c : Nat} (h : USf D f lo hi r) (h1 : c = 2 * r + 1 ∨ c = 2 * r + 2) (h2 : c < hi) (hb : ∀ q, (q = 2 * r + 1 ∨ q = 2 * r + 2) → q < hi → q ≠ c → D (f + q) < D (f + c)) (hl : D (f + r) < D (f + c)) : USf (uSw D (f + r) (f + c)) f lo hi c := by
  obtain ⟨g1, g2, g3⟩ := h
  have er : uSw D (f + r) (f + c) (f + r) = D (f + c) := uSw_i D (f + r) (f + c)
  have ec : uSw D (f + r) (f + c) (f + c) = D (f + r) := uSw_j D (f + r) (f + c)
  have eo : ∀ k, k ≠ r → k ≠ c → uSw D (f + r) (f + c) (f + k) = D (f + k) := fun k e1 e2 => uSw_o D (by omega) (by omega)
  have hcp : (c - 1) / 2 = r := by omega
  refine ⟨by omega, fun x x1 x2 x3 x4 => ?_, fun _ => ⟨by omega, fun x x1 x2 x3 => ?_⟩⟩
  · by_cases e1 : x = c
    · subst e1
      rw [ec, hcp, er]
      exact hl
    · by_cases e2 : (x - 1) / 2 = r
      · rw [e2, er, eo x (by omega) e1]
        exact hb x (by omega) x2 e1
      · by_cases e3 : x = r
        · subst e3
          have hlo : x ≠ lo := by omega
          rw [er, eo ((x - 1) / 2) (by omega) x4]
          exact (g3 hlo).2 c (by omega) h2 hcp
        · rw [eo x e3 e1, eo ((x - 1) / 2) e2 x4]
          exact g2 x x1 x2 x3 e2
  · rw [hcp, er, eo x (by omega) (by omega)]
    have := g2 x x1 x2 (by omega) (by omega)
    rw [x3] at this
    exact this
theorem usf_leaf {f lo hi r : Nat} (h : USf D f lo hi r) (h1 : hi ≤ 2 * r + 1) : UHp D f lo hi := fun c c1 c2 c3 => h.2.1 c c1 c2 c3 (by omega)
theorem usf_done {f lo hi r c : Nat} (h : USf D f lo hi r) (h1 : c = 2 * r + 1 ∨ c = 2 * r + 2) (hb : ∀ q, (q = 2 * r + 1 ∨ q = 2 * r + 2) → q < hi → q ≠ c → D (f + q) < D (f + c)) (hl : D (f + c) < D (f + r)) : UHp D f lo hi := fun x x1 x2 x3 => by
  by_cases e : (x - 1) / 2 = r
  · rw [e]
    by_cases e2 : x = c
    · rw [e2]; exact hl
    · have := hb x (by omega) x2 e2
      omega
  · exact h.2.1 x x1 x2 x3 e
theorem uhp_root {f hi : Nat} (h : UHp D f 0 hi) : ∀ n c, c ≤ n → 1 ≤ c → c < hi → D (f + c) < D f
  | 0, c, h0, h1, _ => by omega
  | n + 1, c, h0, h1, h2 => by
    have hp := h c h1 h2 (Nat.zero_le _)
    by_cases e : (c - 1) / 2 = 0
    · rw [e] at hp; exact hp
    · have := uhp_root h n ((c - 1) / 2) (by omega) (by omega) (by omega)
      omega
def UTl (D : Nat → Int) (f i hi : Nat) : Prop := ∀ p q, p < q → i ≤ q → q < hi → D (f + p) < D (f + q)
theorem utl_swap {f i hi : Nat} (h : UHp D f 0 (i + 1)) (t : UTl D f (i + 1) hi) : UTl (uSw D f (f + i)) f i hi := fun p q p1 p2 p3 => by
  have e0 : uSw D f (f + i) f = D (f + i) := uSw_i D f (f + i)
  have ei : uSw D f (f + i) (f + i) = D f := uSw_j D f (f + i)
  have eo : ∀ k, k ≠ 0 → k ≠ i → uSw D f (f + i) (f + k) = D (f + k) := fun k e1 e2 => uSw_o D (by omega) (by omega)
  by_cases e : q = i
  · subst e
    rw [ei]
    by_cases e2 : p = 0
    · subst e2
      have : uSw D f (f + q) (f + 0) = D (f + q) := e0
      rw [this]
      exact uhp_root h q q (Nat.le_refl _) (by omega) (by omega)
    · rw [eo p e2 (by omega)]
      exact uhp_root h p p (Nat.le_refl _) (by omega) (by omega)
  · rw [eo q (by omega) e]
    by_cases e2 : p = 0
    · subst e2
      have : uSw D f (f + i) (f + 0) = D (f + i) := e0
      rw [this]
      exact t i q (by omega) (by omega) p3
    · by_cases e3 : p = i
      · subst e3
        rw [ei]
        exact t 0 q (by omega) (by omega) p3
      · rw [eo p e2 e3]
        exact t p q p1 (by omega) p3
theorem uhp_swap {f i : Nat} (h : UHp D f 0 (i + 1)) : UHp (uSw D f (f + i)) f 1 i := fun c c1 c2 c3 => by
  rw [uSw_o D (i := f) (j := f + i) (k := f + c) (by omega) (by omega), uSw_o D (i := f) (j := f + i) (k := f + (c - 1) / 2) (by omega) (by omega)]
  exact h c c1 (by omega) (Nat.zero_le _)
theorem utl_same {f i hi : Nat} (t : UTl D f i hi) (h : USm f (f + i) D E) : UTl E f i hi := fun p q p1 p2 p3 => by
  rw [usm_out h (k := f + q) (by omega)]
  by_cases e : p < i
  · obtain ⟨r, r1, r2, er⟩ := usm_in h (k := f + p) (by omega) (by omega)
    rw [er]
    have := t (r - f) q (by omega) p2 p3
    rw [show f + (r - f) = r by omega] at this
    exact this
  · rw [usm_out h (k := f + p) (by omega)]
    exact t p q p1 p2 p3
theorem utl_asc {f hi : Nat} (t : UTl D f 0 hi) : UAsc f (f + hi) D := fun i j h1 h2 h3 => by
  have := t (i - f) (j - f) (by omega) (by omega) (by omega)
  rw [show f + (i - f) = i by omega, show f + (j - f) = j by omega] at this
  exact this
/- A range and the one that stands behind it. -/
def UPre (a b : Nat) (D : Nat → Int) : Prop := a = 0 ∨ ∀ k, a ≤ k → k < b → D (a - 1) < D k
theorem upre_same (h : UPre a b D) (s : USm a b D E) : UPre a b E := by
  rcases h with e | h
  · exact .inl e
  · by_cases e : a = 0
    · exact .inl e
    · refine .inr (usm_all (p := fun x => E (a - 1) < x) s ?_)
      rw [usm_out s (k := a - 1) (by omega)]
      exact h
end
end Go.Proofs.Ytgmcjnhijgnadaa


namespace Go.Proofs.Ytgmcjnhijgnadaa
open Go.ChangeShapes Go.WideShapes Go.ChangeAt Go.RowKit
set_option linter.unusedVariables false
set_option linter.unusedSimpArgs false
set_option maxRecDepth 100000

def rowD (m : Nat) (D : Nat → Int) : List Int := (List.range m).map D
theorem rowD_at (D : Nat → Int) {m k : Nat} (h : k < m) : (rowD m D)[k]? = some (D k) := by
  unfold rowD
  rw [List.getElem?_map, List.getElem?_range h]
  rfl
theorem rowD_len (m : Nat) (D : Nat → Int) : (rowD m D).length = m := by unfold rowD; simp
theorem rowD_all {xs : List Int} {m : Nat} {D : Nat → Int} (hl : xs.length = m) (h : ∀ k, k < m → xs[k]? = some (D k)) : xs = rowD m D := by
  apply List.ext_getElem?
  intro k
  by_cases hk : k < m
  · rw [h k hk, rowD_at D hk]
  · rw [List.getElem?_eq_none (by omega), List.getElem?_eq_none (by rw [rowD_len]; omega)]
def Ar (w : World) (R m cap : Nat) (D : Nat → Int) : Prop := Og encU 1 5 w 0 (.slice (some ⟨R, 0, none⟩) m cap) (rowD m D)
section
variable {w w' : World} {R m cap : Nat} {D : Nat → Int}
theorem ar_cell (h : Ar w R m cap D) {k : Nat} (hk : k < m) : w.cell? ⟨R, k, none⟩ = some (.int .u8 (D k)) := by
  have := rg_U (rg_own encU_ok h) (rowD_at D hk)
  rwa [Nat.zero_add] at this
theorem ar_free (h : Ar w R m cap D) (j : Nat) : w.frozen? ⟨R, j, none⟩ = false := og_frozen h j
theorem ar_kept (h : Ar w R m cap D) (k : Kept w w') : Ar w' R m cap D := og_stays h k
theorem ar_drewN (h : Ar w R m cap D) (q : Nat) : Ar (w.drewN q) R m cap D := og_stays h (kept_drewN (kept_refl w) q)
theorem ar_at (h : Ar w R m cap D) : ∃ cs, At w R cs 5 := og_type h
theorem ar_sw (h : Ar w R m cap D) {i j : Nat} (hi : i < m) (hj : j < m) : Ar ((w.setCell ⟨R, i, none⟩ (.int .u8 (D j))).setCell ⟨R, j, none⟩ (.int .u8 (D i))) R m cap (uSw D i j) := by
  have h1 := og_putU h (rowD_at D hi) (D j)
  have e2 : ((rowD m D).set i (D j))[j]? = some (if j = i then D j else D j) := by
    rw [List.getElem?_set]
    by_cases e : i = j
    · rw [if_pos e, if_pos (by rw [rowD_len]; omega)]
      simp
    · rw [if_neg e, rowD_at D hj]
      simp
  have h2 := og_putU h1 e2 (D i)
  unfold Ar
  rw [← rowD_all (xs := ((rowD m D).set i (D j)).set j (D i)) (by simp [rowD_len]) (fun k hk => ?_)]
  · exact h2
  · unfold uSw
    rw [List.getElem?_set]
    by_cases c1 : j = k
    · rw [if_pos c1, if_pos (by simp [rowD_len]; omega), if_pos c1.symm]
    · rw [if_neg c1, if_neg (Ne.symm c1), List.getElem?_set]
      by_cases c2 : i = k
      · rw [if_pos c2, if_pos (by rw [rowD_len]; omega), if_pos c2.symm]
      · rw [if_neg c2, if_neg (Ne.symm c2), rowD_at D hk]
theorem turn_sw {w0 : World} (h : Turn R w0 w) (i j : Nat) (x y : Value) : Turn R w0 ((w.setCell ⟨R, i, none⟩ x).setCell ⟨R, j, none⟩ y) := turn_set (turn_set h i x) j y
theorem turn_drewN (h : Turn R w w') (q : Nat) : Turn R w (w'.drewN q) := h
end
theorem isnan8 (x : Int) (w : World) : Calls Try.prog 65 #[.int .u8 x] w fun e w' => e = .returned (.bool false) ∧ w' = w := by
  have hb : (x != x) = false := by simp
  go_enter Try.func65, Try.ntmps65
  go_wp2
  go_ret
  exact ⟨rfl, rfl⟩
theorem less8 (x y : Int) (w : World) : Calls Try.prog 55 #[.int .u8 x, .int .u8 y] w fun e w' => e = .returned (.bool (decide (x < y))) ∧ w' = w := by
  have hA := fun n u => isnan8 n u
  go_enter Try.func55, Try.ntmps55
  go_wp2_with (go_at_call 65; refine (hA _ _).mono ?_; rintro e w1 ⟨rfl, e2⟩; have e3 := e2.symm; subst e3; clear e2)
  go_ret
  exact ⟨rfl, rfl⟩
end Go.Proofs.Ytgmcjnhijgnadaa


namespace Go.Proofs.Ytgmcjnhijgnadaa
open Go.ChangeShapes Go.WideShapes Go.ChangeAt Go.RowKit
set_option linter.unusedVariables false
set_option linter.unusedSimpArgs false
set_option maxRecDepth 100000

/- What a call leaves that sorts, or shuffles, in place. -/
def UsC (R m cap : Nat) (p : (Nat → Int) → Prop) (w : World) (e : Ending) (w' : World) : Prop := e = .returned (.tuple #[]) ∧ (∃ E, Ar w' R m cap E ∧ p E) ∧ Turn R w w'
set_option maxHeartbeats 3200000 in
theorem ins8 {R m cap a b : Nat} {D : Nat → Int} (w : World) (h : Ar w R m cap D) (hm : m ≤ 256) (hi : UInj m D) (h1 : a ≤ b) (h2 : b ≤ m) :
    Calls Try.prog 49 #[.slice (some ⟨R, 0, none⟩) m cap, .int .i64 (a : Int), .int .i64 (b : Int)] w (UsC R m cap (fun E => USm a b D E ∧ UAsc a b E) w) := by
  have HP := hid h
  have HI := hid hi
  clear h hi
  go_enter Try.func49, Try.ntmps49
  go_wp2
  go_loopw [6] (fun vi wr => ∃ (i : Nat) (E : Nat → Int), a + 1 ≤ i ∧ (i ≤ b ∨ i = a + 1) ∧ vi = .int .i64 (i : Int) ∧ Hid (Ar wr R m cap E) ∧ Hid (USm a b D E ∧ UAsc a i E) ∧ Hid (Turn R w wr)) (fun vi _ => b + 1 - (intOf vi).toNat)
  case atStart => exact ⟨a + 1, D, Nat.le_refl _, Or.inr rfl, by go_num, HP, hid ⟨usm_refl a b D, uasc_one a D⟩, hid (Turn.refl _ _)⟩
  case round =>
    obtain ⟨i, E, hi1, hi2, rfl, HE, HS, HTr⟩ := hrel
    clear HP
    by_cases hlt : i < b
    · have hltz : (i : Int) < (b : Int) := by omega
      go_wp2
      go_loopw [7] (fun vj wr2 => ∃ (j : Nat) (E : Nat → Int), a ≤ j ∧ j ≤ i ∧ vj = .int .i64 (j : Int) ∧ Hid (Ar wr2 R m cap E) ∧ Hid (USm a b D E ∧ UIns a (i + 1) j E) ∧ Hid (Turn R w wr2)) (fun vj _ => (intOf vj).toNat)
      case atStart => exact ⟨i, E, by omega, Nat.le_refl _, rfl, HE, hid ⟨HS.out.1, uins_start HS.out.2⟩, HTr⟩
      case round =>
        obtain ⟨j, G, hj1, hj2, rfl, HG, HGs, HTj⟩ := hrel
        clear HE HTr HS
        have HInj := hid (usm_inj HGs.out.1 h2 HI.out)
        by_cases hja : a < j
        · have hjaz : (a : Int) < (j : Int) := by omega
          obtain ⟨jp, hjp⟩ : ∃ jp, j = jp + 1 := ⟨j - 1, by omega⟩
          have HJ : Hid (j = jp + 1 ∧ j - 1 = jp ∧ j < m ∧ jp < m) := hid ⟨hjp, by omega, by omega, by omega⟩
          have cj := ar_cell HG.out (k := j) (by omega)
          have cp := ar_cell HG.out (k := jp) (by omega)
          have fj := ar_free HG.out j
          have fp := ar_free HG.out jp
          have hwp : IntKind.i64.wrap ((j : Int) - 1) = (jp : Int) := by rw [IntWalk.i64_in _ (by omega)]; omega
          have jz : (j : Int) < (m : Int) := by omega
          have jz1 : (jp : Int) < (m : Int) := by omega
          obtain ⟨x, hx⟩ : ∃ x, G j = x := ⟨_, rfl⟩
          obtain ⟨y, hy⟩ : ∃ y, G jp = y := ⟨_, rfl⟩
          rw [hx] at cj
          rw [hy] at cp
          have HXY : Hid (G j = x ∧ G jp = y) := hid ⟨hx, hy⟩
          have hq := fun u => less8 x y u
          have ne1 : j ≠ jp := by omega
          have ne2 : jp ≠ j := Ne.symm ne1
          clear hx hy hjp hja
          by_cases hl : x < y
          · simp only [decide_eq_true hl] at hq
            have HL := hid hl
            clear hl
            go_wp2_with fail
            go_quiet (first | (go_at_call 55; exact Calls.quiet_of_same (hq _)))
            go_wp2_with fail
            have HGq := hid (ar_drewN HG.out nq)
            have HTq : Hid (Turn R w (wr.drewN nq)) := HTj
            have cj2 : (wr.drewN nq).cell? ⟨R, j, none⟩ = some (.int .u8 x) := cj
            have cp2 : (wr.drewN nq).cell? ⟨R, jp, none⟩ = some (.int .u8 y) := cp
            have fj2 : (wr.drewN nq).frozen? ⟨R, j, none⟩ = false := fj
            have fp2 : (wr.drewN nq).frozen? ⟨R, jp, none⟩ = false := fp
            clear cj cp fj fp hq HG HTj
            generalize wr.drewN nq = wq at *
            go_region
            all_goals go_wp2
            go_roundw
            case rel =>
              obtain ⟨e1, e2⟩ := HXY.out
              obtain ⟨e3, e4, e5, e6⟩ := HJ.out
              refine ⟨jp, uSw G j jp, by omega, by omega, by go_num, hid ?_, hid ⟨usm_trans HGs.out.1 (usm_sw G (by omega) (by omega) (by omega) (by omega)), ?_⟩, hid (turn_sw HTq.out _ _ _ _)⟩
              · have hs := ar_sw HGq.out e5 e6
                rw [e1, e2] at hs
                exact hs
              · have := uins_step HGs.out.2 (j := j) (by omega) (by omega) (by rw [e4, e1, e2]; exact HL.out)
                rw [e4] at this
                exact this
            case measure => have := HJ.out; simp [intOf]; omega
          · have hl2 : decide (x < y) = false := decide_eq_false hl
            simp only [hl2] at hq
            have HL : Hid (y ≤ x) := hid (by omega)
            clear hl hl2
            go_wp2_with fail
            go_quiet (first | (go_at_call 55; exact Calls.quiet_of_same (hq _)))
            go_wp2_with fail
            go_roundw
            case rel =>
              obtain ⟨e1, e2⟩ := HXY.out
              obtain ⟨e3, e4, e5, e6⟩ := HJ.out
              refine ⟨i + 1, G, by omega, by omega, by go_num, hid (ar_drewN HG.out _), hid ⟨HGs.out.1, uins_done HGs.out.2 hj1 (by omega) (Or.inr ?_)⟩, HTj⟩
              rw [e4]
              exact uinj_lt HInj.out e5 e6 (by omega) (by have := HL.out; rw [e1, e2]; omega)
            case measure => simp [intOf]; omega
        · have hjaz : decide ((j : Int) > (a : Int)) = false := decide_eq_false (by omega)
          have hjaz2 : ¬ (a : Int) < (j : Int) := by omega
          go_wp2_with fail
          go_quiet (fail)
          go_wp2_with fail
          go_roundw
          case rel => exact ⟨i + 1, G, by omega, by omega, by go_num, hid (ar_drewN HG.out _), hid ⟨HGs.out.1, uins_done HGs.out.2 hj1 (by omega) (Or.inl (by omega))⟩, HTj⟩
          case measure => simp [intOf]; omega
    · have hltz : ¬ (i : Int) < (b : Int) := by omega
      go_wp2
      go_end0
      refine ⟨rfl, ⟨E, HE.out, HS.out.1, fun p q p1 p2 p3 => ?_⟩, HTr.out⟩
      exact HS.out.2 p q p1 p2 (by omega)
end Go.Proofs.Ytgmcjnhijgnadaa
