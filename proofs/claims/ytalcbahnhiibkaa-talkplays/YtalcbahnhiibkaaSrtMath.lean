/- The plain mathematics of the library's stable sort, of places by how often they were told: insertion, the merge in place by rotations, and that what comes out is the order of telling. No condition but those that are stated. -/
import Derived.Test.YtalcbahnhiibkaaTalkMath
namespace Go.Proofs.Ytalcbahnhiibkaa
set_option linter.unusedVariables false
set_option linter.unusedSimpArgs false

def lx (key : Nat → Nat) (a b : Nat) : Prop := key a < key b ∨ (key a = key b ∧ a < b)
theorem lx_trans {key : Nat → Nat} {a b c : Nat} (h : lx key a b) (g : lx key b c) : lx key a c := by unfold lx at *; omega
theorem lx_ne {key : Nat → Nat} {a b : Nat} (h : lx key a b) : a ≠ b := by rintro rfl; unfold lx at h; omega
theorem lx_le {key : Nat → Nat} {a b : Nat} (h : lx key a b) : key a ≤ key b := by unfold lx at h; omega
theorem lx_lt {key : Nat → Nat} {a b : Nat} (h : key a < key b) : lx key a b := Or.inl h
theorem lx_ge {key : Nat → Nat} {a b : Nat} (h : ¬ key b < key a) (g : a < b) : lx key a b := by unfold lx; omega
/- In order from lo up to hi. -/
def Srt (key : Nat → Nat) (D : Nat → Nat) (lo hi : Nat) : Prop := ∀ i j, lo ≤ i → i < j → j < hi → lx key (D i) (D j)
theorem srt_le {key : Nat → Nat} {D : Nat → Nat} {lo hi i j : Nat} (h : Srt key D lo hi) (h1 : lo ≤ i) (h2 : i ≤ j) (h3 : j < hi) : key (D i) ≤ key (D j) := by
  rcases Nat.eq_or_lt_of_le h2 with e | e
  · rw [e]; exact Nat.le_refl _
  · exact lx_le (h i j h1 e h3)
theorem srt_ext {key : Nat → Nat} {D E : Nat → Nat} {lo hi : Nat} (h : Srt key D lo hi) (e : ∀ p, lo ≤ p → p < hi → E p = D p) : Srt key E lo hi := fun i j h1 h2 h3 => by
  rw [e i h1 (by omega), e j (by omega) h3]
  exact h i j h1 h2 h3
theorem srt_join {key : Nat → Nat} {E : Nat → Nat} {a m b : Nat} (h1 : Srt key E a m) (h2 : Srt key E m b) (hc : ∀ i j, a ≤ i → i < m → m ≤ j → j < b → lx key (E i) (E j)) : Srt key E a b := fun i j hi hij hj => by
  by_cases e1 : j < m
  · exact h1 i j hi hij e1
  · by_cases e2 : i < m
    · exact hc i j hi e2 (by omega) hj
    · exact h2 i j (by omega) hij hj
theorem srt_tiny {key : Nat → Nat} {E : Nat → Nat} {a b : Nat} (h : b ≤ a + 1) : Srt key E a b := fun i j h1 h2 h3 => by omega
/- Two exchanged; a range exchanged with another one; a rotation. -/
def sw (D : Nat → Nat) (i j p : Nat) : Nat := if p = i then D j else if p = j then D i else D p
def swr (D : Nat → Nat) (a b k p : Nat) : Nat := if p < a then D p else if p < a + k then D (p + (b - a)) else if p < b then D p else if p < b + k then D (p - (b - a)) else D p
def rot (D : Nat → Nat) (a m b p : Nat) : Nat := if p < a then D p else if p < a + (b - m) then D (p + (m - a)) else if p < b then D (p - (b - m)) else D p
section
variable {D : Nat → Nat} {a m b p : Nat}
theorem rot_lo (h : p < a) : rot D a m b p = D p := by unfold rot; rw [if_pos h]
theorem rot_one (h : a ≤ p) (h2 : p < a + (b - m)) : rot D a m b p = D (p + (m - a)) := by unfold rot; rw [if_neg (by omega), if_pos h2]
theorem rot_two (h : a + (b - m) ≤ p) (h2 : p < b) : rot D a m b p = D (p - (b - m)) := by unfold rot; rw [if_neg (by omega), if_neg (by omega), if_pos h2]
theorem rot_hi (ha : a ≤ m) (hm : m ≤ b) (h : b ≤ p) : rot D a m b p = D p := by unfold rot; rw [if_neg (by omega), if_neg (by omega), if_neg (by omega)]
theorem rot_left (D : Nat → Nat) (m b p : Nat) : rot D m m b p = D p := by unfold rot; split <;> first | rfl | (split <;> first | (congr 1; omega) | (split <;> first | rfl | (congr 1; omega)))
theorem rot_right (D : Nat → Nat) (a m p : Nat) : rot D a m m p = D p := by unfold rot; split <;> first | rfl | (split <;> first | (exfalso; omega) | (split <;> first | rfl | (congr 1; omega)))
end
theorem sw_down {D : Nat → Nat} {i j : Nat} (h1 : 1 ≤ j) (h2 : j ≤ i) (p : Nat) : sw (rot D j i (i + 1)) j (j - 1) p = rot D (j - 1) i (i + 1) p := by
  unfold sw
  by_cases e1 : p = j
  · rw [if_pos e1, rot_lo (by omega), rot_two (by omega) (by omega)]; congr 1; omega
  · rw [if_neg e1]
    by_cases e2 : p = j - 1
    · rw [if_pos e2, rot_one (by omega) (by omega), rot_one (by omega) (by omega)]; congr 1; omega
    · rw [if_neg e2]
      by_cases e3 : p < j
      · rw [rot_lo e3, rot_lo (by omega)]
      · by_cases e4 : p < i + 1
        · rw [rot_two (by omega) e4, rot_two (by omega) e4]
        · rw [rot_hi (by omega) (by omega) (by omega), rot_hi (by omega) (by omega) (by omega)]
theorem sw_up {D : Nat → Nat} {a k : Nat} (h1 : a ≤ k) (p : Nat) : sw (rot D a (a + 1) (k + 1)) k (k + 1) p = rot D a (a + 1) (k + 2) p := by
  unfold sw
  by_cases e1 : p = k
  · rw [if_pos e1, rot_hi (by omega) (by omega) (by omega), rot_one (by omega) (by omega)]; congr 1; omega
  · rw [if_neg e1]
    by_cases e2 : p = k + 1
    · rw [if_pos e2, rot_two (by omega) (by omega), rot_two (by omega) (by omega)]; congr 1; omega
    · rw [if_neg e2]
      by_cases e3 : p < a
      · rw [rot_lo e3, rot_lo e3]
      · by_cases e4 : p < k
        · rw [rot_one (by omega) (by omega), rot_one (by omega) (by omega)]
        · rw [rot_hi (by omega) (by omega) (by omega), rot_hi (by omega) (by omega) (by omega)]
theorem swr_zero (D : Nat → Nat) (a b p : Nat) : swr D a b 0 p = D p := by unfold swr; split <;> first | rfl | (split <;> first | (exfalso; omega) | (split <;> first | rfl | (split <;> first | (exfalso; omega) | rfl)))
theorem swr_a {D : Nat → Nat} {a b k p : Nat} (h : p < a) : swr D a b k p = D p := by unfold swr; rw [if_pos h]
theorem swr_b {D : Nat → Nat} {a b k p : Nat} (h : a ≤ p) (h2 : p < a + k) : swr D a b k p = D (p + (b - a)) := by unfold swr; rw [if_neg (by omega), if_pos h2]
theorem swr_c {D : Nat → Nat} {a b k p : Nat} (h : a + k ≤ p) (h2 : p < b) : swr D a b k p = D p := by unfold swr; rw [if_neg (by omega), if_neg (by omega), if_pos h2]
theorem swr_d {D : Nat → Nat} {a b k p : Nat} (hk : a + k ≤ b) (h : b ≤ p) (h2 : p < b + k) : swr D a b k p = D (p - (b - a)) := by unfold swr; rw [if_neg (by omega), if_neg (by omega), if_neg (by omega), if_pos h2]
theorem swr_e {D : Nat → Nat} {a b k p : Nat} (hk : a + k ≤ b) (h : b + k ≤ p) : swr D a b k p = D p := by unfold swr; rw [if_neg (by omega), if_neg (by omega), if_neg (by omega), if_neg (by omega)]
theorem swr_next {D : Nat → Nat} {a b k : Nat} (hk : a + (k + 1) ≤ b) (p : Nat) : sw (swr D a b k) (a + k) (b + k) p = swr D a b (k + 1) p := by
  unfold sw
  by_cases e1 : p = a + k
  · rw [if_pos e1, swr_e (by omega) (by omega), swr_b (by omega) (by omega)]; congr 1; omega
  · rw [if_neg e1]
    by_cases e2 : p = b + k
    · rw [if_pos e2, swr_c (by omega) (by omega), swr_d (by omega) (by omega) (by omega)]; congr 1; omega
    · rw [if_neg e2]
      by_cases c1 : p < a
      · rw [swr_a c1, swr_a c1]
      · by_cases c2 : p < a + k
        · rw [swr_b (by omega) c2, swr_b (by omega) (by omega)]
        · by_cases c3 : p < b
          · rw [swr_c (by omega) c3, swr_c (by omega) c3]
          · by_cases c4 : p < b + k
            · rw [swr_d (by omega) (by omega) c4, swr_d (by omega) (by omega) (by omega)]
            · rw [swr_e (by omega) (by omega), swr_e (by omega) (by omega)]
theorem rot_gt {D : Nat → Nat} {i j m : Nat} (hi : i ≤ m) (hj : j < i) (p : Nat) : rot (swr D (m - i) m j) (m - (i - j)) m (m + j) p = rot D (m - i) m (m + j) p := by
  by_cases c1 : p < m - i
  · rw [rot_lo (by omega), rot_lo c1, swr_a c1]
  · by_cases c2 : p < m - i + j
    · rw [rot_lo (by omega), swr_b (by omega) c2, rot_one (by omega) (by omega)]
    · by_cases c3 : p < m + j
      · rw [rot_two (D := D) (by omega) c3]
        by_cases c4 : p < m - (i - j) + j
        · rw [rot_one (by omega) (by omega), swr_d (by omega) (by omega) (by omega)]; congr 1; omega
        · rw [rot_two (by omega) c3, swr_c (by omega) (by omega)]
      · rw [rot_hi (by omega) (by omega) (by omega), rot_hi (by omega) (by omega) (by omega), swr_e (by omega) (by omega)]
theorem rot_lt {D : Nat → Nat} {i j m : Nat} (hi : i ≤ m) (hj : i < j) (p : Nat) : rot (swr D (m - i) (m + j - i) i) (m - i) m (m + (j - i)) p = rot D (m - i) m (m + j) p := by
  by_cases c1 : p < m - i
  · rw [rot_lo c1, rot_lo c1, swr_a c1]
  · by_cases c2 : p < m - i + (j - i)
    · rw [rot_one (by omega) (by omega), rot_one (by omega) (by omega), swr_c (by omega) (by omega)]
    · by_cases c3 : p < m + (j - i)
      · rw [rot_two (by omega) c3]
        rw [swr_b (by omega) (by omega), rot_one (by omega) (by omega)]; congr 1; omega
      · rw [rot_hi (by omega) (by omega) (by omega)]
        by_cases c4 : p < m + j
        · rw [swr_d (by omega) (by omega) (by omega), rot_two (by omega) c4]; congr 1; omega
        · rw [swr_e (by omega) (by omega), rot_hi (by omega) (by omega) (by omega)]
theorem rot_eq {D : Nat → Nat} {i m : Nat} (hi : i ≤ m) (p : Nat) : swr D (m - i) m i p = rot D (m - i) m (m + i) p := by
  by_cases c1 : p < m - i
  · rw [rot_lo c1, swr_a c1]
  · by_cases c2 : p < m
    · rw [rot_one (by omega) (by omega), swr_b (by omega) (by omega)]
    · by_cases c3 : p < m + i
      · rw [rot_two (by omega) c3, swr_d (by omega) (by omega) (by omega)]; congr 1; omega
      · rw [rot_hi (by omega) (by omega) (by omega), swr_e (by omega) (by omega)]
theorem rot_ext {D E : Nat → Nat} (h : ∀ p, D p = E p) (a m b p : Nat) : rot D a m b p = rot E a m b p := by
  have : D = E := funext h
  rw [this]
/- The same ones from a up to b, elsewhere nothing turned. -/
structure Same (D E : Nat → Nat) (a b : Nat) : Prop where
  out : ∀ p, p < a ∨ b ≤ p → E p = D p
  img : ∀ p, a ≤ p → p < b → ∃ q, a ≤ q ∧ q < b ∧ E p = D q
  onto : ∀ q, a ≤ q → q < b → ∃ p, a ≤ p ∧ p < b ∧ E p = D q
theorem same_refl (D : Nat → Nat) (a b : Nat) : Same D D a b := ⟨fun _ _ => rfl, fun p h1 h2 => ⟨p, h1, h2, rfl⟩, fun p h1 h2 => ⟨p, h1, h2, rfl⟩⟩
theorem same_trans {D E F : Nat → Nat} {a b : Nat} (h : Same D E a b) (g : Same E F a b) : Same D F a b :=
  ⟨fun p hp => (g.out p hp).trans (h.out p hp), fun p h1 h2 => by
    obtain ⟨q, q1, q2, e⟩ := g.img p h1 h2
    obtain ⟨r, r1, r2, e2⟩ := h.img q q1 q2
    exact ⟨r, r1, r2, e.trans e2⟩, fun p h1 h2 => by
    obtain ⟨q, q1, q2, e⟩ := h.onto p h1 h2
    obtain ⟨r, r1, r2, e2⟩ := g.onto q q1 q2
    exact ⟨r, r1, r2, e2.trans e⟩⟩
theorem same_wide {D E : Nat → Nat} {a b a' b' : Nat} (h : Same D E a b) (ha : a' ≤ a) (hb : b ≤ b') : Same D E a' b' :=
  ⟨fun p hp => h.out p (by omega), fun p h1 h2 => by
    by_cases c : a ≤ p ∧ p < b
    · obtain ⟨q, q1, q2, e⟩ := h.img p c.1 c.2
      exact ⟨q, by omega, by omega, e⟩
    · exact ⟨p, h1, h2, h.out p (by omega)⟩, fun p h1 h2 => by
    by_cases c : a ≤ p ∧ p < b
    · obtain ⟨q, q1, q2, e⟩ := h.onto p c.1 c.2
      exact ⟨q, by omega, by omega, e⟩
    · exact ⟨p, h1, h2, h.out p (by omega)⟩⟩
theorem same_rot {D : Nat → Nat} {a m b : Nat} (h1 : a ≤ m) (h2 : m ≤ b) : Same D (rot D a m b) a b :=
  ⟨fun p hp => by
    rcases hp with hp | hp
    · exact rot_lo hp
    · exact rot_hi h1 h2 hp, fun p p1 p2 => by
    by_cases c : p < a + (b - m)
    · exact ⟨_, by omega, by omega, rot_one p1 c⟩
    · exact ⟨_, by omega, by omega, rot_two (by omega) p2⟩, fun q q1 q2 => by
    by_cases c : q < m
    · refine ⟨q + (b - m), by omega, by omega, ?_⟩
      rw [rot_two (by omega) (by omega)]; congr 1; omega
    · refine ⟨q - (m - a), by omega, by omega, ?_⟩
      rw [rot_one (by omega) (by omega)]; congr 1; omega⟩
structure Merged (key D E : Nat → Nat) (a b : Nat) : Prop where
  same : Same D E a b
  srt : Srt key E a b
structure Halves (key D : Nat → Nat) (a m b : Nat) : Prop where
  l : Srt key D a m
  r : Srt key D m b
  lr : ∀ p q, a ≤ p → p < m → m ≤ q → q < b → D p < D q
/- A search that halves. -/
structure Cut (Q : Nat → Prop) (lo hi i j : Nat) : Prop where
  a : lo ≤ i
  b : i ≤ j
  c : j ≤ hi
  yes : ∀ p, lo ≤ p → p < i → Q p
  no : ∀ p, j ≤ p → p < hi → ¬ Q p
def Mono (Q : Nat → Prop) (lo hi : Nat) : Prop := ∀ p q, lo ≤ p → p ≤ q → q < hi → Q q → Q p
theorem cut_start {Q : Nat → Prop} {lo hi : Nat} (h : lo ≤ hi) : Cut Q lo hi lo hi := ⟨Nat.le_refl _, h, Nat.le_refl _, fun p h1 h2 => by omega, fun p h1 h2 => by omega⟩
theorem cut_up {Q : Nat → Prop} {lo hi i j h : Nat} (c : Cut Q lo hi i j) (hm : Mono Q lo hi) (h1 : i ≤ h) (h2 : h < j) (hq : Q h) : Cut Q lo hi (h + 1) j :=
  ⟨by have := c.a; omega, by omega, c.c, fun p p1 p2 => hm p h p1 (by omega) (by have := c.c; omega) hq, c.no⟩
theorem cut_dn {Q : Nat → Prop} {lo hi i j h : Nat} (c : Cut Q lo hi i j) (hm : Mono Q lo hi) (h1 : i ≤ h) (h2 : h < j) (hq : ¬ Q h) : Cut Q lo hi i h :=
  ⟨c.a, h1, by have := c.c; omega, c.yes, fun p p1 p2 hp => hq (hm h p (by have := c.a; omega) p1 p2 hp)⟩
/- Insertion. -/
def Asc (D : Nat → Nat) (a b : Nat) : Prop := ∀ p q, a ≤ p → p < q → q < b → D p < D q
structure Ins (key D0 D : Nat → Nat) (a i : Nat) : Prop where
  same : Same D0 D a i
  srt : Srt key D a i
theorem ins_start (key D0 : Nat → Nat) (a : Nat) : Ins key D0 D0 a (a + 1) := ⟨same_refl _ _ _, srt_tiny (Nat.le_refl _)⟩
theorem ins_next {key D0 D : Nat → Nat} {a b i j : Nat} (h : Ins key D0 D a i) (hA : Asc D0 a b) (hai : a ≤ i) (hib : i < b) (haj : a ≤ j) (hji : j ≤ i) (hk : ∀ p, j ≤ p → p < i → key (D i) < key (D p)) (hs : j = a ∨ ¬ key (D i) < key (D (j - 1))) : Ins key D0 (rot D j i (i + 1)) a (i + 1) := by
  refine ⟨same_trans (same_wide h.same (Nat.le_refl _) (by omega)) (same_wide (same_rot hji (by omega)) haj (Nat.le_refl _)), fun p q h1 h2 h3 => ?_⟩
  have hi0 : D i = D0 i := h.same.out i (by omega)
  have hlow : ∀ p, a ≤ p → p < i → D p < D i := fun p p1 p2 => by
    obtain ⟨r, r1, r2, e⟩ := h.same.img p p1 p2
    rw [e, hi0]
    exact hA r i r1 r2 hib
  by_cases c1 : q < j
  · rw [rot_lo (by omega), rot_lo c1]; exact h.srt p q h1 h2 (by omega)
  · by_cases c2 : q = j
    · subst c2
      rw [rot_lo (by omega), rot_one (by omega) (by omega), show q + (i - q) = i by omega]
      refine lx_ge (fun hlt => ?_) (hlow p h1 (by omega))
      rcases hs with e | e
      · omega
      · have := srt_le h.srt (i := p) (j := q - 1) h1 (by omega) (by omega)
        omega
    · rw [rot_two (p := q) (by omega) h3, show i + 1 - i = 1 by omega]
      by_cases c3 : p < j
      · rw [rot_lo c3]; exact h.srt p (q - 1) h1 (by omega) (by omega)
      · by_cases c4 : p = j
        · subst c4
          rw [rot_one (by omega) (by omega), show p + (i - p) = i by omega]
          exact lx_lt (hk (q - 1) (by omega) (by omega))
        · rw [rot_two (by omega) (by omega), show i + 1 - i = 1 by omega]
          exact h.srt (p - 1) (q - 1) (by omega) (by omega) (by omega)
/- One into the others, both ways. -/
theorem one_first {key D : Nat → Nat} {a b i : Nat} (h : Halves key D a (a + 1) b) (hc : Cut (fun p => key (D p) < key (D a)) (a + 1) b i i) : Merged key D (rot D a (a + 1) i) a b := by
  have ha := hc.a
  have hb := hc.c
  refine ⟨same_wide (same_rot (by omega) ha) (Nat.le_refl _) hb, fun p q h1 h2 h3 => ?_⟩
  by_cases c1 : q < i - 1
  · rw [rot_one h1 (by omega), rot_one (by omega) (by omega)]
    exact h.r _ _ (by omega) (by omega) (by omega)
  · by_cases c2 : q = i - 1
    · rw [rot_one h1 (by omega), rot_two (by omega) (by omega), show q - (i - (a + 1)) = a by omega]
      exact lx_lt (hc.yes _ (by omega) (by omega))
    · rw [rot_hi (p := q) (by omega) ha (by omega)]
      by_cases c3 : p < i - 1
      · rw [rot_one h1 (by omega)]
        exact h.r _ _ (by omega) (by omega) h3
      · by_cases c4 : p = i - 1
        · rw [rot_two (by omega) (by omega), show p - (i - (a + 1)) = a by omega]
          exact lx_ge (hc.no q (by omega) h3) (h.lr a q (Nat.le_refl _) (by omega) (by omega) h3)
        · rw [rot_hi (by omega) ha (by omega)]
          exact h.r _ _ (by omega) h2 h3
theorem one_last {key D : Nat → Nat} {a m i : Nat} (h : Halves key D a m (m + 1)) (hc : Cut (fun p => ¬ key (D m) < key (D p)) a m i i) : Merged key D (rot D i m (m + 1)) a (m + 1) := by
  have ha := hc.a
  have hb := hc.c
  refine ⟨same_wide (same_rot hb (by omega)) ha (Nat.le_refl _), fun p q h1 h2 h3 => ?_⟩
  by_cases c1 : q < i
  · rw [rot_lo (by omega), rot_lo c1]; exact h.l p q h1 h2 (by omega)
  · by_cases c2 : q = i
    · subst c2
      rw [rot_lo (by omega), rot_one (by omega) (by omega), show q + (m - q) = m by omega]
      exact lx_ge (hc.yes p h1 h2) (h.lr p m h1 (by omega) (Nat.le_refl _) (by omega))
    · rw [rot_two (p := q) (by omega) h3, show m + 1 - m = 1 by omega]
      by_cases c3 : p < i
      · rw [rot_lo c3]; exact h.l p (q - 1) h1 (by omega) (by omega)
      · by_cases c4 : p = i
        · subst c4
          rw [rot_one (by omega) (by omega), show p + (m - p) = m by omega]
          have := hc.no (q - 1) (by omega) (by omega)
          exact lx_lt (by omega)
        · rw [rot_two (by omega) (by omega), show m + 1 - m = 1 by omega]
          exact h.l (p - 1) (q - 1) (by omega) (by omega) (by omega)
/- The step of a symmetric merge: lo and hi bound the search. -/
structure Sym (a m b mid lo hi : Nat) : Prop where
  am : a < m
  mb : m < b
  m1 : 2 * mid ≤ a + b
  m2 : a + b ≤ 2 * mid + 1
  way : (m ≤ mid ∧ lo = a ∧ hi = m) ∨ (mid < m ∧ lo + b = mid + m ∧ hi = mid)
theorem sym_mono {key D : Nat → Nat} {a m b mid lo hi : Nat} (s : Sym a m b mid lo hi) (h : Halves key D a m b) : Mono (fun c => ¬ key (D (mid + m - 1 - c)) < key (D c)) lo hi := fun p q h1 h2 h3 hq hp => by
  obtain ⟨s1, s2, s3, s4, s5⟩ := s
  have e1 := srt_le h.l (i := p) (j := q) (by omega) h2 (by omega)
  have e2 := srt_le h.r (i := mid + m - 1 - q) (j := mid + m - 1 - p) (by omega) (by omega) (by omega)
  exact hq (by omega)
theorem sym_step {key D : Nat → Nat} {a m b mid lo hi s : Nat} (y : Sym a m b mid lo hi) (h : Halves key D a m b) (hc : Cut (fun c => ¬ key (D (mid + m - 1 - c)) < key (D c)) lo hi s s) :
    a ≤ s ∧ s ≤ m ∧ s ≤ mid ∧ m ≤ mid + m - s ∧ mid + m - s ≤ b ∧ mid ≤ mid + m - s ∧ Same D (rot D s m (mid + m - s)) a b ∧ Halves key (rot D s m (mid + m - s)) a s mid ∧ Halves key (rot D s m (mid + m - s)) mid (mid + m - s) b ∧ ∀ p q, a ≤ p → p < mid → mid ≤ q → q < b → lx key (rot D s m (mid + m - s) p) (rot D s m (mid + m - s) q) := by
  obtain ⟨y1, y2, y3, y4, y5⟩ := y
  have ha := hc.a
  have hb := hc.c
  have g1 : a ≤ s := by omega
  have g2 : s ≤ m := by omega
  have g3 : s ≤ mid := by omega
  have g4 : mid + m - s ≤ b := by omega
  obtain ⟨e, he⟩ : ∃ e, mid + m - s = e := ⟨_, rfl⟩
  rw [he] at g4 ⊢
  have em : e - m = mid - s := by omega
  have v1 : ∀ p, p < s → rot D s m e p = D p := fun p hp => rot_lo hp
  have v2 : ∀ p, s ≤ p → p < mid → rot D s m e p = D (p + (m - s)) := fun p h1 h2 => rot_one h1 (by omega)
  have v3 : ∀ p, mid ≤ p → p < e → rot D s m e p = D (p - (mid - s)) := fun p h1 h2 => by rw [rot_two (by omega) h2, em]
  have v4 : ∀ p, e ≤ p → rot D s m e p = D p := fun p hp => rot_hi g2 (by omega) hp
  refine ⟨g1, g2, g3, by omega, g4, by omega, same_wide (same_rot g2 (by omega)) g1 g4, ⟨?_, ?_, ?_⟩, ⟨?_, ?_, ?_⟩, ?_⟩
  · exact fun p q h1 h2 h3 => by rw [v1 p (by omega), v1 q h3]; exact h.l p q h1 h2 (by omega)
  · exact fun p q h1 h2 h3 => by rw [v2 p h1 (by omega), v2 q (by omega) h3]; exact h.r _ _ (by omega) (by omega) (by omega)
  · exact fun p q h1 h2 h3 h4 => by rw [v1 p h2, v2 q h3 h4]; exact h.lr _ _ h1 (by omega) (by omega) (by omega)
  · exact fun p q h1 h2 h3 => by rw [v3 p h1 (by omega), v3 q (by omega) h3]; exact h.l _ _ (by omega) (by omega) (by omega)
  · exact fun p q h1 h2 h3 => by rw [v4 p h1, v4 q (by omega)]; exact h.r _ _ (by omega) h2 h3
  · exact fun p q h1 h2 h3 h4 => by rw [v3 p h1 h2, v4 q h3]; exact h.lr _ _ (by omega) (by omega) (by omega) h4
  · intro p q h1 h2 h3 h4
    by_cases cp : p < s
    · rw [v1 p cp]
      by_cases cq : q < e
      · rw [v3 q h3 cq]; exact h.l _ _ h1 (by omega) (by omega)
      · rw [v4 q (by omega)]
        have hy := hc.yes (s - 1) (by omega) (by omega)
        rw [show mid + m - 1 - (s - 1) = e by omega] at hy
        have e1 := srt_le h.l (i := p) (j := s - 1) h1 (by omega) (by omega)
        have e2 := srt_le h.r (i := e) (j := q) (by omega) (by omega) h4
        exact lx_ge (by omega) (h.lr p q h1 (by omega) (by omega) h4)
    · rw [v2 p (by omega) h2]
      by_cases cq : q < e
      · rw [v3 q h3 cq]
        have hn := hc.no s (Nat.le_refl _) (by omega)
        rw [show mid + m - 1 - s = e - 1 by omega] at hn
        have e1 := srt_le h.r (i := p + (m - s)) (j := e - 1) (by omega) (by omega) (by omega)
        have e2 := srt_le h.l (i := s) (j := q - (mid - s)) (by omega) (by omega) (by omega)
        exact lx_lt (by omega)
      · rw [v4 q (by omega)]; exact h.r _ _ (by omega) (by omega) h4
theorem half_done {key D : Nat → Nat} {a s m : Nat} (h : Halves key D a s m) (h1 : a ≤ s) (h2 : s ≤ m) (hn : ¬ (a < s ∧ s < m)) : Merged key D D a m := by
  refine ⟨same_refl _ _ _, ?_⟩
  by_cases c : a < s
  · rw [show m = s by omega]; exact h.l
  · rw [show a = s by omega]; exact h.r
theorem halves_out {key D E : Nat → Nat} {a b m x y : Nat} (h : Same D E a b) (g : Halves key D x m y) (h1 : x ≤ m) (h2 : m ≤ y) (hx : y ≤ a ∨ b ≤ x) : Halves key E x m y := by
  have e : ∀ p, x ≤ p → p < y → E p = D p := fun p h1 h2 => h.out p (by omega)
  refine ⟨fun p q h1 h2 h3 => ?_, fun p q h1 h2 h3 => ?_, fun p q h1 h2 h3 h4 => ?_⟩
  · rw [e p h1 (by omega), e q (by omega) (by omega)]; exact g.l p q h1 h2 h3
  · rw [e p (by omega) (by omega), e q (by omega) h3]; exact g.r p q h1 h2 h3
  · rw [e p h1 (by omega), e q (by omega) h4]; exact g.lr p q h1 h2 h3 h4
theorem sym_done {key D E F G : Nat → Nat} {a b mid : Nat} (h1 : a ≤ mid) (h2 : mid ≤ b) (s : Same D E a b) (hc : ∀ p q, a ≤ p → p < mid → mid ≤ q → q < b → lx key (E p) (E q)) (m1 : Merged key E F a mid) (m2 : Merged key F G mid b) : Merged key D G a b := by
  refine ⟨same_trans s (same_trans (same_wide m1.same (Nat.le_refl _) h2) (same_wide m2.same h1 (Nat.le_refl _))), ?_⟩
  have low : ∀ p, p < mid → G p = F p := fun p hp => m2.same.out p (Or.inl hp)
  refine srt_join (srt_ext m1.srt (fun p _ hp => low p hp)) m2.srt (fun p q p1 p2 q1 q2 => ?_)
  rw [low p p2]
  obtain ⟨r, r1, r2, e1⟩ := m1.same.img p p1 p2
  obtain ⟨t, t1, t2, e2⟩ := m2.same.img q q1 q2
  rw [e1, e2, m1.same.out t (Or.inr t1)]
  exact hc r t r1 r2 t1 t2
/- A block in order, with just the places from lo up to hi. -/
structure Blk (key D : Nat → Nat) (lo hi : Nat) : Prop where
  srt : Srt key D lo hi
  img : ∀ p, lo ≤ p → p < hi → lo ≤ D p ∧ D p < hi
  onto : ∀ x, lo ≤ x → x < hi → ∃ p, lo ≤ p ∧ p < hi ∧ D p = x
theorem blk_none {key D : Nat → Nat} {lo hi : Nat} (h : hi ≤ lo) : Blk key D lo hi := ⟨fun i j h1 h2 h3 => by omega, fun p h1 h2 => by omega, fun x h1 h2 => by omega⟩
theorem blk_halves {key D : Nat → Nat} {a m b : Nat} (h : Blk key D a m) (g : Blk key D m b) : Halves key D a m b := ⟨h.srt, g.srt, fun p q h1 h2 h3 h4 => by have := h.img p h1 h2; have := g.img q h3 h4; omega⟩
theorem blk_merged {key D E : Nat → Nat} {a m b : Nat} (h1 : a ≤ m) (h2 : m ≤ b) (h : Blk key D a m) (g : Blk key D m b) (e : Merged key D E a b) : Blk key E a b := by
  have hi : ∀ q, a ≤ q → q < b → a ≤ D q ∧ D q < b := fun q q1 q2 => by
    by_cases c : q < m
    · have := h.img q q1 c; omega
    · have := g.img q (by omega) q2; omega
  refine ⟨e.srt, fun p p1 p2 => ?_, fun x x1 x2 => ?_⟩
  · obtain ⟨q, q1, q2, e1⟩ := e.same.img p p1 p2
    rw [e1]; exact hi q q1 q2
  · obtain ⟨q, q1, q2, e1⟩ : ∃ q, a ≤ q ∧ q < b ∧ D q = x := by
      by_cases c : x < m
      · obtain ⟨q, q1, q2, e1⟩ := h.onto x x1 c; exact ⟨q, q1, by omega, e1⟩
      · obtain ⟨q, q1, q2, e1⟩ := g.onto x (by omega) x2; exact ⟨q, by omega, q2, e1⟩
    obtain ⟨p, p1, p2, e2⟩ := e.same.onto q q1 q2
    exact ⟨p, p1, p2, e2.trans e1⟩
theorem blk_same {key D E : Nat → Nat} {a b lo hi : Nat} (h : Blk key D lo hi) (s : Same D E a b) (hx : hi ≤ a ∨ b ≤ lo) : Blk key E lo hi := by
  have e : ∀ p, lo ≤ p → p < hi → E p = D p := fun p h1 h2 => s.out p (by omega)
  refine ⟨srt_ext h.srt e, fun p h1 h2 => ?_, fun x h1 h2 => ?_⟩
  · rw [e p h1 h2]; exact h.img p h1 h2
  · obtain ⟨p, p1, p2, ep⟩ := h.onto x h1 h2
    exact ⟨p, p1, p2, by rw [e p p1 p2]; exact ep⟩
theorem blk_ins {key D E : Nat → Nat} {a b : Nat} (hD : ∀ p, a ≤ p → p < b → D p = p) (h : Merged key D E a b) : Blk key E a b :=
  ⟨h.srt, fun p h1 h2 => by
    obtain ⟨q, q1, q2, e⟩ := h.same.img p h1 h2
    rw [e, hD q q1 q2]; exact ⟨q1, q2⟩, fun x h1 h2 => by
    obtain ⟨p, p1, p2, e⟩ := h.same.onto x h1 h2
    exact ⟨p, p1, p2, by rw [e, hD x h1 h2]⟩⟩
theorem same_bound {D E : Nat → Nat} {a b n : Nat} (h : Same D E a b) (hb : b ≤ n) (g : ∀ p, p < n → D p < n) : ∀ p, p < n → E p < n := fun p hp => by
  by_cases c : a ≤ p ∧ p < b
  · obtain ⟨q, q1, q2, e⟩ := h.img p c.1 c.2
    rw [e]; exact g q (by omega)
  · rw [h.out p (by omega)]; exact g p hp
/- What is in order is the order of telling. -/
theorem pks_order {l : List Pc} {D : Nat → Nat} (h : Blk (tol l) D 0 l.length) : ∀ k, pks l k = (List.range (min k l.length)).map D
  | 0 => by simp [pks]
  | k + 1 => by
    have ih := pks_order h k
    by_cases c : k < l.length
    · rw [Nat.min_eq_left (by omega)] at ih
      have hnot : ∀ j, k ≤ j → j < l.length → mm (pks l k) (D j) = false := fun j h1 h2 => by
        rw [mm_false, ih]
        intro hm
        obtain ⟨i, hi, e⟩ := List.mem_map.1 hm
        rw [List.mem_range] at hi
        exact lx_ne (h.srt i j (by omega) (by omega) h2) e
      cases e : bk l (mm (pks l k)) l.length with
      | none =>
        have := bk_none e (D k) (h.img k (by omega) c).2
        rw [hnot k (Nat.le_refl _) c] at this
        cases this
      | some x =>
        obtain ⟨x1, x2, x3⟩ := bk_some e
        obtain ⟨j, _, j2, ej⟩ := h.onto x (by omega) x1
        have hjk : k ≤ j := by
          by_cases hh : k ≤ j
          · exact hh
          · rw [mm_false, ih] at x2
            exact absurd (List.mem_map.2 ⟨j, List.mem_range.2 (by omega), ej⟩) x2
        have := x3 (D k) (h.img k (by omega) c).2 (hnot k (Nat.le_refl _) c)
        have hx : x = D k := by
          rcases Nat.eq_or_lt_of_le hjk with e1 | e1
          · rw [e1]; exact ej.symm
          · have hl := h.srt k j (by omega) e1 j2
            rw [ej] at hl
            unfold lx at hl
            omega
        rw [pks_more e, ih, hx, Nat.min_eq_left (by omega), List.range_succ, List.map_append]
        rfl
    · have hs : bk l (mm (pks l k)) l.length = none := by
        cases e : bk l (mm (pks l k)) l.length with
        | none => rfl
        | some x =>
          obtain ⟨x1, x2, _⟩ := bk_some e
          obtain ⟨j, _, j2, ej⟩ := h.onto x (by omega) x1
          rw [mm_false, ih, Nat.min_eq_right (by omega)] at x2
          exact absurd (List.mem_map.2 ⟨j, List.mem_range.2 j2, ej⟩) x2
      rw [pks_same hs, ih, Nat.min_eq_right (by omega), Nat.min_eq_right (by omega)]
/- The row of the blocks while the sort goes on; s is 20 or 40. -/
def Some (key D : Nat → Nat) (n s : Nat) : Prop := ∀ t, Blk key D (s * t) (min (s * t + s) n)
structure One (key D : Nat → Nat) (k : Nat) : Prop where
  low : ∀ t, t < k → Blk key D (20 * t) (20 * t + 20)
  high : ∀ p, 20 * k ≤ p → D p = p
theorem one_start (key : Nat → Nat) : One key (fun p => p) 0 := ⟨fun t h => by omega, fun p _ => rfl⟩
theorem one_next {key D E : Nat → Nat} {k : Nat} (h : One key D k) (m : Merged key D E (20 * k) (20 * k + 20)) : One key E (k + 1) := by
  refine ⟨fun t ht => ?_, fun p hp => ?_⟩
  · by_cases c : t = k
    · subst c; exact blk_ins (fun p h1 h2 => h.high p h1) m
    · exact blk_same (h.low t (by omega)) m.same (Or.inl (by omega))
  · rw [m.same.out p (Or.inr (by omega))]; exact h.high p (by omega)
theorem one_done {key D E : Nat → Nat} {k n : Nat} (h : One key D k) (h1 : 20 * k ≤ n) (h2 : n < 20 * k + 20) (m : Merged key D E (20 * k) n) : Some key E n 20 := fun t => by
  by_cases c : t < k
  · rw [Nat.min_eq_left (by omega)]; exact blk_same (h.low t c) m.same (Or.inl (by omega))
  · by_cases c2 : t = k
    · subst c2
      rw [Nat.min_eq_right (by omega)]; exact blk_ins (fun p h1 h2 => h.high p h1) m
    · exact blk_none (by omega)
structure Two (key D : Nat → Nat) (n s k : Nat) : Prop where
  low : ∀ t, t < k → Blk key D (2 * s * t) (2 * s * t + 2 * s)
  high : ∀ t, 2 * k ≤ t → Blk key D (s * t) (min (s * t + s) n)
theorem two_start {key D : Nat → Nat} {n s : Nat} (h : Some key D n s) : Two key D n s 0 := ⟨fun t h => by omega, fun t _ => h t⟩
theorem two_halves {key D : Nat → Nat} {n s k b : Nat} (hs : s = 20 ∨ s = 40) (h : Two key D n s k) (h1 : 2 * s * k + s < b) (h2 : b ≤ n) (h3 : b ≤ 2 * s * k + 2 * s) (h4 : b = n ∨ b = 2 * s * k + 2 * s) : Blk key D (2 * s * k) (2 * s * k + s) ∧ Blk key D (2 * s * k + s) b := by
  have e1 := h.high (2 * k) (Nat.le_refl _)
  have e2 := h.high (2 * k + 1) (by omega)
  rcases hs with rfl | rfl
  · rw [Nat.min_eq_left (by omega), show 20 * (2 * k) = 2 * 20 * k by omega] at e1
    rw [show 20 * (2 * k + 1) = 2 * 20 * k + 20 by omega, show min (2 * 20 * k + 20 + 20) n = b by omega] at e2
    exact ⟨e1, e2⟩
  · rw [Nat.min_eq_left (by omega), show 40 * (2 * k) = 2 * 40 * k by omega] at e1
    rw [show 40 * (2 * k + 1) = 2 * 40 * k + 40 by omega, show min (2 * 40 * k + 40 + 40) n = b by omega] at e2
    exact ⟨e1, e2⟩
theorem two_next {key D E : Nat → Nat} {n s k : Nat} (hs : s = 20 ∨ s = 40) (h : Two key D n s k) (h2 : 2 * s * k + 2 * s ≤ n) (m : Merged key D E (2 * s * k) (2 * s * k + 2 * s)) : Two key E n s (k + 1) := by
  obtain ⟨b1, b2⟩ := two_halves hs h (b := 2 * s * k + 2 * s) (by omega) h2 (Nat.le_refl _) (Or.inr rfl)
  have bm := blk_merged (by omega) (by omega) b1 b2 m
  refine ⟨fun t ht => ?_, fun t ht => ?_⟩
  · by_cases c : t = k
    · subst c; exact bm
    · refine blk_same (h.low t (by omega)) m.same (Or.inl ?_)
      rcases hs with rfl | rfl <;> omega
  · refine blk_same (h.high t (by omega)) m.same (Or.inr ?_)
    rcases hs with rfl | rfl <;> omega
theorem two_last {key D E : Nat → Nat} {n s k : Nat} (hs : s = 20 ∨ s = 40) (h : Two key D n s k) (h1 : 2 * s * k + s < n) (h2 : n < 2 * s * k + 2 * s) (m : Merged key D E (2 * s * k) n) : Some key E n (2 * s) := fun t => by
  obtain ⟨b1, b2⟩ := two_halves hs h (b := n) h1 (Nat.le_refl _) (by omega) (Or.inl rfl)
  have bm := blk_merged (by omega) (by omega) b1 b2 m
  by_cases c : t < k
  · have : 2 * s * t + 2 * s ≤ 2 * s * k := by rcases hs with rfl | rfl <;> omega
    rw [Nat.min_eq_left (by omega)]
    exact blk_same (h.low t c) m.same (Or.inl this)
  · by_cases c2 : t = k
    · subst c2
      rw [Nat.min_eq_right (by omega)]; exact bm
    · refine blk_none ?_
      rcases hs with rfl | rfl <;> omega
theorem two_none {key D : Nat → Nat} {n s k : Nat} (hs : s = 20 ∨ s = 40) (h : Two key D n s k) (h0 : 2 * s * k ≤ n) (h1 : n ≤ 2 * s * k + s) : Some key D n (2 * s) := fun t => by
  by_cases c : t < k
  · have : 2 * s * t + 2 * s ≤ 2 * s * k := by rcases hs with rfl | rfl <;> omega
    rw [Nat.min_eq_left (by omega)]
    exact h.low t c
  · by_cases c2 : t = k
    · subst c2
      have e1 := h.high (2 * t) (Nat.le_refl _)
      rcases hs with rfl | rfl
      · rw [show 20 * (2 * t) = 2 * 20 * t by omega, Nat.min_eq_right (by omega)] at e1
        rw [Nat.min_eq_right (by omega)]; exact e1
      · rw [show 40 * (2 * t) = 2 * 40 * t by omega, Nat.min_eq_right (by omega)] at e1
        rw [Nat.min_eq_right (by omega)]; exact e1
    · refine blk_none ?_
      rcases hs with rfl | rfl <;> omega
theorem some_done {key D : Nat → Nat} {n s : Nat} (h : Some key D n s) (hs : n ≤ s) : Blk key D 0 n := by
  have := h 0
  rw [Nat.mul_zero, Nat.min_eq_right (by omega)] at this
  exact this
end Go.Proofs.Ytalcbahnhiibkaa
