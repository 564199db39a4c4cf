/- The plain mathematics of stamps: how two stamps stand to each other. No condition. -/
namespace Go.Proofs.YtjmldnbepajnoaaR

structure Stp where
  p : Int
  l : Int
  n : Int
theorem Stp.ext {a b : Stp} (h1 : a.p = b.p) (h2 : a.l = b.l) (h3 : a.n = b.n) : a = b := by
  cases a; cases b; simp_all
/- A stamp that can be. -/
def Stp.ok (s : Stp) : Prop := 0 ≤ s.p ∧ s.p < 18446744073709551616 ∧ 0 ≤ s.l ∧ s.l < 4294967296 ∧ 0 ≤ s.n ∧ s.n < 256
def zero : Stp := ⟨0, 0, 0⟩
theorem zero_ok : zero.ok := by unfold zero Stp.ok; simp
/- It stands ahead. -/
def Lt (a b : Stp) : Prop := a.p < b.p ∨ (a.p = b.p ∧ (a.l < b.l ∨ (a.l = b.l ∧ a.n < b.n)))
def lt (a b : Stp) : Bool := decide (a.p < b.p) || (decide (a.p = b.p) && (decide (a.l < b.l) || (decide (a.l = b.l) && decide (a.n < b.n))))
theorem lt_iff (a b : Stp) : lt a b = true ↔ Lt a b := by
  unfold lt Lt
  simp
theorem lt_false (a b : Stp) : lt a b = false ↔ ¬ Lt a b := by
  rw [← lt_iff]; simp
def same (a b : Stp) : Bool := decide (a.p = b.p) && (decide (a.l = b.l) && decide (a.n = b.n))
theorem same_iff (a b : Stp) : same a b = true ↔ a = b := by
  unfold same
  constructor
  · intro h; simp at h; exact Stp.ext h.1 h.2.1 h.2.2
  · rintro rfl; simp
theorem same_false (a b : Stp) : same a b = false ↔ a ≠ b := by
  rw [ne_eq, ← same_iff]; simp
theorem lt_irrefl (a : Stp) : ¬ Lt a a := by unfold Lt; omega
theorem lt_asymm {a b : Stp} (h : Lt a b) : ¬ Lt b a := by unfold Lt at *; omega
theorem lt_trans {a b c : Stp} (h : Lt a b) (k : Lt b c) : Lt a c := by unfold Lt at *; omega
theorem lt_total {a b : Stp} (h : ¬ Lt a b) (k : ¬ Lt b a) : a = b := by
  apply Stp.ext <;> (unfold Lt at *; omega)
/- -1, 0, 1. -/
def cmp (a b : Stp) : Int := if lt a b = true then -1 else if lt b a = true then 1 else 0
theorem cmp_lt {a b : Stp} (h : Lt a b) : cmp a b = -1 := by unfold cmp; rw [if_pos ((lt_iff a b).2 h)]
theorem cmp_gt {a b : Stp} (h : Lt b a) : cmp a b = 1 := by
  unfold cmp; rw [if_neg (by rw [lt_iff]; exact lt_asymm h), if_pos ((lt_iff b a).2 h)]
theorem cmp_self (a : Stp) : cmp a a = 0 := by
  unfold cmp; rw [if_neg (by rw [lt_iff]; exact lt_irrefl a), if_neg (by rw [lt_iff]; exact lt_irrefl a)]
theorem cmp_neg (a b : Stp) : cmp b a = - cmp a b := by
  by_cases h : Lt a b
  · rw [cmp_lt h, cmp_gt h]; rfl
  · by_cases k : Lt b a
    · rw [cmp_lt k, cmp_gt k]
    · rw [lt_total h k, cmp_self]; rfl
theorem cmp_zero (a b : Stp) : cmp a b = 0 ↔ a = b := by
  by_cases h : Lt a b
  · rw [cmp_lt h]; constructor
    · intro e; omega
    · rintro rfl; exact absurd h (lt_irrefl _)
  · by_cases k : Lt b a
    · rw [cmp_gt k]; constructor
      · intro e; omega
      · rintro rfl; exact absurd k (lt_irrefl _)
    · have := lt_total h k; subst this; simp [cmp_self]
theorem cmp_cases (a b : Stp) : cmp a b = -1 ∨ cmp a b = 0 ∨ cmp a b = 1 := by
  by_cases h : Lt a b
  · exact .inl (cmp_lt h)
  · by_cases k : Lt b a
    · exact .inr (.inr (cmp_gt k))
    · have := lt_total h k; subst this; exact .inr (.inl (cmp_self _))

end Go.Proofs.YtjmldnbepajnoaaR
