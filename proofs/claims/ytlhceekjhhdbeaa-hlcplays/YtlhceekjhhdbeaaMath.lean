/- The plain mathematics of stamps and clocks: how two stamps stand to each other, what a clock does at each call, and what follows. No condition but those that are stated. -/
namespace Go.Proofs.Ytlhceekjhhdbeaa

structure Stp where
  p : Int
  l : Int
  n : Int
theorem Stp.ext {a b : Stp} (h1 : a.p = b.p) (h2 : a.l = b.l) (h3 : a.n = b.n) : a = b := by
  cases a; cases b; simp_all
/- A stamp that can be. -/
def Stp.ok (s : Stp) : Prop := 0 ≤ s.p ∧ s.p < 18446744073709551616 ∧ 0 ≤ s.l ∧ s.l < 4294967296 ∧ 0 ≤ s.n ∧ s.n < 256
def zero : Stp := ⟨0, 0, 0⟩
theorem zero_ok : zero.ok := by unfold zero Stp.ok; simp
/- It stands ahead. -/
def Lt (a b : Stp) : Prop := a.p < b.p ∨ (a.p = b.p ∧ (a.l < b.l ∨ (a.l = b.l ∧ a.n < b.n)))
def lt (a b : Stp) : Bool := decide (a.p < b.p) || (decide (a.p = b.p) && (decide (a.l < b.l) || (decide (a.l = b.l) && decide (a.n < b.n))))
theorem lt_iff (a b : Stp) : lt a b = true ↔ Lt a b := by
  unfold lt Lt
  simp
theorem lt_false (a b : Stp) : lt a b = false ↔ ¬ Lt a b := by
  rw [← lt_iff]; simp
def same (a b : Stp) : Bool := decide (a.p = b.p) && (decide (a.l = b.l) && decide (a.n = b.n))
theorem same_iff (a b : Stp) : same a b = true ↔ a = b := by
  unfold same
  constructor
  · intro h; simp at h; exact Stp.ext h.1 h.2.1 h.2.2
  · rintro rfl; simp
theorem same_false (a b : Stp) : same a b = false ↔ a ≠ b := by
  rw [ne_eq, ← same_iff]; simp
theorem lt_irrefl (a : Stp) : ¬ Lt a a := by unfold Lt; omega
theorem lt_asymm {a b : Stp} (h : Lt a b) : ¬ Lt b a := by unfold Lt at *; omega
theorem lt_trans {a b c : Stp} (h : Lt a b) (k : Lt b c) : Lt a c := by unfold Lt at *; omega
theorem lt_total {a b : Stp} (h : ¬ Lt a b) (k : ¬ Lt b a) : a = b := by
  apply Stp.ext <;> (unfold Lt at *; omega)
/- -1, 0, 1. -/
def cmp (a b : Stp) : Int := if lt a b = true then -1 else if lt b a = true then 1 else 0
theorem cmp_lt {a b : Stp} (h : Lt a b) : cmp a b = -1 := by unfold cmp; rw [if_pos ((lt_iff a b).2 h)]
theorem cmp_gt {a b : Stp} (h : Lt b a) : cmp a b = 1 := by
  unfold cmp; rw [if_neg (by rw [lt_iff]; exact lt_asymm h), if_pos ((lt_iff b a).2 h)]
theorem cmp_self (a : Stp) : cmp a a = 0 := by
  unfold cmp; rw [if_neg (by rw [lt_iff]; exact lt_irrefl a), if_neg (by rw [lt_iff]; exact lt_irrefl a)]
theorem cmp_neg (a b : Stp) : cmp b a = - cmp a b := by
  by_cases h : Lt a b
  · rw [cmp_lt h, cmp_gt h]; rfl
  · by_cases k : Lt b a
    · rw [cmp_lt k, cmp_gt k]
    · rw [lt_total h k, cmp_self]; rfl
theorem cmp_zero (a b : Stp) : cmp a b = 0 ↔ a = b := by
  by_cases h : Lt a b
  · rw [cmp_lt h]; constructor
    · intro e; omega
    · rintro rfl; exact absurd h (lt_irrefl _)
  · by_cases k : Lt b a
    · rw [cmp_gt k]; constructor
      · intro e; omega
      · rintro rfl; exact absurd k (lt_irrefl _)
    · have := lt_total h k; subst this; simp [cmp_self]
theorem cmp_cases (a b : Stp) : cmp a b = -1 ∨ cmp a b = 0 ∨ cmp a b = 1 := by
  by_cases h : Lt a b
  · exact .inl (cmp_lt h)
  · by_cases k : Lt b a
    · exact .inr (.inr (cmp_gt k))
    · have := lt_total h k; subst this; exact .inr (.inl (cmp_self _))

/- A clock: its node, its time, its drift, its last stamp, the first time at which it gives stamps. -/
structure Clk where
  node : Int
  time : Int
  drift : Int
  last : Stp
  wakes : Int
def Clk.ok (k : Clk) : Prop := 0 ≤ k.node ∧ k.node < 64 ∧ 0 ≤ k.time ∧ k.time ≤ 281474976710655 ∧ 0 ≤ k.drift ∧ k.drift ≤ 1000 ∧ k.last.ok ∧ 0 ≤ k.wakes ∧ k.wakes ≤ 281474976711656
def mayNew (node time drift : Int) : Prop := node < 64 ∧ time ≤ 281474976710655 ∧ 0 ≤ drift ∧ drift ≤ 1000
def newK (node time drift : Int) (rest : Bool) : Clk := ⟨node, time, drift, zero, if rest = true then time + drift + 1 else 0⟩
theorem new_ok {node time drift : Int} (rest : Bool) (h : mayNew node time drift) (h1 : 0 ≤ node) (h2 : 0 ≤ time) : (newK node time drift rest).ok := by
  unfold mayNew at h
  unfold newK Clk.ok
  refine ⟨h1, h.1, h2, h.2.1, h.2.2.1, h.2.2.2, zero_ok, ?_⟩
  cases rest <;> simp <;> omega
def passK (k : Clk) (n : Int) : Clk := if 1 ≤ n then { k with time := if k.time + n ≤ 281474976710655 then k.time + n else 281474976710655 } else k
theorem pass_ok {k : Clk} (h : k.ok) (n : Int) : (passK k n).ok := by
  unfold passK
  split
  · unfold Clk.ok at *
    refine ⟨h.1, h.2.1, ?_, ?_, h.2.2.2.2.1, h.2.2.2.2.2.1, h.2.2.2.2.2.2⟩
    · show 0 ≤ ite _ _ _; split <;> omega
    · show ite _ _ _ ≤ _; split <;> omega
  · exact h
/- What Now answers: a stamp, an error, the clock behind it. -/
def nowK (k : Clk) : Stp × Int × Clk :=
  if k.time < k.wakes then (zero, 10, k)
  else if k.last.p < k.time then (⟨k.time, 0, k.node⟩, 0, { k with last := ⟨k.time, 0, k.node⟩ })
  else if k.last.l = 4294967295 then (zero, 6, k)
  else (⟨k.last.p, k.last.l + 1, k.node⟩, 0, { k with last := ⟨k.last.p, k.last.l + 1, k.node⟩ })
theorem now_ok {k : Clk} (h : k.ok) : (nowK k).2.2.ok ∧ (nowK k).1.ok := by
  have h' := h
  unfold Clk.ok Stp.ok at h
  unfold nowK
  split
  · exact ⟨h', zero_ok⟩
  split
  · have : Stp.ok ⟨k.time, 0, k.node⟩ := by unfold Stp.ok; simp; omega
    refine ⟨?_, this⟩
    unfold Clk.ok
    exact ⟨h.1, h.2.1, h.2.2.1, h.2.2.2.1, h.2.2.2.2.1, h.2.2.2.2.2.1, this, h.2.2.2.2.2.2.2⟩
  split
  · exact ⟨h', zero_ok⟩
  · have : Stp.ok ⟨k.last.p, k.last.l + 1, k.node⟩ := by unfold Stp.ok; simp; omega
    refine ⟨?_, this⟩
    unfold Clk.ok
    exact ⟨h.1, h.2.1, h.2.2.1, h.2.2.2.1, h.2.2.2.2.1, h.2.2.2.2.2.1, this, h.2.2.2.2.2.2.2⟩
/- What See answers: an error, the clock behind it. -/
def seeK (k : Clk) (s : Stp) : Int × Clk :=
  if k.time + k.drift < s.p ∨ 64 ≤ s.n then (9, k) else (0, if lt k.last s = true then { k with last := s } else k)
theorem see_ok {k : Clk} (h : k.ok) {s : Stp} (hs : s.ok) : (seeK k s).2.ok := by
  unfold seeK
  split
  · exact h
  · show Clk.ok (ite _ _ _)
    split
    · unfold Clk.ok at *
      exact ⟨h.1, h.2.1, h.2.2.1, h.2.2.2.1, h.2.2.2.2.1, h.2.2.2.2.2.1, hs, h.2.2.2.2.2.2.2⟩
    · exact h
end Go.Proofs.Ytlhceekjhhdbeaa
