/- The plain mathematics of records as bytes: what is put, what is got, and that both ways fit together. No condition but those that are stated. The parts of the slow road of sync.Once in this program, each a contract of its own: the lock is taken, the flag is stored, the lock is let go. The lock is free at first. -/
import Derived.Test.YtioeidhblbfgmaaGreatY3
import Derived.Test.YtioeidhblbfgmaaGreatRows
import Derived.Tactics
import Derived.Tactics2
import Derived.Defers
import Derived.Laws.Pointers
import Derived.Laws.LoneSync
import Derived.RegionTactic
import Derived.RegionCalls
import Derived.ChangeAlike
import Derived.Laws.NewBlocks

namespace Go.Proofs.YtioeidhblbfgmaaGreat
set_option linter.unusedVariables false
set_option maxRecDepth 100000
set_option linter.unusedSimpArgs false

def encB (n : Nat) : ByteArray := ⟨(enc n).toArray⟩
def encI (x : Int) : ByteArray := encB x.toNat
def headB (r : R) : ByteArray := textE r.key ++ encI r.s.p ++ encI r.s.l ++ encI r.s.n ++ encI r.kind
def tailB (r : R) : ByteArray := encI r.flags ++ encI r.exp ++ textE r.body
def putR (r : R) : ByteArray := if r.kind = 3 then headB r ++ tailB r else headB r
theorem encB_size (n : Nat) : (encB n).size ≤ 8 := by
  show (enc n).toArray.size ≤ 8
  simp [enc_length]
  exact (wide_pos _).2
theorem encI_size (x : Int) : (encI x).size ≤ 8 := encB_size _

def stepN (s : ByteArray) (most : Nat) (p : Int) (f : Nat) : Nat × Int × Nat :=
  if f = 0 then
    if (getN s p).2.2 = 0 then (if most < (getN s p).1 then (0, p, 3) else ((getN s p).1, ((getN s p).2.1 : Int), 0))
    else (0, p, (getN s p).2.2)
  else (0, p, f)
def stepT (s : ByteArray) (most p : Int) (f : Nat) : ByteArray × Int × Nat :=
  if f = 0 then ((getT s p most).1, ((getT s p most).2.1 : Int), (getT s p most).2.2) else (⟨#[]⟩, p, f)
def mostOf (k : Nat) : Nat := if k = 0 then 18446744073709551615 else if k = 1 then 4294967295 else if k = 2 then 255 else if k = 3 then 255 else if k = 4 then 4294967295 else 18446744073709551615
def runN (s : ByteArray) (p : Int) (f : Nat) : Nat → Int × Nat
  | 0 => (p, f)
  | k + 1 => (stepN s (mostOf k) (runN s p f k).1 (runN s p f k).2).2
def valN (s : ByteArray) (p : Int) (f k : Nat) : Nat := (stepN s (mostOf k) (runN s p f k).1 (runN s p f k).2).1
def recP (s : ByteArray) (K : ByteArray × Int × Nat) : R × Int × Nat :=
  if valN s K.2.1 K.2.2 3 = 3 then
    (⟨K.1, ⟨valN s K.2.1 K.2.2 0, valN s K.2.1 K.2.2 1, valN s K.2.1 K.2.2 2⟩, valN s K.2.1 K.2.2 3, valN s K.2.1 K.2.2 4, valN s K.2.1 K.2.2 5, (stepT s 1024 (runN s K.2.1 K.2.2 6).1 (runN s K.2.1 K.2.2 6).2).1⟩, (stepT s 1024 (runN s K.2.1 K.2.2 6).1 (runN s K.2.1 K.2.2 6).2).2)
  else
    (⟨K.1, ⟨valN s K.2.1 K.2.2 0, valN s K.2.1 K.2.2 1, valN s K.2.1 K.2.2 2⟩, valN s K.2.1 K.2.2 3, 0, 0, ⟨#[]⟩⟩, runN s K.2.1 K.2.2 4)
def outR (q : R × Int × Nat) : R × Int × Nat := if q.2.2 = 0 then (if mayR q.1 = true then q else (zeroR, 0, 3)) else (zeroR, 0, q.2.2)
def getR (s : ByteArray) (p : Int) : R × Int × Nat := outR (recP s (stepT s 250 p 0))

theorem stepN_val (s : ByteArray) (most : Nat) (p : Int) (f : Nat) : (stepN s most p f).1 ≤ most := by
  unfold stepN
  split
  · split
    · split
      · show (0 : Nat) ≤ _; omega
      · show (getN s p).1 ≤ _; omega
    · show (0 : Nat) ≤ _; omega
  · show (0 : Nat) ≤ _; omega
theorem stepN_fault (s : ByteArray) (most : Nat) (p : Int) (f : Nat) (h : f ≠ 0) : stepN s most p f = (0, p, f) := by
  unfold stepN; rw [if_neg h]
theorem run_fault (s : ByteArray) (p : Int) (f k : Nat) (h : (runN s p f k).2 ≠ 0) : (runN s p f (k + 1)).2 = (runN s p f k).2 := by
  show (stepN _ _ _ _).2.2 = _
  rw [stepN_fault _ _ _ _ h]
theorem run_stays (s : ByteArray) (p : Int) (f k : Nat) (h : (runN s p f k).2 ≠ 0) : ∀ j, (runN s p f (k + j)).2 = (runN s p f k).2
  | 0 => rfl
  | j + 1 => by
    have ih := run_stays s p f k h j
    show (runN s p f (k + j + 1)).2 = _
    rw [run_fault s p f (k + j) (by rw [ih]; exact h), ih]
theorem run_back (s : ByteArray) (p : Int) (f k : Nat) (h : (runN s p f (k + 1)).2 = 0) : (runN s p f k).2 = 0 := by
  by_cases h0 : (runN s p f k).2 = 0
  · exact h0
  · rw [run_fault s p f k h0] at h; exact h
theorem stepN_ok (s : ByteArray) (most : Nat) (p : Int) (h : (stepN s most p 0).2.2 = 0) :
    ∃ a b : Nat, p = a ∧ (stepN s most p 0).2.1 = b ∧ a ≤ b ∧ b ≤ s.size ∧ (stepN s most p 0).1 < 4611686018427387904 ∧ s.extract a b = encB (stepN s most p 0).1 := by
  unfold stepN at h ⊢
  rw [if_pos rfl] at h ⊢
  by_cases h1 : (getN s p).2.2 = 0
  · rw [if_pos h1] at h ⊢
    by_cases h2 : most < (getN s p).1
    · rw [if_pos h2] at h; simp at h
    · rw [if_neg h2]
      obtain ⟨a, e1, e2, e3, e4, e5⟩ := getN_ok s p (getN s p).1 (getN s p).2.1 (by rw [← h1])
      exact ⟨a, (getN s p).2.1, e1, rfl, by omega, e4, e2, e5⟩
  · rw [if_neg h1] at h; exact absurd h h1
theorem run_ok (s : ByteArray) (p : Int) (f k : Nat) (h : (runN s p f (k + 1)).2 = 0) :
    ∃ a b : Nat, (runN s p f k).1 = a ∧ (runN s p f (k + 1)).1 = b ∧ a ≤ b ∧ b ≤ s.size ∧ valN s p f k < 4611686018427387904 ∧ s.extract a b = encB (valN s p f k) := by
  have h0 := run_back s p f k h
  have h' : (stepN s (mostOf k) (runN s p f k).1 (runN s p f k).2).2.2 = 0 := h
  have e1 : (runN s p f (k + 1)).1 = (stepN s (mostOf k) (runN s p f k).1 (runN s p f k).2).2.1 := rfl
  rw [e1]
  unfold valN
  rw [h0] at h' ⊢
  exact stepN_ok s (mostOf k) _ h'
theorem glue (s : ByteArray) {a b c : Nat} {X Y : ByteArray} (h1 : a ≤ b) (h2 : b ≤ c) (hX : s.extract a b = X) (hY : s.extract b c = Y) : s.extract a c = X ++ Y := by
  rw [extract_join s a b c h1 h2, hX, hY]
/- What is got is just what is put. -/
theorem rec_ok (s : ByteArray) (K : ByteArray × Int × Nat) (a0 t0 : Nat) (h : (recP s K).2.2 = 0) (hK : K.2.2 = 0 → K.2.1 = t0 ∧ a0 ≤ t0 ∧ t0 ≤ s.size ∧ s.extract a0 t0 = textE K.1) :
    K.2.2 = 0 ∧ ∃ b : Nat, (recP s K).2.1 = b ∧ a0 ≤ b ∧ b ≤ s.size ∧ s.extract a0 b = putR (recP s K).1 := by
  obtain ⟨T, i0, e0⟩ := K
  unfold recP at h ⊢
  simp only at h ⊢ hK
  by_cases hv : valN s i0 e0 3 = 3
  · rw [if_pos hv] at h ⊢
    simp only at h ⊢
    have h6 : (runN s i0 e0 6).2 = 0 := by
      unfold stepT at h
      by_cases h0 : (runN s i0 e0 6).2 = 0
      · exact h0
      · rw [if_neg h0] at h; exact h
    have h5 := run_back s i0 e0 5 h6
    have h4 := run_back s i0 e0 4 h5
    have h3 := run_back s i0 e0 3 h4
    have h2 := run_back s i0 e0 2 h3
    have h1 := run_back s i0 e0 1 h2
    have h0 : e0 = 0 := run_back s i0 e0 0 h1
    obtain ⟨k1, k2, k3, k4⟩ := hK h0
    obtain ⟨a1, b1, p1, q1, r1, s1, u1, x1⟩ := run_ok s i0 e0 0 h1
    obtain ⟨a2, b2, p2, q2, r2, s2, u2, x2⟩ := run_ok s i0 e0 1 h2
    obtain ⟨a3, b3, p3, q3, r3, s3, u3, x3⟩ := run_ok s i0 e0 2 h3
    obtain ⟨a4, b4, p4, q4, r4, s4, u4, x4⟩ := run_ok s i0 e0 3 h4
    obtain ⟨a5, b5, p5, q5, r5, s5, u5, x5⟩ := run_ok s i0 e0 4 h5
    obtain ⟨a6, b6, p6, q6, r6, s6, u6, x6⟩ := run_ok s i0 e0 5 h6
    simp only [Nat.reduceAdd] at q1 q2 q3 q4 q5 q6
    have p1' : i0 = (a1 : Int) := p1
    have hT : (getT s (runN s i0 e0 6).1 1024).2.2 = 0 := by
      unfold stepT at h; rw [if_pos h6] at h; exact h
    have hTe : stepT s 1024 (runN s i0 e0 6).1 (runN s i0 e0 6).2 = ((getT s (runN s i0 e0 6).1 1024).1, ((getT s (runN s i0 e0 6).1 1024).2.1 : Int), (getT s (runN s i0 e0 6).1 1024).2.2) := by
      unfold stepT; rw [if_pos h6]
    obtain ⟨a7, g1, g2, g3, g4, g5⟩ := getT_ok s (runN s i0 e0 6).1 1024 (getT s (runN s i0 e0 6).1 1024).1 (getT s (runN s i0 e0 6).1 1024).2.1 (by rw [← hT])
    refine ⟨h0, (getT s (runN s i0 e0 6).1 1024).2.1, by rw [hTe], ?_, g3, ?_⟩
    · omega
    · rw [hTe]
      obtain rfl : a1 = t0 := by omega
      obtain rfl : a2 = b1 := by omega
      obtain rfl : a3 = b2 := by omega
      obtain rfl : a4 = b3 := by omega
      obtain rfl : a5 = b4 := by omega
      obtain rfl : a6 = b5 := by omega
      obtain rfl : a7 = b6 := by omega
      have y1 := glue s k2 r1 k4 x1
      have y2 := glue s (by omega) r2 y1 x2
      have y3 := glue s (by omega) r3 y2 x3
      have y4 := glue s (by omega) r4 y3 x4
      have y5 := glue s (by omega) r5 y4 x5
      have y6 := glue s (by omega) r6 y5 x6
      have y7 := glue s (by omega) g2 y6 g5
      rw [y7]
      unfold putR headB tailB encI
      simp only [Int.toNat_natCast]
      rw [if_pos (by rw [hv]; rfl)]
      simp only [ByteArray.append_assoc]
  · rw [if_neg hv] at h ⊢
    simp only at h ⊢
    have h3 := run_back s i0 e0 3 h
    have h2 := run_back s i0 e0 2 h3
    have h1 := run_back s i0 e0 1 h2
    have h0 : e0 = 0 := run_back s i0 e0 0 h1
    obtain ⟨k1, k2, k3, k4⟩ := hK h0
    obtain ⟨a1, b1, p1, q1, r1, s1, u1, x1⟩ := run_ok s i0 e0 0 h1
    obtain ⟨a2, b2, p2, q2, r2, s2, u2, x2⟩ := run_ok s i0 e0 1 h2
    obtain ⟨a3, b3, p3, q3, r3, s3, u3, x3⟩ := run_ok s i0 e0 2 h3
    obtain ⟨a4, b4, p4, q4, r4, s4, u4, x4⟩ := run_ok s i0 e0 3 h
    simp only [Nat.reduceAdd] at q1 q2 q3 q4
    have p1' : i0 = (a1 : Int) := p1
    refine ⟨h0, b4, q4, by omega, s4, ?_⟩
    obtain rfl : a1 = t0 := by omega
    obtain rfl : a2 = b1 := by omega
    obtain rfl : a3 = b2 := by omega
    obtain rfl : a4 = b3 := by omega
    have y1 := glue s k2 r1 k4 x1
    have y2 := glue s (by omega) r2 y1 x2
    have y3 := glue s (by omega) r3 y2 x3
    have y4 := glue s (by omega) r4 y3 x4
    rw [y4]
    unfold putR headB encI
    simp only [Int.toNat_natCast]
    rw [if_neg (by omega)]
theorem getR_ok (s : ByteArray) (p : Int) (h : (getR s p).2.2 = 0) :
    mayR (getR s p).1 = true ∧ ∃ a b : Nat, p = a ∧ (getR s p).2.1 = b ∧ a ≤ b ∧ b ≤ s.size ∧ s.extract a b = putR (getR s p).1 := by
  have ho : getR s p = recP s (stepT s 250 p 0) ∧ (recP s (stepT s 250 p 0)).2.2 = 0 ∧ mayR (recP s (stepT s 250 p 0)).1 = true := by
    unfold getR outR at h ⊢
    by_cases h1 : (recP s (stepT s 250 p 0)).2.2 = 0
    · rw [if_pos h1] at h ⊢
      by_cases h2 : mayR (recP s (stepT s 250 p 0)).1 = true
      · rw [if_pos h2]; exact ⟨rfl, h1, h2⟩
      · rw [if_neg h2] at h; simp at h
    · rw [if_neg h1] at h; exact absurd h h1
  obtain ⟨e, h1, h2⟩ := ho
  rw [e]
  refine ⟨h2, ?_⟩
  have hst : stepT s 250 p 0 = ((getT s p 250).1, ((getT s p 250).2.1 : Int), (getT s p 250).2.2) := by
    unfold stepT; rw [if_pos rfl]
  rw [hst] at h1 h2 ⊢
  by_cases h0 : (getT s p 250).2.2 = 0
  · obtain ⟨a, g1, g2, g3, g4, g5⟩ := getT_ok s p 250 (getT s p 250).1 (getT s p 250).2.1 (by rw [← h0])
    obtain ⟨-, b, c1, c2, c3, c4⟩ := rec_ok s ((getT s p 250).1, ((getT s p 250).2.1 : Int), (getT s p 250).2.2) a (getT s p 250).2.1 h1 (fun _ => ⟨rfl, g2, g3, g5⟩)
    exact ⟨a, b, g1, c1, c2, c3, c4⟩
  · exact absurd (rec_ok s ((getT s p 250).1, ((getT s p 250).2.1 : Int), (getT s p 250).2.2) 0 0 h1 (fun e => absurd e h0)).1 h0
theorem getR_err (s : ByteArray) (p : Int) (h : (getR s p).2.2 ≠ 0) : getR s p = (zeroR, 0, (getR s p).2.2) := by
  unfold getR outR at h ⊢
  by_cases h1 : (recP s (stepT s 250 p 0)).2.2 = 0
  · rw [if_pos h1] at h ⊢
    by_cases h2 : mayR (recP s (stepT s 250 p 0)).1 = true
    · rw [if_pos h2] at h; exact absurd h1 h
    · rw [if_neg h2]
  · rw [if_neg h1]
/- What is put is got. -/
theorem stepN_at {s A B : ByteArray} {n most : Nat} {p : Int} (hs : s = A ++ encB n ++ B) (hp : p = A.size) (hn : n < 4611686018427387904) (hm : n ≤ most) : stepN s most p 0 = (n, ((A.size + (encB n).size : Nat) : Int), 0) := by
  have hg := getN_put A B n hn
  have he : (encB n).size = wide (kindOf n) := enc_length n
  subst hp hs
  unfold stepN
  rw [if_pos rfl]
  show (if (getN (A ++ encB n ++ B) A.size).2.2 = 0 then _ else _) = _
  have hg' : getN (A ++ encB n ++ B) A.size = (n, A.size + wide (kindOf n), 0) := hg
  rw [hg', if_pos rfl, if_neg (by simp; omega), he]
theorem stepT_at {s A B t : ByteArray} {most p : Int} (hs : s = A ++ textE t ++ B) (hp : p = A.size) (ht : t.size < 4611686018427387904) (hm : (t.size : Int) ≤ most) : stepT s most p 0 = (t, ((A.size + (textE t).size : Nat) : Int), 0) := by
  have hg := getT_put A t B most ht
  rw [if_neg (by omega)] at hg
  subst hp hs
  unfold stepT
  rw [if_pos rfl, hg]
theorem run_next {s : ByteArray} {p q : Int} {k n : Nat} (h0 : runN s p 0 k = (q, 0)) {t : Nat} (h : stepN s (mostOf k) q 0 = (n, (t : Int), 0)) : runN s p 0 (k + 1) = ((t : Int), 0) ∧ valN s p 0 k = n := by
  have e1 : runN s p 0 (k + 1) = (stepN s (mostOf k) (runN s p 0 k).1 (runN s p 0 k).2).2 := rfl
  have e2 : valN s p 0 k = (stepN s (mostOf k) (runN s p 0 k).1 (runN s p 0 k).2).1 := rfl
  rw [e1, e2, h0]
  show (stepN s (mostOf k) q 0).2 = _ ∧ (stepN s (mostOf k) q 0).1 = _
  rw [h]
  exact ⟨rfl, rfl⟩
theorem may_facts {r : R} (hr : 0 ≤ r.s.p ∧ 0 ≤ r.s.l ∧ 0 ≤ r.s.n ∧ 0 ≤ r.flags ∧ 0 ≤ r.exp) (h : mayR r = true) :
    (1 ≤ r.key.size ∧ r.key.size ≤ 250) ∧ r.s.p ≤ 281474976710655 ∧ r.s.n < 64 ∧ (r.kind = 1 ∨ r.kind = 2 ∨ r.kind = 3) ∧ r.exp ≤ 281474976710655 ∧ r.body.size ≤ 1024 ∧ (r.kind ≠ 3 → r.flags = 0 ∧ r.exp = 0 ∧ r.body.size = 0) := by
  unfold mayR keyMay stampMay contentMay at h
  simp only [Bool.and_eq_true, decide_eq_true_eq] at h
  obtain ⟨⟨⟨k1, k2⟩, -⟩, ⟨s1, s2⟩, c⟩ := h
  split at c
  · rename_i hk
    simp only [Bool.and_eq_true, decide_eq_true_eq] at c
    exact ⟨⟨k1, k2⟩, s1, s2, by omega, by omega, by omega, fun _ => c⟩
  · split at c
    · simp only [Bool.and_eq_true, decide_eq_true_eq] at c
      exact ⟨⟨k1, k2⟩, s1, s2, by omega, by omega, by omega, fun h => by omega⟩
    · simp at c
theorem empty_of {b : ByteArray} (h : b.size = 0) : b = ⟨#[]⟩ := by
  apply bytes_ext
  have : b.data.toList.length = 0 := by simpa using h
  rw [List.length_eq_zero_iff.1 this]
theorem nat_of {x : Int} (h : 0 ≤ x) : ∃ n : Nat, x = n := ⟨x.toNat, by omega⟩
theorem outR_good {r : R} {t : Int} (h : mayR r = true) : outR (r, t, 0) = (r, t, 0) := by
  unfold outR; rw [if_pos rfl, if_pos h]
theorem getR_put (A B : ByteArray) (r : R) (hr : 0 ≤ r.s.p ∧ (0 ≤ r.s.l ∧ r.s.l < 4294967296) ∧ 0 ≤ r.s.n ∧ (0 ≤ r.flags ∧ r.flags < 4294967296) ∧ 0 ≤ r.exp) (h : mayR r = true) :
    getR (A ++ putR r ++ B) (A.size : Int) = (r, ((A.size + (putR r).size : Nat) : Int), 0) := by
  obtain ⟨⟨f1, f2⟩, f3, f4, f5, f6, f7, f8⟩ := may_facts ⟨hr.1, hr.2.1.1, hr.2.2.1, hr.2.2.2.1.1, hr.2.2.2.2⟩ h
  have HM := h
  obtain ⟨hp, ⟨hl1, hl2⟩, hn, ⟨hf1, hf2⟩, he⟩ := hr
  obtain ⟨K, ⟨P, L, N⟩, T, F, E, D⟩ := r
  simp only at *
  obtain ⟨P, rfl⟩ := nat_of hp
  obtain ⟨L, rfl⟩ := nat_of hl1
  obtain ⟨N, rfl⟩ := nat_of hn
  obtain ⟨F, rfl⟩ := nat_of hf1
  obtain ⟨E, rfl⟩ := nat_of he
  obtain ⟨T, rfl⟩ := nat_of (show 0 ≤ T by omega)
  clear h hp hl1 hn hf1 he
  unfold getR
  by_cases hk : T = 3
  · have eP : putR ⟨K, ⟨P, L, N⟩, T, F, E, D⟩ = textE K ++ encB P ++ encB L ++ encB N ++ encB T ++ (encB F ++ encB E ++ textE D) := by
      unfold putR headB tailB encI
      rw [if_pos (show (T : Int) = 3 by omega)]
      simp only [Int.toNat_natCast]
    rw [eP]
    obtain ⟨s, hs⟩ : ∃ s, s = A ++ (textE K ++ encB P ++ encB L ++ encB N ++ encB T ++ (encB F ++ encB E ++ textE D)) ++ B := ⟨_, rfl⟩
    rw [← hs]
    have h0 := stepT_at (s := s) (A := A) (B := encB P ++ encB L ++ encB N ++ encB T ++ (encB F ++ encB E ++ textE D) ++ B) (t := K) (most := 250) (by rw [hs]; simp only [ByteArray.append_assoc]) rfl (by omega) (by omega)
    rw [h0]
    have r0 : runN s ((A.size + (textE K).size : Nat) : Int) 0 0 = (((A.size + (textE K).size : Nat) : Int), 0) := rfl
    have g0 := stepN_at (s := s) (A := A ++ textE K) (B := encB L ++ encB N ++ encB T ++ (encB F ++ encB E ++ textE D) ++ B) (n := P) (most := mostOf 0) (p := ((A.size + (textE K).size : Nat) : Int)) (by rw [hs]; simp only [ByteArray.append_assoc]) (by rw [ByteArray.size_append]) (by omega) (by show P ≤ 18446744073709551615; omega)
    obtain ⟨r1, v0⟩ := run_next r0 g0
    have g1 := stepN_at (s := s) (A := A ++ textE K ++ encB P) (B := encB N ++ encB T ++ (encB F ++ encB E ++ textE D) ++ B) (n := L) (most := mostOf 1) (p := (((A ++ textE K).size + (encB P).size : Nat) : Int)) (by rw [hs]; simp only [ByteArray.append_assoc]) (by rw [ByteArray.size_append (a := A ++ textE K)]) (by omega) (by show L ≤ 4294967295; omega)
    obtain ⟨r2, v1⟩ := run_next r1 g1
    have g2 := stepN_at (s := s) (A := A ++ textE K ++ encB P ++ encB L) (B := encB T ++ (encB F ++ encB E ++ textE D) ++ B) (n := N) (most := mostOf 2) (p := (((A ++ textE K ++ encB P).size + (encB L).size : Nat) : Int)) (by rw [hs]; simp only [ByteArray.append_assoc]) (by rw [ByteArray.size_append (a := A ++ textE K ++ encB P)]) (by omega) (by show N ≤ 255; omega)
    obtain ⟨r3, v2⟩ := run_next r2 g2
    have g3 := stepN_at (s := s) (A := A ++ textE K ++ encB P ++ encB L ++ encB N) (B := encB F ++ encB E ++ textE D ++ B) (n := T) (most := mostOf 3) (p := (((A ++ textE K ++ encB P ++ encB L).size + (encB N).size : Nat) : Int)) (by rw [hs]; simp only [ByteArray.append_assoc]) (by rw [ByteArray.size_append (a := A ++ textE K ++ encB P ++ encB L)]) (by omega) (by show T ≤ 255; omega)
    obtain ⟨r4, v3⟩ := run_next r3 g3
    have g4 := stepN_at (s := s) (A := A ++ textE K ++ encB P ++ encB L ++ encB N ++ encB T) (B := encB E ++ textE D ++ B) (n := F) (most := mostOf 4) (p := (((A ++ textE K ++ encB P ++ encB L ++ encB N).size + (encB T).size : Nat) : Int)) (by rw [hs]; simp only [ByteArray.append_assoc]) (by rw [ByteArray.size_append (a := A ++ textE K ++ encB P ++ encB L ++ encB N)]) (by omega) (by show F ≤ 4294967295; omega)
    obtain ⟨r5, v4⟩ := run_next r4 g4
    have g5 := stepN_at (s := s) (A := A ++ textE K ++ encB P ++ encB L ++ encB N ++ encB T ++ encB F) (B := textE D ++ B) (n := E) (most := mostOf 5) (p := (((A ++ textE K ++ encB P ++ encB L ++ encB N ++ encB T).size + (encB F).size : Nat) : Int)) (by rw [hs]; simp only [ByteArray.append_assoc]) (by rw [ByteArray.size_append (a := A ++ textE K ++ encB P ++ encB L ++ encB N ++ encB T)]) (by omega) (by show E ≤ 18446744073709551615; omega)
    obtain ⟨r6, v5⟩ := run_next r5 g5
    have g6 := stepT_at (s := s) (A := A ++ textE K ++ encB P ++ encB L ++ encB N ++ encB T ++ encB F ++ encB E) (B := B) (t := D) (most := 1024) (p := (((A ++ textE K ++ encB P ++ encB L ++ encB N ++ encB T ++ encB F).size + (encB E).size : Nat) : Int)) (by rw [hs]; simp only [ByteArray.append_assoc]) (by rw [ByteArray.size_append (a := A ++ textE K ++ encB P ++ encB L ++ encB N ++ encB T ++ encB F)]) (by omega) (by omega)
    have hrec : recP s (K, ((A.size + (textE K).size : Nat) : Int), 0) = (⟨K, ⟨P, L, N⟩, T, F, E, D⟩, (((A ++ textE K ++ encB P ++ encB L ++ encB N ++ encB T ++ encB F ++ encB E).size + (textE D).size : Nat) : Int), 0) := by
      unfold recP
      simp only [v0, v1, v2, v3, v4, v5]
      rw [if_pos hk, r6, g6]
    rw [hrec, outR_good HM]
    have hz : (A ++ textE K ++ encB P ++ encB L ++ encB N ++ encB T ++ encB F ++ encB E).size + (textE D).size = A.size + (textE K ++ encB P ++ encB L ++ encB N ++ encB T ++ (encB F ++ encB E ++ textE D)).size := by
      simp only [ByteArray.size_append]
      omega
    rw [hz]
  · have eP : putR ⟨K, ⟨P, L, N⟩, T, F, E, D⟩ = textE K ++ encB P ++ encB L ++ encB N ++ encB T := by
      unfold putR headB encI
      rw [if_neg (show ¬ (T : Int) = 3 by omega)]
      simp only [Int.toNat_natCast]
    rw [eP]
    obtain ⟨z1, z2, z3⟩ := f8 (by omega)
    obtain rfl : F = 0 := by omega
    obtain rfl : E = 0 := by omega
    obtain rfl := empty_of z3
    obtain ⟨s, hs⟩ : ∃ s, s = A ++ (textE K ++ encB P ++ encB L ++ encB N ++ encB T) ++ B := ⟨_, rfl⟩
    rw [← hs]
    have h0 := stepT_at (s := s) (A := A) (B := encB P ++ encB L ++ encB N ++ encB T ++ B) (t := K) (most := 250) (by rw [hs]; simp only [ByteArray.append_assoc]) rfl (by omega) (by omega)
    rw [h0]
    have r0 : runN s ((A.size + (textE K).size : Nat) : Int) 0 0 = (((A.size + (textE K).size : Nat) : Int), 0) := rfl
    have g0 := stepN_at (s := s) (A := A ++ textE K) (B := encB L ++ encB N ++ encB T ++ B) (n := P) (most := mostOf 0) (p := ((A.size + (textE K).size : Nat) : Int)) (by rw [hs]; simp only [ByteArray.append_assoc]) (by rw [ByteArray.size_append]) (by omega) (by show P ≤ 18446744073709551615; omega)
    obtain ⟨r1, v0⟩ := run_next r0 g0
    have g1 := stepN_at (s := s) (A := A ++ textE K ++ encB P) (B := encB N ++ encB T ++ B) (n := L) (most := mostOf 1) (p := (((A ++ textE K).size + (encB P).size : Nat) : Int)) (by rw [hs]; simp only [ByteArray.append_assoc]) (by rw [ByteArray.size_append (a := A ++ textE K)]) (by omega) (by show L ≤ 4294967295; omega)
    obtain ⟨r2, v1⟩ := run_next r1 g1
    have g2 := stepN_at (s := s) (A := A ++ textE K ++ encB P ++ encB L) (B := encB T ++ B) (n := N) (most := mostOf 2) (p := (((A ++ textE K ++ encB P).size + (encB L).size : Nat) : Int)) (by rw [hs]; simp only [ByteArray.append_assoc]) (by rw [ByteArray.size_append (a := A ++ textE K ++ encB P)]) (by omega) (by show N ≤ 255; omega)
    obtain ⟨r3, v2⟩ := run_next r2 g2
    have g3 := stepN_at (s := s) (A := A ++ textE K ++ encB P ++ encB L ++ encB N) (B := B) (n := T) (most := mostOf 3) (p := (((A ++ textE K ++ encB P ++ encB L).size + (encB N).size : Nat) : Int)) (by rw [hs]; simp only [ByteArray.append_assoc]) (by rw [ByteArray.size_append (a := A ++ textE K ++ encB P ++ encB L)]) (by omega) (by show T ≤ 255; omega)
    obtain ⟨r4, v3⟩ := run_next r3 g3
    have hrec : recP s (K, ((A.size + (textE K).size : Nat) : Int), 0) = (⟨K, ⟨P, L, N⟩, T, 0, 0, ⟨#[]⟩⟩, (((A ++ textE K ++ encB P ++ encB L ++ encB N).size + (encB T).size : Nat) : Int), 0) := by
      unfold recP
      simp only [v0, v1, v2, v3]
      rw [if_neg hk, r4]
    have HM' : mayR ⟨K, ⟨P, L, N⟩, T, 0, 0, ⟨#[]⟩⟩ = true := HM
    rw [hrec, outR_good HM']
    have hz : (A ++ textE K ++ encB P ++ encB L ++ encB N).size + (encB T).size = A.size + (textE K ++ encB P ++ encB L ++ encB N ++ encB T).size := by
      simp only [ByteArray.size_append]
      omega
    rw [hz]
    rfl
end Go.Proofs.YtioeidhblbfgmaaGreat


namespace Go.Proofs.YtioeidhblbfgmaaGreat.Frm
set_option linter.unusedVariables false
set_option maxRecDepth 100000

theorem disable (w : World) : (callFunc 142 #[]).run Tryz.prog w = .ok (.value (.tuple #[])) w := run_call_mark0 Tryz.func142 (by kernel_rfl) (by kernel_rfl) (by kernel_rfl) .disable (by kernel_rfl) w
theorem enable (w : World) : (callFunc 144 #[]).run Tryz.prog w = .ok (.value (.tuple #[])) w := run_call_mark0 Tryz.func144 (by kernel_rfl) (by kernel_rfl) (by kernel_rfl) .enable (by kernel_rfl) w
theorem acquire (a : Addr) (w : World) : (callFunc 145 #[.pointer (some a)]).run Tryz.prog w = .ok (.value (.tuple #[])) w := run_call_marked Tryz.func145 (by kernel_rfl) (by kernel_rfl) (by kernel_rfl) .acquire (by kernel_rfl) a w
theorem releaseMerge (a : Addr) (w : World) : (callFunc 147 #[.pointer (some a)]).run Tryz.prog w = .ok (.value (.tuple #[])) w := run_call_marked Tryz.func147 (by kernel_rfl) (by kernel_rfl) (by kernel_rfl) .releaseMerge (by kernel_rfl) a w

theorem store_deferred (a : Addr) (x : Value) (u : FrameMode) (w : World) (hc : w.cell? a = some x) (hz : w.frozen? a = false) :
    CallsD Tryz.prog 135 #[.pointer (some a), .bool true] u w fun e u' w' => u' = u ∧ (e = .returned (.tuple #[]) ∧ w' = w.drew.setCell a (.int .u32 1)) := by
  have hc' : w.drew.cell? a = some x := by go_simp
  have hz' : w.drew.frozen? a = false := by go_simp
  have hst := run_call_store (P := Tryz.prog) Tryz.func140 (by kernel_rfl) (by kernel_rfl) (by kernel_rfl) (by kernel_rfl) (k := .u32) (y := 1) hc' hz'
  go_enter_d Tryz.func135, Tryz.ntmps135
  go_wp2
  go_region_calls
  all_goals (go_end0; exact ⟨rfl, rfl⟩)

theorem unlock_deferred (a : Addr) (u : FrameMode) (w : World) (hc : w.cell? a = some (.int .i32 1)) (hz : w.frozen? a = false) :
    CallsD Tryz.prog 134 #[.pointer (some a)] u w fun e u' w' => u' = u ∧ (e = .returned (.tuple #[]) ∧ w' = w.setCell a (.int .i32 0)) := by
  have hd := disable
  have he := enable
  have hr := releaseMerge
  have hadd := run_call_add (P := Tryz.prog) Tryz.func148 (by kernel_rfl) (by kernel_rfl) (by kernel_rfl) .i32 (by kernel_rfl) (y := -1) (s := 0) hc hz (by simp [go_sem]; rfl)
  have hcv := run_convert_to_unsafe (P := Tryz.prog) (src := 211) (dst := 197) Tryz.underlying211 Tryz.underlying197 (by kernel_rfl) hc
  go_enter_d Tryz.func134, Tryz.ntmps134
  go_wp2
  go_end0
  go_wp2
  go_end0
  exact ⟨rfl, rfl⟩

theorem lock_free (a : Addr) (w : World) (hc : w.cell? a = some (.int .i32 0)) (hz : w.frozen? a = false) :
    Calls Tryz.prog 133 #[.pointer (some a)] w fun e w' => e = .returned (.tuple #[]) ∧ w' = w.setCell a (.int .i32 1) := by
  have hd := disable
  have he := enable
  have ha := acquire
  have hcas := run_call_cas_hit (P := Tryz.prog) Tryz.func143 (by kernel_rfl) (by kernel_rfl) (by kernel_rfl) .i32 (by kernel_rfl) (y := 1) hc hz
  have hc' : (w.setCell a (.int .i32 1)).cell? a = some (.int .i32 1) := World.cell?_setCell_same w a _ hc
  have hcv := run_convert_to_unsafe (P := Tryz.prog) (src := 211) (dst := 197) Tryz.underlying211 Tryz.underlying197 (by kernel_rfl) hc'
  go_enter Tryz.func133, Tryz.ntmps133
  go_wp2
  first | go_end0 | (simp only [Exit.inBlock, Exit.then]; refine bodyPost_ret (results_none rfl _ _ _) rfl ?_) | refine bodyPost_ret (results_none rfl _ _ _) rfl ?_
  go_wp2
  go_end0
  exact ⟨rfl, rfl⟩
end Go.Proofs.YtioeidhblbfgmaaGreat.Frm
