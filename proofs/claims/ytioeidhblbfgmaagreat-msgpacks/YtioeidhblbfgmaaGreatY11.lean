/- What is read is laid as the very bytes; how long a message's bytes may be; the frame around. No condition but those that are stated. -/
import Derived.Test.YtioeidhblbfgmaaGreatY10

namespace Go.Proofs.YtioeidhblbfgmaaGreat
set_option linter.unusedVariables false
set_option linter.unusedSimpArgs false
set_option maxRecDepth 100000

/- Read from one state to another: just these bytes, no fault. -/
def Rdm (s : ByteArray) (q q' : Int × Nat) (E : ByteArray) : Prop := q.2 = 0 ∧ ∃ a b : Nat, q.1 = a ∧ q'.1 = b ∧ a ≤ b ∧ b ≤ s.size ∧ s.extract a b = E
theorem rdm_next {s : ByteArray} {q q' q'' : Int × Nat} {E F : ByteArray} (h : Rdm s q q' E) (k : Rdm s q' q'' F) : Rdm s q q'' (E ++ F) := by
  obtain ⟨h0, a, b, e1, e2, h1, h2, h3⟩ := h
  obtain ⟨-, b', c, e3, e4, k1, k2, k3⟩ := k
  obtain rfl : b' = b := by omega
  exact ⟨h0, a, c, e1, e4, by omega, k2, glue s h1 k1 h3 k3⟩
theorem numM_ok {s : ByteArray} {lo hi : Nat} {q : Int × Nat} (h : (numM s lo hi q).2.2 = 0) : Rdm s q (numM s lo hi q).2 (encB (numM s lo hi q).1) ∧ lo ≤ (numM s lo hi q).1 ∧ (numM s lo hi q).1 ≤ hi := by
  unfold numM at h ⊢
  by_cases h0 : q.2 = 0
  · rw [if_pos h0] at h ⊢
    by_cases h1 : (getN s q.1).2.2 = 0
    · rw [if_pos h1] at h ⊢
      by_cases h2 : (getN s q.1).1 < lo ∨ hi < (getN s q.1).1
      · rw [if_pos h2] at h; simp at h
      · rw [if_neg h2]
        obtain ⟨a, e1, e2, e3, e4, e5⟩ := getN_ok s q.1 (getN s q.1).1 (getN s q.1).2.1 (by rw [← h1])
        have w := wide_pos (kindOf (getN s q.1).1)
        refine ⟨⟨h0, a, (getN s q.1).2.1, e1, rfl, ?_, e4, e5⟩, ?_, ?_⟩ <;> omega
    · rw [if_neg h1] at h; exact absurd h h1
  · rw [if_neg h0] at h; exact absurd h h0
theorem numM_val (s : ByteArray) (lo hi : Nat) (q : Int × Nat) : (numM s lo hi q).1 ≤ hi := by
  by_cases h : (numM s lo hi q).2.2 = 0
  · exact (numM_ok h).2.2
  · unfold numM at h ⊢
    split
    · split
      · split
        · exact Nat.zero_le _
        · rename_i h1 h2 h3; rw [if_pos h1, if_pos h2, if_neg h3] at h; exact absurd rfl h
      · exact Nat.zero_le _
    · exact Nat.zero_le _
theorem keyM_ok {s : ByteArray} {q : Int × Nat} (h : (keyM s q).2.2 = 0) : Rdm s q (keyM s q).2 (textE (keyM s q).1) ∧ keyMay (keyM s q).1 = true := by
  unfold keyM at h ⊢
  by_cases h0 : q.2 = 0
  · rw [if_pos h0] at h ⊢
    by_cases h1 : (getT s q.1 250).2.2 = 0
    · rw [if_pos h1] at h ⊢
      by_cases h2 : keyMay (getT s q.1 250).1 = true
      · rw [if_pos h2] at h ⊢
        obtain ⟨a, g1, g2, g3, g4, g5⟩ := getT_ok s q.1 250 (getT s q.1 250).1 (getT s q.1 250).2.1 (by rw [← h1])
        exact ⟨⟨h0, a, (getT s q.1 250).2.1, g1, rfl, g2, g3, g5⟩, h2⟩
      · rw [if_neg h2] at h; simp at h
    · rw [if_neg h1] at h; exact absurd h h1
  · rw [if_neg h0] at h; exact absurd h h0
theorem recM_ok {s : ByteArray} {q : Int × Nat} (h : (recM s q).2.2 = 0) : Rdm s q (recM s q).2 (putR (recM s q).1) ∧ mayR (recM s q).1 = true := by
  unfold recM at h ⊢
  have hg := getR_ok s q.1
  generalize getR s q.1 = G at *
  by_cases h0 : q.2 = 0
  · rw [if_pos h0] at h ⊢
    by_cases h1 : G.2.2 = 0
    · rw [if_pos h1] at h ⊢
      obtain ⟨h2, a, b, e1, e2, e3, e4, e5⟩ := hg h1
      exact ⟨⟨h0, a, b, e1, e2, e3, e4, e5⟩, h2⟩
    · rw [if_neg h1] at h; exact absurd h h1
  · rw [if_neg h0] at h; exact absurd h h0
theorem encI_of (n : Nat) : encI (n : Int) = encB n := by unfold encI; rw [Int.toNat_natCast]
theorem newsM_ok {s : ByteArray} {q : Int × Nat} (h : (newsM s q).2.2 = 0) : Rdm s q (newsM s q).2 (newsB (newsM s q).1) ∧ mayN (newsM s q).1 = true := by
  unfold newsM at h ⊢
  simp only at h ⊢
  obtain ⟨r3, l3, u3⟩ := numM_ok h
  obtain ⟨r2, l2, u2⟩ := numM_ok r3.1
  obtain ⟨r1, l1, u1⟩ := numM_ok r2.1
  refine ⟨?_, ?_⟩
  · unfold newsB
    simp only [encI_of]
    exact rdm_next (rdm_next r1 r2) r3
  · unfold mayN
    simp only [Bool.and_eq_true, decide_eq_true_eq]
    omega
theorem seenM_ok {s : ByteArray} {q : Int × Nat} (h : (seenM s q).2.2 = 0) : Rdm s q (seenM s q).2 (seenB (seenM s q).1) ∧ mayS (seenM s q).1 = true := by
  unfold seenM at h ⊢
  simp only at h ⊢
  obtain ⟨r5, l5, u5⟩ := numM_ok h
  obtain ⟨r4, l4, u4⟩ := numM_ok r5.1
  obtain ⟨r3, l3, u3⟩ := numM_ok r4.1
  obtain ⟨r2, l2, u2⟩ := numM_ok r3.1
  obtain ⟨r1, m1⟩ := keyM_ok r2.1
  refine ⟨?_, ?_⟩
  · unfold seenB
    simp only [encI_of]
    exact rdm_next (rdm_next (rdm_next (rdm_next r1 r2) r3) r4) r5
  · unfold mayS
    simp only [Bool.and_eq_true, decide_eq_true_eq]
    exact ⟨m1, by omega, by omega, by omega, by omega⟩
theorem digM_ok {s : ByteArray} {q : Int × Nat} (h : (digM s q).2.2 = 0) : Rdm s q (digM s q).2 (digB (digM s q).1) ∧ True := by
  unfold digM at h ⊢
  simp only at h ⊢
  obtain ⟨r2, l2, u2⟩ := numM_ok h
  obtain ⟨r1, l1, u1⟩ := numM_ok r2.1
  refine ⟨?_, trivial⟩
  unfold digB
  generalize (numM s 0 4294967295 q).1 = x at *
  generalize (numM s 0 4294967295 (numM s 0 4294967295 q).2).1 = y at *
  have e1 : ((x * 4294967296 + y : Nat) : Int) / 4294967296 = (x : Int) := by omega
  have e2 : ((x * 4294967296 + y : Nat) : Int) % 4294967296 = (y : Int) := by omega
  rw [e1, e2, encI_of, encI_of]
  exact rdm_next r1 r2
theorem runL_ok {α : Type} {s : ByteArray} {e : α → ByteArray} {P : α → Prop} {one : Int × Nat → α × (Int × Nat)} (hone : ∀ q, (one q).2.2 = 0 → Rdm s q (one q).2 (e (one q).1) ∧ P (one q).1) :
    ∀ (n : Nat) (a : List α × (Int × Nat)), (∃ p : Nat, a.2.1 = p ∧ p ≤ s.size) → (runL one n a).2.2 = 0 → ∃ xs, (runL one n a).1 = a.1 ++ xs ∧ xs.length = n ∧ Rdm s a.2 (runL one n a).2 (catB e xs) ∧ ∀ x ∈ xs, P x
  | 0, a, ⟨p, hp, hl⟩, h => ⟨[], by simp [runL], rfl, ⟨h, p, p, hp, hp, Nat.le_refl _, hl, by rw [catB_nil]; exact bytes_ext _ _ (by simp)⟩, fun x hx => by cases hx⟩
  | n + 1, a, hp, h => by
    by_cases h0 : a.2.2 = 0
    · rw [runL_next h0] at h ⊢
      have hq : (one a.2).2.2 = 0 := by
        by_cases q : (one a.2).2.2 = 0
        · exact q
        · rw [runL_stop (.inr q)] at h; exact h
      obtain ⟨r1, p1⟩ := hone a.2 hq
      obtain ⟨xs, e1, e2, r2, p2⟩ := runL_ok hone n (a.1 ++ [(one a.2).1], (one a.2).2) (by obtain ⟨-, u, v, -, h2, -, h4, -⟩ := r1; exact ⟨v, h2, h4⟩) h
      refine ⟨(one a.2).1 :: xs, by rw [e1]; simp, by rw [List.length_cons, e2], by rw [catB_cons]; exact rdm_next r1 r2, fun x hx => ?_⟩
      rcases List.mem_cons.1 hx with rfl | hx
      · exact p1
      · exact p2 x hx
    · rw [runL_stop (.inr h0)] at h; exact absurd h h0
theorem listM_ok {α : Type} {s : ByteArray} {e : α → ByteArray} {P : α → Prop} {one : Int × Nat → α × (Int × Nat)} (hone : ∀ q, (one q).2.2 = 0 → Rdm s q (one q).2 (e (one q).1) ∧ P (one q).1) {q : Int × Nat} (h : (listM s one q).2.2 = 0) :
    Rdm s q (listM s one q).2 (listB e (listM s one q).1) ∧ (listM s one q).1.length ≤ 4096 ∧ ∀ x ∈ (listM s one q).1, P x := by
  unfold listM at h ⊢
  by_cases h0 : (numM s 0 4096 q).2.2 = 0
  · obtain ⟨r1, l1, u1⟩ := numM_ok h0
    obtain ⟨xs, e1, e2, r2, p2⟩ := runL_ok hone (numM s 0 4096 q).1 ([], (numM s 0 4096 q).2) (by obtain ⟨-, u, v, -, h2, -, h4, -⟩ := r1; exact ⟨v, h2, h4⟩) h
    rw [List.nil_append] at e1
    rw [e1]
    refine ⟨?_, by omega, p2⟩
    unfold listB
    rw [e2]
    exact rdm_next r1 r2
  · rw [runL_stop (.inr h0)] at h; exact absurd h h0
theorem all_of {α : Type} {p : α → Bool} {l : List α} (h : ∀ x ∈ l, p x = true) : l.all p = true := List.all_eq_true.2 h
theorem rG_ok (s : ByteArray) (h : (rG s).2.2 = 0) : Rdm s (rS s).2 (rG s).2 (listB digB (rG s).1) ∧ (rG s).1.length ≤ 4096 ∧ ∀ x ∈ (rG s).1, True := by
  have e : rG s = listM s (digM s) (rS s).2 := by unfold rG; rfl
  have H := listM_ok (s := s) (e := digB) (P := fun _ => True) (one := digM s) (fun q hq => digM_ok hq) (q := (rS s).2)
  rw [← e] at H
  exact H h
theorem rS_ok (s : ByteArray) (h : (rS s).2.2 = 0) : Rdm s (rR s).2 (rS s).2 (listB seenB (rS s).1) ∧ (rS s).1.length ≤ 4096 ∧ ∀ x ∈ (rS s).1, mayS x = true := by
  have e : rS s = listM s (seenM s) (rR s).2 := by unfold rS; rfl
  have H := listM_ok (s := s) (e := seenB) (P := fun x => mayS x = true) (one := seenM s) (fun q hq => seenM_ok hq) (q := (rR s).2)
  rw [← e] at H
  exact H h
theorem rR_ok (s : ByteArray) (h : (rR s).2.2 = 0) : Rdm s (rK s).2 (rR s).2 (listB putR (rR s).1) ∧ (rR s).1.length ≤ 4096 ∧ ∀ x ∈ (rR s).1, mayR x = true := by
  have e : rR s = listM s (recM s) (rK s).2 := by unfold rR; rfl
  have H := listM_ok (s := s) (e := putR) (P := fun x => mayR x = true) (one := recM s) (fun q hq => recM_ok hq) (q := (rK s).2)
  rw [← e] at H
  exact H h
theorem rK_ok (s : ByteArray) (h : (rK s).2.2 = 0) : Rdm s (rN s).2 (rK s).2 (listB textE (rK s).1) ∧ (rK s).1.length ≤ 4096 ∧ ∀ x ∈ (rK s).1, keyMay x = true := by
  have e : rK s = listM s (keyM s) (rN s).2 := by unfold rK; rfl
  have H := listM_ok (s := s) (e := textE) (P := fun x => keyMay x = true) (one := keyM s) (fun q hq => keyM_ok hq) (q := (rN s).2)
  rw [← e] at H
  exact H h
theorem rN_ok (s : ByteArray) (h : (rN s).2.2 = 0) : Rdm s (rD s).2 (rN s).2 (listB newsB (rN s).1) ∧ (rN s).1.length ≤ 4096 ∧ ∀ x ∈ (rN s).1, mayN x = true := by
  have e : rN s = listM s (newsM s) (rD s).2 := by unfold rN; rfl
  have H := listM_ok (s := s) (e := newsB) (P := fun x => mayN x = true) (one := newsM s) (fun q hq => newsM_ok hq) (q := (rD s).2)
  rw [← e] at H
  exact H h
theorem rD_ok (s : ByteArray) (h : (rD s).2.2 = 0) : Rdm s (rC s).2 (rD s).2 (encB (rD s).1) ∧ 0 ≤ (rD s).1 ∧ (rD s).1 ≤ 1 := by
  have e : rD s = numM s 0 1 (rC s).2 := by unfold rD; rfl
  have H := numM_ok (s := s) (lo := 0) (hi := 1) (q := (rC s).2)
  rw [← e] at H
  exact H h
theorem rC_ok (s : ByteArray) (h : (rC s).2.2 = 0) : Rdm s (rB s).2 (rC s).2 (encB (rC s).1) ∧ 0 ≤ (rC s).1 ∧ (rC s).1 ≤ 63 := by
  have e : rC s = numM s 0 63 (rB s).2 := by unfold rC; rfl
  have H := numM_ok (s := s) (lo := 0) (hi := 63) (q := (rB s).2)
  rw [← e] at H
  exact H h
theorem rB_ok (s : ByteArray) (h : (rB s).2.2 = 0) : Rdm s (rA s).2 (rB s).2 (encB (rB s).1) ∧ 0 ≤ (rB s).1 ∧ (rB s).1 ≤ 63 := by
  have e : rB s = numM s 0 63 (rA s).2 := by unfold rB; rfl
  have H := numM_ok (s := s) (lo := 0) (hi := 63) (q := (rA s).2)
  rw [← e] at H
  exact H h
theorem rA_ok (s : ByteArray) (h : (rA s).2.2 = 0) : Rdm s (0, 0) (rA s).2 (encB (rA s).1) ∧ 0 ≤ (rA s).1 ∧ (rA s).1 ≤ 4294967295 := by
  have e : rA s = numM s 0 4294967295 (0, 0) := by unfold rA; rfl
  have H := numM_ok (s := s) (lo := 0) (hi := 4294967295) (q := (0, 0))
  rw [← e] at H
  exact H h
theorem readM_ok {k f t : Int} {s : ByteArray} (h : (readM k f t s).2 = 0) (hk : 1 ≤ k ∧ k ≤ 14) (hf : f ≤ 63) (ht : t ≤ 63) : mayM (readM k f t s).1 = true ∧ bodyM (readM k f t s).1 = s ∧ (readM k f t s).1 = msgOf k f t s := by
  unfold readM at h ⊢
  by_cases h0 : (rG s).2.2 = 0
  · rw [if_neg (by omega)] at h ⊢
    by_cases h1 : (rG s).2.1 = (s.size : Int)
    · rw [if_neg (by omega)] at h ⊢
      obtain ⟨rg, lg, -⟩ := rG_ok s h0
      obtain ⟨rs, ls, ps⟩ := rS_ok s rg.1
      obtain ⟨rr, lr, pr⟩ := rR_ok s rs.1
      obtain ⟨rk, lk, pk⟩ := rK_ok s rr.1
      obtain ⟨rn, ln, pn⟩ := rN_ok s rk.1
      obtain ⟨rd, ld, ud⟩ := rD_ok s rn.1
      obtain ⟨rc, lc, uc⟩ := rC_ok s rd.1
      obtain ⟨rb, lb, ub⟩ := rB_ok s rc.1
      obtain ⟨ra, la, ua⟩ := rA_ok s rb.1
      have R := rdm_next (rdm_next (rdm_next (rdm_next (rdm_next (rdm_next (rdm_next (rdm_next ra rb) rc) rd) rn) rk) rr) rs) rg
      obtain ⟨-, a, b, e1, e2, -, -, e3⟩ := R
      have ea : a = 0 := by have : (0 : Int) = (a : Int) := e1; omega
      have eb : b = s.size := by omega
      rw [ea, eb] at e3
      have e4 : s.extract 0 s.size = s := bytes_ext _ _ (by simp)
      rw [e4] at e3
      refine ⟨?_, ?_, rfl⟩
      · unfold mayM mayHead mayLen msgOf
        simp only [Bool.and_eq_true, decide_eq_true_eq]
        exact ⟨⟨hk.1, hk.2, hf, ht, by omega, by omega⟩, ⟨ln, lk, lr, ls, lg⟩, all_of pn, all_of pk, all_of pr, all_of ps⟩
      · refine Eq.trans ?_ e3.symm
        unfold bodyM headM msgOf
        simp only [encI_of]
        rw [flagB_is]
        have ef : (if decide ((rD s).1 = 1) = true then 1 else 0) = (rD s).1 := by
          by_cases q : (rD s).1 = 1
          · simp [q]
          · simp [q]; omega
        rw [ef]
    · rw [if_pos (by omega)] at h; simp at h
  · rw [if_pos h0] at h; simp only at h; exact absurd h h0
theorem readM_bad {k f t : Int} {s : ByteArray} (h : (readM k f t s).2 ≠ 0) : (readM k f t s).1 = zeroM := by
  unfold readM at h ⊢
  split
  · rfl
  · split
    · rfl
    · rename_i h1 h2; rw [if_neg h1, if_neg h2] at h; exact absurd rfl h
/- How long. -/
def sumOf {α : Type} (g : α → Nat) (l : List α) : Nat := l.foldl (fun n x => n + g x) 0
theorem sumOf_from {α : Type} (g : α → Nat) : ∀ (l : List α) (b : Nat), l.foldl (fun n x => n + g x) b = b + sumOf g l
  | [], b => rfl
  | x :: l, b => by
    show l.foldl _ (b + g x) = b + l.foldl _ (0 + g x)
    rw [sumOf_from g l (b + g x), sumOf_from g l (0 + g x)]
    omega
theorem sumOf_cons {α : Type} (g : α → Nat) (x : α) (l : List α) : sumOf g (x :: l) = g x + sumOf g l := by
  show l.foldl _ (0 + g x) = _
  rw [sumOf_from]
  omega
theorem catB_size {α : Type} (e : α → ByteArray) (g : α → Nat) (c : Nat) : ∀ (l : List α), (∀ x ∈ l, (e x).size ≤ c + g x) → (catB e l).size ≤ c * l.length + sumOf g l
  | [], _ => by rw [catB_nil]; exact Nat.zero_le _
  | x :: l, h => by
    rw [catB_cons, size_app, sumOf_cons, List.length_cons]
    have h1 := h x (by simp)
    have h2 := catB_size e g c l (fun y hy => h y (by simp [hy]))
    rw [Nat.mul_add]
    omega
theorem textE_lim (t : ByteArray) : (textE t).size ≤ 8 + t.size := by rw [textE_size]; have := wide_pos (kindOf t.size); omega
theorem putR_le (r : R) : (putR r).size ≤ 72 + (r.key.size + r.body.size) := by
  have h1 := textE_lim r.key
  have h2 := textE_lim r.body
  have h3 := encI_size r.s.p
  have h4 := encI_size r.s.l
  have h5 := encI_size r.s.n
  have h6 := encI_size r.kind
  have h7 := encI_size r.flags
  have h8 := encI_size r.exp
  unfold putR headB tailB
  split <;> (simp only [size_app]; omega)
theorem seenB_le (x : Sn) : (seenB x).size ≤ 72 + x.key.size := by
  have h1 := textE_lim x.key
  have h3 := encI_size x.s.p
  have h4 := encI_size x.s.l
  have h5 := encI_size x.s.n
  have h6 := encI_size x.kind
  unfold seenB
  simp only [size_app]
  omega
theorem newsB_le (x : Nw) : (newsB x).size ≤ 72 + 0 := by
  have h3 := encI_size x.node
  have h4 := encI_size x.st
  have h5 := encI_size x.inc
  unfold newsB
  simp only [size_app]
  omega
theorem digB_le (x : Int) : (digB x).size ≤ 72 + 0 := by
  have h3 := encI_size (x / 4294967296)
  have h4 := encI_size (x % 4294967296)
  unfold digB
  simp only [size_app]
  omega
theorem sumOf_0 {α : Type} : ∀ (l : List α), sumOf (fun _ => 0) l = 0
  | [] => rfl
  | x :: l => by rw [sumOf_cons, sumOf_0 l]
theorem great_no {m : Ms} (h : greatM m = false) : cntL m ≤ 5000 ∧ cntL m + sumK m.keys + sumR m.recs + sumS m.seen ≤ 9000 := by
  unfold greatM at h
  simp only [Bool.or_eq_false_iff, decide_eq_false_iff_not] at h
  omega
theorem bodyM_le {m : Ms} (h : greatM m = false) : (bodyM m).size ≤ 500000 := by
  obtain ⟨h1, h2⟩ := great_no h
  have g1 := catB_size newsB (fun _ => 0) 72 m.news (fun x _ => newsB_le x)
  have g2 := catB_size textE (fun x => x.size) 72 m.keys (fun x _ => by have := textE_lim x; omega)
  have g3 := catB_size putR (fun x => x.key.size + x.body.size) 72 m.recs (fun x _ => putR_le x)
  have g4 := catB_size seenB (fun x => x.key.size) 72 m.seen (fun x _ => seenB_le x)
  have g5 := catB_size digB (fun _ => 0) 72 m.digs (fun x _ => digB_le x)
  rw [sumOf_0] at g1 g5
  have e2 : sumOf (fun x : ByteArray => x.size) m.keys = sumK m.keys := rfl
  have e3 : sumOf (fun x : R => x.key.size + x.body.size) m.recs = sumR m.recs := rfl
  have e4 : sumOf (fun x : Sn => x.key.size) m.seen = sumS m.seen := rfl
  rw [e2] at g2; rw [e3] at g3; rw [e4] at g4
  have a1 := encI_size m.id
  have a2 := encI_size m.tgt
  have a3 := encI_size m.rng
  have a4 : (flagB m.flag).size ≤ 8 := by rw [flagB_is]; exact encB_size _
  have b1 := encB_size m.news.length
  have b2 := encB_size m.keys.length
  have b3 := encB_size m.recs.length
  have b4 := encB_size m.seen.length
  have b5 := encB_size m.digs.length
  unfold cntL at h1
  unfold bodyM headM listB
  simp only [size_app]
  omega
/- Frames. -/
theorem fit_may {m : Ms} (ok : MsOk m) (h : mayM m = true) : Frm.fit (byteI m.kind) (byteI m.frm) (byteI m.dst) := by
  unfold mayM mayHead at h
  simp only [Bool.and_eq_true, decide_eq_true_eq] at h
  obtain ⟨⟨h1, h2, h3, h4, h5, h6⟩, -⟩ := h
  have e1 := byteI_is ok.kind
  have e2 := byteI_is ok.frm
  have e3 := byteI_is ok.dst
  unfold Frm.fit
  refine ⟨?_, ?_, ?_, ?_⟩ <;> omega
theorem packM_ok {m : Ms} (ok : MsOk m) (h : mayM m = true) (hl : (bodyM m).size ≤ 1048576) : packM m = (⟨(Frm.lay (byteI m.kind) (byteI m.frm) (byteI m.dst) (bodyM m).data.toList).toArray⟩, 0) := by
  unfold packM
  rw [if_pos h]
  exact Frm.enc_of _ _ _ _ hl (fit_may ok h)
theorem packM_bad {m : Ms} (h : ¬ mayM m = true) : packM m = (⟨#[]⟩, 1) := by unfold packM; rw [if_neg h]
/- There and back. -/
theorem un_pack {m : Ms} (ok : MsOk m) (h : mayM m = true) (hl : (bodyM m).size ≤ 1048576) : (packM m).2 = 0 ∧ unM (packM m).1 = (m, 0) := by
  have h0 : (packM m).2 = 0 := by rw [packM_ok ok h hl]
  refine ⟨h0, ?_⟩
  have hp : packM m = Frm.encS (byteI m.kind) (byteI m.frm) (byteI m.dst) (bodyM m) := by unfold packM; rw [if_pos h]
  rw [hp] at h0 ⊢
  obtain ⟨d1, d2⟩ := Frm.dec_enc _ _ _ _ h0
  unfold unM
  rw [if_pos d1, d2]
  simp only
  rw [byteI_is ok.kind, byteI_is ok.frm, byteI_is ok.dst]
  exact readM_body ok h
theorem dec_fit {s : ByteArray} (h : Frm.why s.data.toList = 0) : Frm.fit (Frm.dec s).1 (Frm.dec s).2.1 (Frm.dec s).2.2.1 := by
  have e := Frm.enc_dec s h
  exact (Frm.enc_ok _ _ _ _ (by rw [e])).2.1
theorem byteI_of (c : UInt8) : byteI (c.toNat : Int) = c := by
  unfold byteI
  rw [Int.toNat_natCast]
  simp
theorem pack_un {s : ByteArray} (h : (unM s).2 = 0) : mayM (unM s).1 = true ∧ packM (unM s).1 = (s, 0) := by
  unfold unM at h ⊢
  by_cases h0 : Frm.why s.data.toList = 0
  · rw [if_pos h0] at h ⊢
    obtain ⟨f1, f2, f3, f4⟩ := dec_fit h0
    obtain ⟨r1, r2, r3⟩ := readM_ok h (by omega) (by omega) (by omega)
    refine ⟨r1, ?_⟩
    unfold packM
    rw [if_pos r1, r2, r3]
    unfold msgOf
    simp only [byteI_of]
    exact Frm.enc_dec s h0
  · rw [if_neg h0] at h; exact absurd h h0
theorem un_bad {s : ByteArray} (h : (unM s).2 ≠ 0) : (unM s).1 = zeroM := by
  unfold unM at h ⊢
  by_cases h0 : Frm.why s.data.toList = 0
  · rw [if_pos h0] at h ⊢; exact readM_bad h
  · rw [if_neg h0]
theorem un_why {s : ByteArray} (h : Frm.why s.data.toList ≠ 0) : unM s = (zeroM, Frm.why s.data.toList) := by unfold unM; rw [if_neg h]
end Go.Proofs.YtioeidhblbfgmaaGreat
