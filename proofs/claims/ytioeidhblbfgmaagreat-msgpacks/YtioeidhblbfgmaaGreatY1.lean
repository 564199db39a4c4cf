/- Plain mathematics for the statements on numbers as bytes: a number's bytes as a list, the number that bytes say, what is got at a place of a text, and that both ways fit together. No condition but that a number is below 2^62. Contracts of the program's small functions on kinds: how many bits a kind leaves, whether a kind holds a number, the least kind that does; and what at most 8 bytes say. They turn nothing. What a law's call may leave: nothing turned of what was there (Kept). Then its row's end follows, whatever its arguments lead to: each reads as it did. -/
import Derived.Laws.BitsAllLaws
import Derived.Laws.Bits64
import Derived.OpenShut
import Derived.Test.YtioeidhblbfgmaaGreatRows
import Derived.WalkKit
import Derived.ProofKit
import Derived.ChangeSame
import Derived.RowKit3
import Derived.WideKeyArgs
import Derived.Laws.AppendOwn

namespace Go.Proofs.YtioeidhblbfgmaaGreat

def lim (k : Nat) : Nat := if k = 0 then 64 else if k = 1 then 16384 else if k = 2 then 1073741824 else 4611686018427387904
def wide (k : Nat) : Nat := if k = 0 then 1 else if k = 1 then 2 else if k = 2 then 4 else 8
def kindOf (n : Nat) : Nat := if n < 64 then 0 else if n < 16384 then 1 else if n < 1073741824 then 2 else 3
def be (R : Nat) : Nat → List UInt8
  | 0 => []
  | len + 1 => be (R / 256) len ++ [UInt8.ofNat R]
def val (l : List UInt8) : Nat := l.foldl (fun a c => a * 256 + c.toNat) 0
def mark (n : Nat) : Nat := kindOf n * lim (kindOf n) + n
def enc (n : Nat) : List UInt8 := be (mark n) (wide (kindOf n))

theorem kind_le (n : Nat) : kindOf n ≤ 3 := by unfold kindOf; repeat' split
                                               all_goals omega
theorem kind_lt (n : Nat) (h : n < 4611686018427387904) : n < lim (kindOf n) := by
  unfold kindOf lim; repeat' split
  all_goals omega
theorem kind_eq (n k : Nat) (hk : k ≤ 3) (h : n < lim k) (h2 : ∀ j, j < k → lim j ≤ n) : kindOf n = k := by
  have h0 := h2 0
  have h1 := h2 1
  have h2 := h2 2
  unfold lim at h h0 h1 h2
  simp at h0 h1 h2
  unfold kindOf
  rcases (show k = 0 ∨ k = 1 ∨ k = 2 ∨ k = 3 by omega) with rfl | rfl | rfl | rfl <;> simp at h h0 h1 h2
  · rw [if_pos (by omega)]
  · rw [if_neg (by omega), if_pos (by omega)]
  · rw [if_neg (by omega), if_neg (by omega), if_pos (by omega)]
  · rw [if_neg (by omega), if_neg (by omega), if_neg (by omega)]
theorem kind_three (n : Nat) (h2 : ∀ j, j < 3 → lim j ≤ n) : kindOf n = 3 := by
  have h := h2 2 (by omega)
  unfold lim at h
  simp at h
  unfold kindOf
  rw [if_neg (by omega), if_neg (by omega), if_neg (by omega)]

theorem ofNat_toNat (R : Nat) : (UInt8.ofNat R).toNat = R % 256 := by simp
theorem be_length (len : Nat) : ∀ R, (be R len).length = len := by
  induction len with
  | zero => intro R; rfl
  | succ len ih => intro R; simp [be, ih]
theorem val_snoc (l : List UInt8) (c : UInt8) : val (l ++ [c]) = val l * 256 + c.toNat := by
  unfold val; rw [List.foldl_append]; rfl
theorem snoc_cases (l : List UInt8) (n : Nat) (h : l.length = n + 1) : ∃ m c, l = m ++ [c] ∧ m.length = n := by
  rcases List.eq_nil_or_concat l with rfl | ⟨m, c, rfl⟩
  · simp at h
  · exact ⟨m, c, by simp, by simpa using h⟩
theorem val_lt (n : Nat) : ∀ l : List UInt8, l.length = n → val l < 256 ^ n := by
  induction n with
  | zero => intro l h; rw [List.length_eq_zero_iff.1 h]; simp [val]
  | succ n ih =>
    intro l h
    obtain ⟨m, c, rfl, hm⟩ := snoc_cases l n h
    have := ih m hm
    have hc := c.toNat_lt
    rw [val_snoc, Nat.pow_succ]
    omega
theorem val_be (len : Nat) : ∀ R, val (be R len) = R % 256 ^ len := by
  induction len with
  | zero => intro R; simp [be, val, Nat.mod_one]
  | succ len ih =>
    intro R
    rw [be, val_snoc, ih, ofNat_toNat, Nat.pow_succ, Nat.mul_comm (256 ^ len) 256, Nat.mod_mul]
    omega
theorem be_val (n : Nat) : ∀ l : List UInt8, l.length = n → be (val l) n = l := by
  induction n with
  | zero => intro l h; rw [List.length_eq_zero_iff.1 h]; rfl
  | succ n ih =>
    intro l h
    obtain ⟨m, c, rfl, hm⟩ := snoc_cases l n h
    have hc := c.toNat_lt
    rw [be, val_snoc, show (val m * 256 + c.toNat) / 256 = val m by omega, ih m hm]
    congr 2
    apply UInt8.toNat_inj.1
    rw [ofNat_toNat]; omega
theorem be_get (len : Nat) : ∀ R j, j < len → (be R len)[j]? = some (UInt8.ofNat (R / 256 ^ (len - 1 - j))) := by
  induction len with
  | zero => intro R j h; omega
  | succ len ih =>
    intro R j h
    rw [be]
    by_cases hj : j < len
    · rw [List.getElem?_append_left (by rw [be_length]; exact hj), ih _ _ hj, Nat.div_div_eq_div_mul]
      rw [show len + 1 - 1 - j = (len - 1 - j) + 1 by omega, Nat.pow_succ, Nat.mul_comm 256]
    · have : j = len := by omega
      subst this
      rw [List.getElem?_append_right (by rw [be_length]; exact Nat.le_refl _), be_length]
      simp
theorem be_cons (R len : Nat) : be R (len + 1) = UInt8.ofNat (R / 256 ^ len) :: be R len := by
  apply List.ext_getElem?
  intro j
  rcases j with _ | j
  · rw [be_get _ _ _ (by omega)]; simp
  · by_cases hj : j < len
    · rw [be_get _ _ _ (by omega), List.getElem?_cons_succ, be_get _ _ _ hj]
      rw [show len + 1 - 1 - (j + 1) = len - 1 - j by omega]
    · rw [List.getElem?_eq_none (by rw [be_length]; omega), List.getElem?_cons_succ, List.getElem?_eq_none (by rw [be_length]; omega)]

theorem wide_lim (k : Nat) (hk : k ≤ 3) : lim k * 4 = 256 ^ wide k := by
  rcases (show k = 0 ∨ k = 1 ∨ k = 2 ∨ k = 3 by omega) with rfl | rfl | rfl | rfl <;> simp [lim, wide]
theorem wide_pos (k : Nat) : 1 ≤ wide k ∧ wide k ≤ 8 := by unfold wide; repeat' split
                                                           all_goals omega
theorem lim_pos (k : Nat) : 64 ≤ lim k ∧ lim k ≤ 4611686018427387904 := by unfold lim; repeat' split
                                                                           all_goals omega
theorem enc_length (n : Nat) : (enc n).length = wide (kindOf n) := be_length _ _
theorem mark_lt (n : Nat) (h : n < 4611686018427387904) : mark n < 256 ^ wide (kindOf n) := by
  have h1 := kind_lt n h
  have h2 := kind_le n
  have h3 := wide_lim _ h2
  unfold mark
  have := Nat.mul_le_mul_right (lim (kindOf n)) h2
  omega
theorem mark_u64 (n : Nat) (h : n < 4611686018427387904) : mark n < 18446744073709551616 := by
  have h1 := kind_lt n h
  have h2 := kind_le n
  have h3 := (lim_pos (kindOf n)).2
  have := Nat.mul_le_mul_right (lim (kindOf n)) h2
  unfold mark
  omega
theorem val_enc (n : Nat) (h : n < 4611686018427387904) : val (enc n) = mark n := by
  rw [enc, val_be, Nat.mod_eq_of_lt (mark_lt n h)]
theorem mark_mod (n : Nat) (h : n < 4611686018427387904) : mark n % lim (kindOf n) = n := by
  rw [mark, Nat.mul_comm, Nat.mul_add_mod, Nat.mod_eq_of_lt (kind_lt n h)]
theorem mark_div (n : Nat) (h : n < 4611686018427387904) : mark n / lim (kindOf n) = kindOf n := by
  have := (lim_pos (kindOf n)).1
  rw [mark, Nat.mul_comm, Nat.mul_add_div (by omega), Nat.div_eq_of_lt (kind_lt n h), Nat.add_zero]
/- The first byte tells the kind. -/
theorem val_head (l : List UInt8) : ∀ c : UInt8, val (c :: l) = c.toNat * 256 ^ l.length + val l := by
  have key : ∀ (m : List UInt8) (a : Nat), m.foldl (fun a c => a * 256 + c.toNat) a = a * 256 ^ m.length + val m := by
    intro m
    induction m with
    | nil => intro a; simp [val]
    | cons d m ih =>
      intro a
      have e : val (d :: m) = m.foldl (fun a c => a * 256 + c.toNat) (0 * 256 + d.toNat) := rfl
      rw [List.foldl_cons, ih, e, ih, List.length_cons, Nat.pow_succ]
      rw [Nat.add_mul, Nat.zero_mul, Nat.zero_add, Nat.mul_assoc, Nat.mul_comm 256, Nat.add_assoc]
  intro c
  have e : val (c :: l) = l.foldl (fun a c => a * 256 + c.toNat) (0 * 256 + c.toNat) := rfl
  rw [e, key, Nat.zero_mul, Nat.zero_add]
theorem head_kind (c : UInt8) (l : List UInt8) (k : Nat) (hk : k ≤ 3) (h : (c :: l).length = wide k) : val (c :: l) / lim k = c.toNat / 64 := by
  have h1 := val_lt l.length l rfl
  have hl : 256 ^ l.length * 64 = lim k := by
    have := wide_lim k hk
    rw [← h, List.length_cons, Nat.pow_succ] at this
    omega
  rw [val_head, ← hl, ← Nat.div_div_eq_div_mul, Nat.mul_comm, Nat.mul_add_div (by omega), Nat.div_eq_of_lt h1, Nat.add_zero]

def getL (l : List UInt8) : Nat × Nat × Nat :=
  match l with
  | [] => (0, 0, 2)
  | c :: m =>
    if (c :: m).length < wide (c.toNat / 64) then (0, 0, 2)
    else if kindOf (val ((c :: m).take (wide (c.toNat / 64))) % lim (c.toNat / 64)) = c.toNat / 64 then (val ((c :: m).take (wide (c.toNat / 64))) % lim (c.toNat / 64), wide (c.toNat / 64), 0)
    else (0, 0, 3)
/- What stands at the head of a list is got: it is just what is put. -/
theorem getL_ok (l : List UInt8) (n t : Nat) (h : getL l = (n, t, 0)) : n < 4611686018427387904 ∧ t = wide (kindOf n) ∧ t ≤ l.length ∧ l.take t = enc n := by
  unfold getL at h
  split at h
  · simp at h
  · rename_i c m
    split at h
    · simp at h
    · rename_i hlen
      split at h
      · rename_i hkd
        have hk : c.toNat / 64 ≤ 3 := by have := c.toNat_lt; omega
        have hw := wide_pos (c.toNat / 64)
        have hl := lim_pos (c.toNat / 64)
        simp only [Prod.mk.injEq] at h
        obtain ⟨hn, ht, _⟩ := h
        rw [hn] at hkd
        have hnl : n < lim (c.toNat / 64) := by rw [← hn]; exact Nat.mod_lt _ (by omega)
        have htl : ((c :: m).take (wide (c.toNat / 64))).length = wide (c.toNat / 64) := by rw [List.length_take]; omega
        refine ⟨by omega, by rw [hkd, ht], by omega, ?_⟩
        have hh : val ((c :: m).take (wide (c.toNat / 64))) / lim (c.toNat / 64) = c.toNat / 64 := by
          obtain ⟨u, hu⟩ : ∃ u, (c :: m).take (wide (c.toNat / 64)) = c :: u := by
            obtain ⟨v, hv⟩ : ∃ v, wide (c.toNat / 64) = v + 1 := ⟨wide (c.toNat / 64) - 1, by omega⟩
            exact ⟨m.take v, by rw [hv]; rfl⟩
          rw [hu] at htl ⊢
          exact head_kind c u _ hk htl
        have hv : val ((c :: m).take (wide (c.toNat / 64))) = mark n := by
          have := Nat.div_add_mod (val ((c :: m).take (wide (c.toNat / 64)))) (lim (c.toNat / 64))
          rw [hh, hn] at this
          rw [← this, mark, hkd, Nat.mul_comm]
        have := be_val _ _ htl
        rw [hv] at this
        rw [← ht, ← this, enc, hkd]
      · simp at h
theorem getL_err (l : List UInt8) (n t e : Nat) (h : getL l = (n, t, e)) (he : e ≠ 0) : n = 0 ∧ t = 0 ∧ (e = 2 ∨ e = 3) := by
  unfold getL at h
  split at h
  · simp at h; omega
  · split at h
    · simp at h; omega
    · split at h
      · simp at h; omega
      · simp at h; omega
/- What is put is got. -/
theorem getL_enc (n : Nat) (h : n < 4611686018427387904) (b : List UInt8) : getL (enc n ++ b) = (n, wide (kindOf n), 0) := by
  have hw := wide_pos (kindOf n)
  obtain ⟨v, hv⟩ : ∃ v, wide (kindOf n) = v + 1 := ⟨wide (kindOf n) - 1, by omega⟩
  have hc := be_cons (mark n) v
  rw [← hv] at hc
  obtain ⟨c, hcd⟩ : ∃ c, c = UInt8.ofNat (mark n / 256 ^ v) := ⟨_, rfl⟩
  obtain ⟨m, hm⟩ : ∃ m, m = be (mark n) v := ⟨_, rfl⟩
  have hE : enc n = c :: m := by rw [enc, hc, hcd, hm]
  have hl : (c :: m).length = wide (kindOf n) := by rw [← hE, enc_length]
  have hk : c.toNat / 64 = kindOf n := by
    rw [← head_kind c m _ (kind_le n) hl, ← hE, val_enc n h, mark_div n h]
  rw [hE, List.cons_append]
  unfold getL
  simp only
  rw [hk, if_neg (by rw [← hl, ← List.cons_append, List.length_append]; omega)]
  have ht : (c :: (m ++ b)).take (wide (kindOf n)) = enc n := by
    rw [← List.cons_append, ← hl, List.take_left, hE]
  rw [ht, val_enc n h, mark_mod n h, if_pos rfl]

def getN (s : ByteArray) (p : Int) : Nat × Nat × Nat :=
  if p < 0 ∨ (s.size : Int) < p then (0, 0, 1)
  else if (getL (s.data.toList.drop p.toNat)).2.2 = 0 then ((getL (s.data.toList.drop p.toNat)).1, p.toNat + (getL (s.data.toList.drop p.toNat)).2.1, 0)
  else (0, 0, (getL (s.data.toList.drop p.toNat)).2.2)
theorem extract_list (s : ByteArray) (a b : Nat) : (s.extract a b).data.toList = (s.data.toList.drop a).take (b - a) := by
  rw [ByteArray.data_extract, Array.toList_extract]
theorem bytes_ext (s t : ByteArray) (h : s.data.toList = t.data.toList) : s = t := by
  cases s; cases t
  congr
  exact Array.toList_inj.1 h
theorem getN_ok (s : ByteArray) (p : Int) (n t : Nat) (h : getN s p = (n, t, 0)) : ∃ a : Nat, p = a ∧ n < 4611686018427387904 ∧ t = a + wide (kindOf n) ∧ t ≤ s.size ∧ s.extract a t = ⟨(enc n).toArray⟩ := by
  unfold getN at h
  split at h
  · simp at h
  · rename_i hp
    split at h
    · rename_i h0
      simp only [Prod.mk.injEq] at h
      have hg : getL (s.data.toList.drop p.toNat) = (n, t - p.toNat, 0) := by
        rw [← h.1, ← h.2.1]
        ext
        · rfl
        · show (getL (s.data.toList.drop p.toNat)).2.1 = p.toNat + (getL (s.data.toList.drop p.toNat)).2.1 - p.toNat
          omega
        · exact h0
      obtain ⟨h1, h2, h3, h4⟩ := getL_ok _ _ _ hg
      have hs : s.data.toList.length = s.size := by simp
      rw [List.length_drop, hs] at h3
      refine ⟨p.toNat, by omega, h1, by omega, by omega, ?_⟩
      apply bytes_ext
      rw [extract_list, h4]
    · rename_i h0
      simp only [Prod.mk.injEq] at h
      omega
theorem getN_err (s : ByteArray) (p : Int) (n t e : Nat) (h : getN s p = (n, t, e)) (he : e ≠ 0) : n = 0 ∧ t = 0 ∧ (e = 1 ∨ e = 2 ∨ e = 3) := by
  unfold getN at h
  split at h
  · simp at h; omega
  · split at h
    · simp at h; omega
    · rename_i h0
      generalize hq : getL (s.data.toList.drop p.toNat) = q at h h0
      obtain ⟨q1, q2, q3⟩ := q
      have := getL_err _ _ _ _ hq h0
      simp only [Prod.mk.injEq] at h
      obtain ⟨h1, h2, h3⟩ := h
      rw [← h3]
      exact ⟨h1.symm, h2.symm, .inr this.2.2⟩
theorem getN_put (A B : ByteArray) (n : Nat) (h : n < 4611686018427387904) : getN (A ++ ⟨(enc n).toArray⟩ ++ B) (A.size : Int) = (n, A.size + wide (kindOf n), 0) := by
  have hd : (A ++ ⟨(enc n).toArray⟩ ++ B).data.toList = A.data.toList ++ (enc n ++ B.data.toList) := by
    simp
  have hs : A.data.toList.length = A.size := by simp
  unfold getN
  rw [if_neg (by simp [ByteArray.size_append]; omega), hd, Int.toNat_natCast, ← hs, List.drop_left, getL_enc n h]
  simp

theorem be_mod (R v : Nat) : be (R % 256 ^ v) v = be R v := by
  rw [← val_be]; exact be_val v _ (be_length v R)
/- The first byte of a number's bytes bears the kind; the others are the number's own. -/
theorem enc_first (n v : Nat) (h : n < 4611686018427387904) (hv : wide (kindOf n) = v + 1) : n / 256 ^ v < 64 ∧ enc n = UInt8.ofNat (n / 256 ^ v + kindOf n * 64) :: be n v := by
  have hl : 256 ^ v * 64 = lim (kindOf n) := by
    have := wide_lim _ (kind_le n)
    rw [hv, Nat.pow_succ] at this
    omega
  have hk := kind_lt n h
  have hp : 0 < 256 ^ v := Nat.pow_pos (by omega)
  have hm : mark n = 256 ^ v * (kindOf n * 64) + n := by
    rw [mark, ← hl]
    congr 1
    ac_rfl
  refine ⟨(Nat.div_lt_iff_lt_mul hp).2 (by rw [← hl] at hk; omega), ?_⟩
  rw [enc, hv, be_cons, hm, Nat.mul_add_div hp, Nat.add_comm (kindOf n * 64)]
  rw [← be_mod (256 ^ v * (kindOf n * 64) + n) v, Nat.mul_add_mod, be_mod]

theorem two_or (t k n : Nat) (h : n < 2 ^ t) : k * 2 ^ t ||| n = k * 2 ^ t + n := by
  rw [Nat.mul_comm, Nat.two_pow_add_eq_or_of_lt h]
theorem two_andNot (t k n : Nat) (h : n < 2 ^ t) (hk : k * 2 ^ t < 2 ^ 64) (hn : n < 2 ^ 64) : (k * 2 ^ t + n) &&& (18446744073709551615 - k * 2 ^ t) = n := by
  rw [← two_or t k n h, show 18446744073709551615 - k * 2 ^ t = 2 ^ 64 - (k * 2 ^ t + 1) by omega]
  apply Nat.eq_of_testBit_eq
  intro i
  rw [Nat.testBit_and, Nat.testBit_or, Nat.testBit_two_pow_sub_succ hk, Nat.mul_comm k, Nat.testBit_two_pow_mul]
  by_cases hi : t ≤ i
  · have : n.testBit i = false := Nat.testBit_lt_two_pow (Nat.lt_of_lt_of_le h (Nat.pow_le_pow_right (by omega) hi))
    rw [this]
    cases k.testBit (i - t) <;> simp [hi]
  · by_cases h64 : i < 64
    · simp [hi, h64]
    · have : n.testBit i = false := Nat.testBit_lt_two_pow (Nat.lt_of_lt_of_le hn (Nat.pow_le_pow_right (by omega) (by omega)))
      rw [this]
      simp [hi]
theorem lim_two (k : Nat) (hk : k ≤ 3) : ∃ t, lim k = 2 ^ t := by
  rcases (show k = 0 ∨ k = 1 ∨ k = 2 ∨ k = 3 by omega) with rfl | rfl | rfl | rfl
  · exact ⟨6, by simp [lim]⟩
  · exact ⟨14, by simp [lim]⟩
  · exact ⟨30, by simp [lim]⟩
  · exact ⟨62, by simp [lim]⟩
theorem kl_lt (k : Nat) (hk : k ≤ 3) : k * lim k < 18446744073709551616 := by
  have := Nat.mul_le_mul_right (lim k) hk
  have := (lim_pos k).2
  omega
theorem or_kind (k n : Nat) (hk : k ≤ 3) (h : n < lim k) : bits .or .u64 ((k * lim k : Nat) : Int) (n : Int) = ((k * lim k + n : Nat) : Int) := by
  have h1 := kl_lt k hk
  have h2 := (lim_pos k).2
  rw [u64_or_nat _ _ h1 (by omega)]
  obtain ⟨t, ht⟩ := lim_two k hk
  rw [ht] at h ⊢
  rw [two_or t k n h]
theorem andNot_kind (k R : Nat) (hk : k ≤ 3) (hR : R < 18446744073709551616) (h : R / lim k = k) : bits .andNot .u64 (R : Int) ((k * lim k : Nat) : Int) = ((R % lim k : Nat) : Int) := by
  have h1 := kl_lt k hk
  have h2 := lim_pos k
  rw [u64_andNot_nat _ _ hR h1]
  have e := Nat.div_add_mod R (lim k)
  rw [h] at e
  have hm : R % lim k < lim k := Nat.mod_lt _ (by omega)
  generalize R % lim k = n at *
  subst e
  obtain ⟨t, ht⟩ := lim_two k hk
  rw [ht] at hm h1 h2 ⊢
  rw [Nat.mul_comm (2 ^ t) k, two_andNot t k n hm (by omega) (by omega)]
theorem or_byte (a : Nat) (c : UInt8) (h : a < 72057594037927936) : bits .or .u64 ((a : Int) * 256) (IntKind.u64.wrap (c.toNat : Int)) = ((a * 256 + c.toNat : Nat) : Int) := by
  have hc := c.toNat_lt
  have e := u64_or_nat (a * 256) c.toNat (by omega) (by omega)
  have := two_or 8 a c.toNat (by omega)
  rw [show (2 : Nat) ^ 8 = 256 by rfl] at this
  rw [this] at e
  rw [← e, IntKind.wrap_u64, Int.emod_eq_of_lt (by omega) (by omega), Int.natCast_mul]
  rfl

def getT (s : ByteArray) (p most : Int) : ByteArray × Nat × Nat :=
  if (getN s p).2.2 = 0 then
    if most < 0 ∨ most < (getN s p).1 then (⟨#[]⟩, 0, 4)
    else if s.size - (getN s p).2.1 < (getN s p).1 then (⟨#[]⟩, 0, 2)
    else (s.extract (getN s p).2.1 ((getN s p).2.1 + (getN s p).1), (getN s p).2.1 + (getN s p).1, 0)
  else (⟨#[]⟩, 0, (getN s p).2.2)
end Go.Proofs.YtioeidhblbfgmaaGreat


namespace Go.Proofs.YtioeidhblbfgmaaGreat
open Go.ChangeShapes Go.WideShapes Go.ChangeAt Go.RowKit
set_option linter.unusedVariables false
set_option maxRecDepth 100000

def bitsOf (k : Nat) : Nat := if k = 0 then 6 else if k = 1 then 14 else if k = 2 then 30 else 62
theorem bitsFor_any (k : Nat) (hk : k ≤ 3) (w : World) : Calls Tryz.prog 127 #[.int .i64 (k : Int)] w fun e w' => e = .returned (.int .i64 (bitsOf k : Int)) ∧ w' = w := by
  rcases (show k = 0 ∨ k = 1 ∨ k = 2 ∨ k = 3 by omega) with rfl | rfl | rfl | rfl
  all_goals
    go_enter Tryz.func127, Tryz.ntmps127
    go_wp2
    go_ret
    exact ⟨rfl, rfl⟩
theorem pow_kind (k : Nat) (hk : k ≤ 3) : (2 : Int) ^ bitsOf k = ((lim k : Nat) : Int) := by
  rcases (show k = 0 ∨ k = 1 ∨ k = 2 ∨ k = 3 by omega) with rfl | rfl | rfl | rfl <;> rfl
theorem holds_test (k n : Nat) : (((n : Int) / ((lim k : Nat) : Int)) == 0) = decide (n < lim k) := by
  have h := (lim_pos k).1
  rw [← Int.natCast_ediv]
  by_cases hn : n < lim k
  · rw [Nat.div_eq_of_lt hn]; simp [hn]
  · have : 1 ≤ n / lim k := (Nat.le_div_iff_mul_le (by omega)).2 (by omega)
    simp [hn]; omega
theorem holds_any (k n : Nat) (hk : k ≤ 3) (hn : n < 18446744073709551616) (w : World) : Calls Tryz.prog 115 #[.int .i64 (k : Int), .int .u64 (n : Int)] w fun e w' => e = .returned (.bool (decide (n < lim k))) ∧ w' = w := by
  have hp := pow_kind k hk
  have hb : bitsOf k ≤ 62 := by unfold bitsOf; repeat' split
                                all_goals omega
  have ht := holds_test k n
  go_enter Tryz.func115, Tryz.ntmps115
  go_wp2_with (go_at_call 127; refine (bitsFor_any _ hk _).mono ?_; rintro e w' ⟨rfl, rfl⟩)
  go_ret
  exact ⟨rfl, rfl⟩
theorem leastKind_any (n : Nat) (hn : n < 18446744073709551616) (w : World) : Calls Tryz.prog 128 #[.int .u64 (n : Int)] w fun e w' => e = .returned (.int .i64 (kindOf n : Int)) ∧ w' = w := by
  go_enter Tryz.func128, Tryz.ntmps128
  go_wp2
  go_loop [3] (fun j => ∃ k : Nat, k ≤ 3 ∧ j = .int .i64 k ∧ Hid (∀ i, i < k → lim i ≤ n)) (fun j => 3 - (intOf j).toNat)
  case atStart => exact ⟨0, by omega, rfl, fun i hi => by omega⟩
  case round =>
    obtain ⟨k, hk, rfl, HK⟩ := hrel
    by_cases hlt : k < 3
    · by_cases h : n < lim k
      · have he : Hid (kindOf n = k) := kind_eq n k hk h HK.out
        go_wp2_with (go_at_call 115; refine (holds_any k n hk hn _).mono ?_; rintro e w' ⟨rfl, rfl⟩)
        go_ret
        rw [he.out]
        exact ⟨rfl, rfl⟩
      · have HN : Hid (∀ i, i < k + 1 → lim i ≤ n) := fun i hi => by
          rcases (show i < k ∨ i = k by omega) with h1 | rfl
          · exact HK.out i h1
          · omega
        go_wp2_with (go_at_call 115; refine (holds_any k n hk hn _).mono ?_; rintro e w' ⟨rfl, rfl⟩)
        go_round
        case rel => exact ⟨k + 1, by omega, by go_num, HN⟩
        case measure => simp [intOf]; omega
    · obtain rfl : k = 3 := by omega
      have he : Hid (kindOf n = 3) := kind_three n HK.out
      go_wp2_with (go_at_call 115; refine (holds_any k n hk hn _).mono ?_; rintro e w' ⟨rfl, rfl⟩)
      go_ret
      rw [he.out]
      exact ⟨rfl, rfl⟩
theorem take_snoc (s : ByteArray) (k : Nat) (h : k < s.size) : s.data.toList.take (k + 1) = s.data.toList.take k ++ [s[k]] := by
  rw [List.take_succ_eq_append_getElem (by simpa using h)]; rfl
theorem val_take_lt (l : List UInt8) (k : Nat) (h : k ≤ 7) : val (l.take k) < 72057594037927936 := by
  have h1 := val_lt _ (l.take k) rfl
  have h2 : (l.take k).length ≤ 7 := by rw [List.length_take]; omega
  have h3 : 256 ^ (l.take k).length ≤ 256 ^ 7 := Nat.pow_le_pow_right (by omega) h2
  rw [show (256 : Nat) ^ 7 = 72057594037927936 by rfl] at h3
  omega
theorem read_any (s : ByteArray) (hs : s.size ≤ 8) (w : World) : Calls Tryz.prog 130 #[.string s] w fun e w' => e = .returned (.int .u64 (val s.data.toList : Int)) ∧ w' = w := by
  go_enter Tryz.func130, Tryz.ntmps130
  go_wp2
  go_loop [3, 4, 7] (fun h i j => ∃ k : Nat, k ≤ s.size ∧ j = .int .i64 k ∧ h = .int .u64 (val (s.data.toList.take k) : Int)) (fun _ _ j => s.size - (intOf j).toNat)
  case atStart => exact ⟨0, Nat.zero_le _, rfl, rfl⟩
  case round =>
    obtain ⟨k, hk, rfl, rfl⟩ := hrel
    by_cases hlt : k < s.size
    · have HS : Hid (val (s.data.toList.take (k + 1)) = val (s.data.toList.take k) * 256 + s[k].toNat) := by
        show _ = _
        rw [take_snoc s k hlt, val_snoc]
      have hv := val_take_lt s.data.toList k (by omega)
      have ho := or_byte (val (s.data.toList.take k)) s[k] hv
      generalize hh : val (s.data.toList.take k) = h at *
      clear hh
      go_wp2
      go_round
      case rel => exact ⟨k + 1, by omega, by go_num, by rw [HS.out]; go_num⟩
      case measure => simp [intOf]; omega
    · have hkk : k = s.size := by omega
      subst hkk
      rw [List.take_of_length_le (by simp)]
      go_wp2
      go_ret
      exact ⟨rfl, rfl⟩
end Go.Proofs.YtioeidhblbfgmaaGreat


namespace Go.Proofs.YtioeidhblbfgmaaGreat
open Go.ChangeShapes Go.WideShapes Go.RowKit

def Kept (W w : World) : Prop := W.keptBut w (fun _ => False) ∧ W.heap.size ≤ w.heap.size
theorem kept_refl (W : World) : Kept W W := ⟨World.keptBut_refl _ _, Nat.le_refl _⟩
theorem kept_trans {u v w : World} (g : Kept u v) (h : Kept v w) : Kept u w := ⟨World.keptBut_trans g.1 h.1, Nat.le_trans g.2 h.2⟩
theorem kept_block {w w' : World} (g : Kept w w') {i : Nat} (hi : i < w.heap.size) : w'.heap[i]? = w.heap[i]? := World.keptBut.block g.1 hi (fun _ h => h.elim)
theorem kept_of {W w : World} (h1 : w.os = W.os) (h2 : w.output = W.output) (h3 : W.heap.size ≤ w.heap.size) (h4 : ∀ i, i < W.heap.size → w.heap[i]? = W.heap[i]?) : Kept W w := by
  refine ⟨⟨h1, h2, fun i hi => ?_⟩, h3⟩
  rw [h4 i hi]
  split <;> simp_all
theorem kept_os {W w : World} (h : Kept W w) : w.os = W.os := h.1.1
theorem kept_output {W w : World} (h : Kept W w) : w.output = W.output := h.1.2.1
theorem kept_cell {w w' : World} (g : Kept w w') {b o : Nat} (hb : b < w.heap.size) : w'.cell? ⟨b, o, none⟩ = w.cell? ⟨b, o, none⟩ := World.cell?_of_block (w := w) (kept_block g hb)
theorem kept_same {w w' : World} (g : Kept w w') {p : MemPlace} (hp : p.block < w.heap.size) : w.sameAt w' p := by
  cases p with
  | cell b o => exact kept_cell g hp
  | map b => exact kept_block g hp

section
variable {H : Type} {enc : TypeId × Value → H} {P : Program}
theorem trodAll_stays (hl : laidOutB P = true) {W W' : World} {sp : Nat → Bool} (hk : Kept W W') :
    ∀ {ts : List TypeId} {vs : List Value} {ds : List (DataW H)} {ps : List MemPlace}, (∀ t ∈ ts, P.readableRec t = true ∧ t < P.types.size) → DataW.TrodAll enc P W 0 (fun _ => true) true ts vs ds ps → (∀ p ∈ ps, p.block < W.heap.size) → (∀ p ∈ ps, sp p.block = true) → DataW.TrodAll enc P W' 0 sp true ts vs ds ps
  | [], _, _, _, _, h, _, _ => by
    obtain ⟨rfl, rfl, rfl⟩ := trodAll_nil h
    exact trodAll_mk0
  | t :: ts, _, _, _, hr, h, hlt, hs => by
    obtain ⟨v, vs, d, ds, p, q, rfl, rfl, rfl, h0, h1⟩ := trodAll_cons h
    obtain ⟨r1, r2⟩ := hr t (List.mem_cons.2 (.inl rfl))
    refine ⟨p, q, ?_, trodAll_stays hl hk (fun t ht => hr t (List.mem_cons.2 (.inr ht))) h1 (fun x hx => hlt x (List.mem_append_right _ hx)) (fun x hx => hs x (List.mem_append_right _ hx)), rfl⟩
    exact Go.WideElems.Trod_stays hl r1 r2 h0 (fun x hx => kept_same hk (hlt x (List.mem_append_left _ hx))) (fun x hx => hs x (List.mem_append_left _ hx))
variable {W W' : World} {before : List MemPlace} {ds gs : List (DataW H)} {v : Value} {s : ChangeSpec} {f : Func} {args : Array Value} {handsOn fresh apart : Bool}
theorem post_kept
    (hl : laidOutB P = true) (hr : ∀ t ∈ f.params.toList, P.readableRec t = true ∧ t < P.types.size) (hno : s.vars = [])
    (hW : DataW.Whole enc P f.params.toList s.vars apart W args.toList ds gs before)
    (hres : ∀ (b : Nat) (sp : Nat → Bool) (hd : Bool), DataW.TrodAll enc P W' b sp hd f.resultTypes.toList (v.resultList f.resultTypes.size) (s.fn H (ds ++ gs)).results [])
    (hargs : (s.fn H (ds ++ gs)).args = ds) (hvars : (s.fn H (ds ++ gs)).vars = [])
    (hk : Kept W W') : s.post enc P f apart fresh handsOn false W args v W' := by
  have hlt := hW.lt
  have hW' := hW
  obtain ⟨p, q, hA, hV, rfl, hfz, hnd⟩ := hW
  refine ⟨ds, gs, p ++ q, [], p, [], hW', hres _ _ _, ?_, ?_, World.keptBut_mono (fun _ h => h.elim) hk.1, fun h => by cases h⟩
  · rw [hargs]
    exact trodAll_stays hl hk hr hA (fun x hx => hlt x (List.mem_append_left _ hx)) (fun x hx => by simpa using hlt x (List.mem_append_left _ hx))
  · rw [hno, hvars]; rfl
end
end Go.Proofs.YtioeidhblbfgmaaGreat
