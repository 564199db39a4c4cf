/- Plain mathematics for the statements on numbers as bytes: a number's bytes as a list, the number that bytes say, what is got at a place of a text, and that both ways fit together. No condition but that a number is below 2^62. -/
import Derived.Laws.BitsAllLaws
import Derived.Laws.Bits64
import Derived.OpenShut
namespace Go.Proofs.Ytnkfhacmkimncab

def lim (k : Nat) : Nat := if k = 0 then 64 else if k = 1 then 16384 else if k = 2 then 1073741824 else 4611686018427387904
def wide (k : Nat) : Nat := if k = 0 then 1 else if k = 1 then 2 else if k = 2 then 4 else 8
def kindOf (n : Nat) : Nat := if n < 64 then 0 else if n < 16384 then 1 else if n < 1073741824 then 2 else 3
def be (R : Nat) : Nat → List UInt8
  | 0 => []
  | len + 1 => be (R / 256) len ++ [UInt8.ofNat R]
def val (l : List UInt8) : Nat := l.foldl (fun a c => a * 256 + c.toNat) 0
def mark (n : Nat) : Nat := kindOf n * lim (kindOf n) + n
def enc (n : Nat) : List UInt8 := be (mark n) (wide (kindOf n))

theorem kind_le (n : Nat) : kindOf n ≤ 3 := by unfold kindOf; repeat' split
                                               all_goals omega
theorem kind_lt (n : Nat) (h : n < 4611686018427387904) : n < lim (kindOf n) := by
  unfold kindOf lim; repeat' split
  all_goals omega
theorem kind_eq (n k : Nat) (hk : k ≤ 3) (h : n < lim k) (h2 : ∀ j, j < k → lim j ≤ n) : kindOf n = k := by
  have h0 := h2 0
  have h1 := h2 1
  have h2 := h2 2
  unfold lim at h h0 h1 h2
  simp at h0 h1 h2
  unfold kindOf
  rcases (show k = 0 ∨ k = 1 ∨ k = 2 ∨ k = 3 by omega) with rfl | rfl | rfl | rfl <;> simp at h h0 h1 h2
  · rw [if_pos (by omega)]
  · rw [if_neg (by omega), if_pos (by omega)]
  · rw [if_neg (by omega), if_neg (by omega), if_pos (by omega)]
  · rw [if_neg (by omega), if_neg (by omega), if_neg (by omega)]
theorem kind_three (n : Nat) (h2 : ∀ j, j < 3 → lim j ≤ n) : kindOf n = 3 := by
  have h := h2 2 (by omega)
  unfold lim at h
  simp at h
  unfold kindOf
  rw [if_neg (by omega), if_neg (by omega), if_neg (by omega)]

theorem ofNat_toNat (R : Nat) : (UInt8.ofNat R).toNat = R % 256 := by simp
theorem be_length (len : Nat) : ∀ R, (be R len).length = len := by
  induction len with
  | zero => intro R; rfl
  | succ len ih => intro R; simp [be, ih]
theorem val_snoc (l : List UInt8) (c : UInt8) : val (l ++ [c]) = val l * 256 + c.toNat := by
  unfold val; rw [List.foldl_append]; rfl
theorem snoc_cases (l : List UInt8) (n : Nat) (h : l.length = n + 1) : ∃ m c, l = m ++ [c] ∧ m.length = n := by
  rcases List.eq_nil_or_concat l with rfl | ⟨m, c, rfl⟩
  · simp at h
  · exact ⟨m, c, by simp, by simpa using h⟩
theorem val_lt (n : Nat) : ∀ l : List UInt8, l.length = n → val l < 256 ^ n := by
  induction n with
  | zero => intro l h; rw [List.length_eq_zero_iff.1 h]; simp [val]
  | succ n ih =>
    intro l h
    obtain ⟨m, c, rfl, hm⟩ := snoc_cases l n h
    have := ih m hm
    have hc := c.toNat_lt
    rw [val_snoc, Nat.pow_succ]
    omega
theorem val_be (len : Nat) : ∀ R, val (be R len) = R % 256 ^ len := by
  induction len with
  | zero => intro R; simp [be, val, Nat.mod_one]
  | succ len ih =>
    intro R
    rw [be, val_snoc, ih, ofNat_toNat, Nat.pow_succ, Nat.mul_comm (256 ^ len) 256, Nat.mod_mul]
    omega
theorem be_val (n : Nat) : ∀ l : List UInt8, l.length = n → be (val l) n = l := by
  induction n with
  | zero => intro l h; rw [List.length_eq_zero_iff.1 h]; rfl
  | succ n ih =>
    intro l h
    obtain ⟨m, c, rfl, hm⟩ := snoc_cases l n h
    have hc := c.toNat_lt
    rw [be, val_snoc, show (val m * 256 + c.toNat) / 256 = val m by omega, ih m hm]
    congr 2
    apply UInt8.toNat_inj.1
    rw [ofNat_toNat]; omega
theorem be_get (len : Nat) : ∀ R j, j < len → (be R len)[j]? = some (UInt8.ofNat (R / 256 ^ (len - 1 - j))) := by
  induction len with
  | zero => intro R j h; omega
  | succ len ih =>
    intro R j h
    rw [be]
    by_cases hj : j < len
    · rw [List.getElem?_append_left (by rw [be_length]; exact hj), ih _ _ hj, Nat.div_div_eq_div_mul]
      rw [show len + 1 - 1 - j = (len - 1 - j) + 1 by omega, Nat.pow_succ, Nat.mul_comm 256]
    · have : j = len := by omega
      subst this
      rw [List.getElem?_append_right (by rw [be_length]; exact Nat.le_refl _), be_length]
      simp
theorem be_cons (R len : Nat) : be R (len + 1) = UInt8.ofNat (R / 256 ^ len) :: be R len := by
  apply List.ext_getElem?
  intro j
  rcases j with _ | j
  · rw [be_get _ _ _ (by omega)]; simp
  · by_cases hj : j < len
    · rw [be_get _ _ _ (by omega), List.getElem?_cons_succ, be_get _ _ _ hj]
      rw [show len + 1 - 1 - (j + 1) = len - 1 - j by omega]
    · rw [List.getElem?_eq_none (by rw [be_length]; omega), List.getElem?_cons_succ, List.getElem?_eq_none (by rw [be_length]; omega)]

theorem wide_lim (k : Nat) (hk : k ≤ 3) : lim k * 4 = 256 ^ wide k := by
  rcases (show k = 0 ∨ k = 1 ∨ k = 2 ∨ k = 3 by omega) with rfl | rfl | rfl | rfl <;> simp [lim, wide]
theorem wide_pos (k : Nat) : 1 ≤ wide k ∧ wide k ≤ 8 := by unfold wide; repeat' split
                                                           all_goals omega
theorem lim_pos (k : Nat) : 64 ≤ lim k ∧ lim k ≤ 4611686018427387904 := by unfold lim; repeat' split
                                                                           all_goals omega
theorem enc_length (n : Nat) : (enc n).length = wide (kindOf n) := be_length _ _
theorem mark_lt (n : Nat) (h : n < 4611686018427387904) : mark n < 256 ^ wide (kindOf n) := by
  have h1 := kind_lt n h
  have h2 := kind_le n
  have h3 := wide_lim _ h2
  unfold mark
  have := Nat.mul_le_mul_right (lim (kindOf n)) h2
  omega
theorem mark_u64 (n : Nat) (h : n < 4611686018427387904) : mark n < 18446744073709551616 := by
  have h1 := kind_lt n h
  have h2 := kind_le n
  have h3 := (lim_pos (kindOf n)).2
  have := Nat.mul_le_mul_right (lim (kindOf n)) h2
  unfold mark
  omega
theorem val_enc (n : Nat) (h : n < 4611686018427387904) : val (enc n) = mark n := by
  rw [enc, val_be, Nat.mod_eq_of_lt (mark_lt n h)]
theorem mark_mod (n : Nat) (h : n < 4611686018427387904) : mark n % lim (kindOf n) = n := by
  rw [mark, Nat.mul_comm, Nat.mul_add_mod, Nat.mod_eq_of_lt (kind_lt n h)]
theorem mark_div (n : Nat) (h : n < 4611686018427387904) : mark n / lim (kindOf n) = kindOf n := by
  have := (lim_pos (kindOf n)).1
  rw [mark, Nat.mul_comm, Nat.mul_add_div (by omega), Nat.div_eq_of_lt (kind_lt n h), Nat.add_zero]
/- The first byte tells the kind. -/
theorem val_head (l : List UInt8) : ∀ c : UInt8, val (c :: l) = c.toNat * 256 ^ l.length + val l := by
  have key : ∀ (m : List UInt8) (a : Nat), m.foldl (fun a c => a * 256 + c.toNat) a = a * 256 ^ m.length + val m := by
    intro m
    induction m with
    | nil => intro a; simp [val]
    | cons d m ih =>
      intro a
      have e : val (d :: m) = m.foldl (fun a c => a * 256 + c.toNat) (0 * 256 + d.toNat) := rfl
      rw [List.foldl_cons, ih, e, ih, List.length_cons, Nat.pow_succ]
      rw [Nat.add_mul, Nat.zero_mul, Nat.zero_add, Nat.mul_assoc, Nat.mul_comm 256, Nat.add_assoc]
  intro c
  have e : val (c :: l) = l.foldl (fun a c => a * 256 + c.toNat) (0 * 256 + c.toNat) := rfl
  rw [e, key, Nat.zero_mul, Nat.zero_add]
theorem head_kind (c : UInt8) (l : List UInt8) (k : Nat) (hk : k ≤ 3) (h : (c :: l).length = wide k) : val (c :: l) / lim k = c.toNat / 64 := by
  have h1 := val_lt l.length l rfl
  have hl : 256 ^ l.length * 64 = lim k := by
    have := wide_lim k hk
    rw [← h, List.length_cons, Nat.pow_succ] at this
    omega
  rw [val_head, ← hl, ← Nat.div_div_eq_div_mul, Nat.mul_comm, Nat.mul_add_div (by omega), Nat.div_eq_of_lt h1, Nat.add_zero]

def getL (l : List UInt8) : Nat × Nat × Nat :=
  match l with
  | [] => (0, 0, 2)
  | c :: m =>
    if (c :: m).length < wide (c.toNat / 64) then (0, 0, 2)
    else if kindOf (val ((c :: m).take (wide (c.toNat / 64))) % lim (c.toNat / 64)) = c.toNat / 64 then (val ((c :: m).take (wide (c.toNat / 64))) % lim (c.toNat / 64), wide (c.toNat / 64), 0)
    else (0, 0, 3)
/- What stands at the head of a list is got: it is just what is put. -/
theorem getL_ok (l : List UInt8) (n t : Nat) (h : getL l = (n, t, 0)) : n < 4611686018427387904 ∧ t = wide (kindOf n) ∧ t ≤ l.length ∧ l.take t = enc n := by
  unfold getL at h
  split at h
  · simp at h
  · rename_i c m
    split at h
    · simp at h
    · rename_i hlen
      split at h
      · rename_i hkd
        have hk : c.toNat / 64 ≤ 3 := by have := c.toNat_lt; omega
        have hw := wide_pos (c.toNat / 64)
        have hl := lim_pos (c.toNat / 64)
        simp only [Prod.mk.injEq] at h
        obtain ⟨hn, ht, _⟩ := h
        rw [hn] at hkd
        have hnl : n < lim (c.toNat / 64) := by rw [← hn]; exact Nat.mod_lt _ (by omega)
        have htl : ((c :: m).take (wide (c.toNat / 64))).length = wide (c.toNat / 64) := by rw [List.length_take]; omega
        refine ⟨by omega, by rw [hkd, ht], by omega, ?_⟩
        have hh : val ((c :: m).take (wide (c.toNat / 64))) / lim (c.toNat / 64) = c.toNat / 64 := by
          obtain ⟨u, hu⟩ : ∃ u, (c :: m).take (wide (c.toNat / 64)) = c :: u := by
            obtain ⟨v, hv⟩ : ∃ v, wide (c.toNat / 64) = v + 1 := ⟨wide (c.toNat / 64) - 1, by omega⟩
            exact ⟨m.take v, by rw [hv]; rfl⟩
          rw [hu] at htl ⊢
          exact head_kind c u _ hk htl
        have hv : val ((c :: m).take (wide (c.toNat / 64))) = mark n := by
          have := Nat.div_add_mod (val ((c :: m).take (wide (c.toNat / 64)))) (lim (c.toNat / 64))
          rw [hh, hn] at this
          rw [← this, mark, hkd, Nat.mul_comm]
        have := be_val _ _ htl
        rw [hv] at this
        rw [← ht, ← this, enc, hkd]
      · simp at h
theorem getL_err (l : List UInt8) (n t e : Nat) (h : getL l = (n, t, e)) (he : e ≠ 0) : n = 0 ∧ t = 0 ∧ (e = 2 ∨ e = 3) := by
  unfold getL at h
  split at h
  · simp at h; omega
  · split at h
    · simp at h; omega
    · split at h
      · simp at h; omega
      · simp at h; omega
/- What is put is got. -/
theorem getL_enc (n : Nat) (h : n < 4611686018427387904) (b : List UInt8) : getL (enc n ++ b) = (n, wide (kindOf n), 0) := by
  have hw := wide_pos (kindOf n)
  obtain ⟨v, hv⟩ : ∃ v, wide (kindOf n) = v + 1 := ⟨wide (kindOf n) - 1, by omega⟩
  have hc := be_cons (mark n) v
  rw [← hv] at hc
  obtain ⟨c, hcd⟩ : ∃ c, c = UInt8.ofNat (mark n / 256 ^ v) := ⟨_, rfl⟩
  obtain ⟨m, hm⟩ : ∃ m, m = be (mark n) v := ⟨_, rfl⟩
  have hE : enc n = c :: m := by rw [enc, hc, hcd, hm]
  have hl : (c :: m).length = wide (kindOf n) := by rw [← hE, enc_length]
  have hk : c.toNat / 64 = kindOf n := by
    rw [← head_kind c m _ (kind_le n) hl, ← hE, val_enc n h, mark_div n h]
  rw [hE, List.cons_append]
  unfold getL
  simp only
  rw [hk, if_neg (by rw [← hl, ← List.cons_append, List.length_append]; omega)]
  have ht : (c :: (m ++ b)).take (wide (kindOf n)) = enc n := by
    rw [← List.cons_append, ← hl, List.take_left, hE]
  rw [ht, val_enc n h, mark_mod n h, if_pos rfl]

def getN (s : ByteArray) (p : Int) : Nat × Nat × Nat :=
  if p < 0 ∨ (s.size : Int) < p then (0, 0, 1)
  else if (getL (s.data.toList.drop p.toNat)).2.2 = 0 then ((getL (s.data.toList.drop p.toNat)).1, p.toNat + (getL (s.data.toList.drop p.toNat)).2.1, 0)
  else (0, 0, (getL (s.data.toList.drop p.toNat)).2.2)
theorem extract_list (s : ByteArray) (a b : Nat) : (s.extract a b).data.toList = (s.data.toList.drop a).take (b - a) := by
  rw [ByteArray.data_extract, Array.toList_extract]
theorem bytes_ext (s t : ByteArray) (h : s.data.toList = t.data.toList) : s = t := by
  cases s; cases t
  congr
  exact Array.toList_inj.1 h
theorem getN_ok (s : ByteArray) (p : Int) (n t : Nat) (h : getN s p = (n, t, 0)) : ∃ a : Nat, p = a ∧ n < 4611686018427387904 ∧ t = a + wide (kindOf n) ∧ t ≤ s.size ∧ s.extract a t = ⟨(enc n).toArray⟩ := by
  unfold getN at h
  split at h
  · simp at h
  · rename_i hp
    split at h
    · rename_i h0
      simp only [Prod.mk.injEq] at h
      have hg : getL (s.data.toList.drop p.toNat) = (n, t - p.toNat, 0) := by
        rw [← h.1, ← h.2.1]
        ext
        · rfl
        · show (getL (s.data.toList.drop p.toNat)).2.1 = p.toNat + (getL (s.data.toList.drop p.toNat)).2.1 - p.toNat
          omega
        · exact h0
      obtain ⟨h1, h2, h3, h4⟩ := getL_ok _ _ _ hg
      have hs : s.data.toList.length = s.size := by simp
      rw [List.length_drop, hs] at h3
      refine ⟨p.toNat, by omega, h1, by omega, by omega, ?_⟩
      apply bytes_ext
      rw [extract_list, h4]
    · rename_i h0
      simp only [Prod.mk.injEq] at h
      omega
theorem getN_err (s : ByteArray) (p : Int) (n t e : Nat) (h : getN s p = (n, t, e)) (he : e ≠ 0) : n = 0 ∧ t = 0 ∧ (e = 1 ∨ e = 2 ∨ e = 3) := by
  unfold getN at h
  split at h
  · simp at h; omega
  · split at h
    · simp at h; omega
    · rename_i h0
      generalize hq : getL (s.data.toList.drop p.toNat) = q at h h0
      obtain ⟨q1, q2, q3⟩ := q
      have := getL_err _ _ _ _ hq h0
      simp only [Prod.mk.injEq] at h
      obtain ⟨h1, h2, h3⟩ := h
      rw [← h3]
      exact ⟨h1.symm, h2.symm, .inr this.2.2⟩
theorem getN_put (A B : ByteArray) (n : Nat) (h : n < 4611686018427387904) : getN (A ++ ⟨(enc n).toArray⟩ ++ B) (A.size : Int) = (n, A.size + wide (kindOf n), 0) := by
  have hd : (A ++ ⟨(enc n).toArray⟩ ++ B).data.toList = A.data.toList ++ (enc n ++ B.data.toList) := by
    simp
  have hs : A.data.toList.length = A.size := by simp
  unfold getN
  rw [if_neg (by simp [ByteArray.size_append]; omega), hd, Int.toNat_natCast, ← hs, List.drop_left, getL_enc n h]
  simp

theorem be_mod (R v : Nat) : be (R % 256 ^ v) v = be R v := by
  rw [← val_be]; exact be_val v _ (be_length v R)
/- The first byte of a number's bytes bears the kind; the others are the number's own. -/
theorem enc_first (n v : Nat) (h : n < 4611686018427387904) (hv : wide (kindOf n) = v + 1) : n / 256 ^ v < 64 ∧ enc n = UInt8.ofNat (n / 256 ^ v + kindOf n * 64) :: be n v := by
  have hl : 256 ^ v * 64 = lim (kindOf n) := by
    have := wide_lim _ (kind_le n)
    rw [hv, Nat.pow_succ] at this
    omega
  have hk := kind_lt n h
  have hp : 0 < 256 ^ v := Nat.pow_pos (by omega)
  have hm : mark n = 256 ^ v * (kindOf n * 64) + n := by
    rw [mark, ← hl]
    congr 1
    ac_rfl
  refine ⟨(Nat.div_lt_iff_lt_mul hp).2 (by rw [← hl] at hk; omega), ?_⟩
  rw [enc, hv, be_cons, hm, Nat.mul_add_div hp, Nat.add_comm (kindOf n * 64)]
  rw [← be_mod (256 ^ v * (kindOf n * 64) + n) v, Nat.mul_add_mod, be_mod]

theorem two_or (t k n : Nat) (h : n < 2 ^ t) : k * 2 ^ t ||| n = k * 2 ^ t + n := by
  rw [Nat.mul_comm, Nat.two_pow_add_eq_or_of_lt h]
theorem two_andNot (t k n : Nat) (h : n < 2 ^ t) (hk : k * 2 ^ t < 2 ^ 64) (hn : n < 2 ^ 64) : (k * 2 ^ t + n) &&& (18446744073709551615 - k * 2 ^ t) = n := by
  rw [← two_or t k n h, show 18446744073709551615 - k * 2 ^ t = 2 ^ 64 - (k * 2 ^ t + 1) by omega]
  apply Nat.eq_of_testBit_eq
  intro i
  rw [Nat.testBit_and, Nat.testBit_or, Nat.testBit_two_pow_sub_succ hk, Nat.mul_comm k, Nat.testBit_two_pow_mul]
  by_cases hi : t ≤ i
  · have : n.testBit i = false := Nat.testBit_lt_two_pow (Nat.lt_of_lt_of_le h (Nat.pow_le_pow_right (by omega) hi))
    rw [this]
    cases k.testBit (i - t) <;> simp [hi]
  · by_cases h64 : i < 64
    · simp [hi, h64]
    · have : n.testBit i = false := Nat.testBit_lt_two_pow (Nat.lt_of_lt_of_le hn (Nat.pow_le_pow_right (by omega) (by omega)))
      rw [this]
      simp [hi]
theorem lim_two (k : Nat) (hk : k ≤ 3) : ∃ t, lim k = 2 ^ t := by
  rcases (show k = 0 ∨ k = 1 ∨ k = 2 ∨ k = 3 by omega) with rfl | rfl | rfl | rfl
  · exact ⟨6, by simp [lim]⟩
  · exact ⟨14, by simp [lim]⟩
  · exact ⟨30, by simp [lim]⟩
  · exact ⟨62, by simp [lim]⟩
theorem kl_lt (k : Nat) (hk : k ≤ 3) : k * lim k < 18446744073709551616 := by
  have := Nat.mul_le_mul_right (lim k) hk
  have := (lim_pos k).2
  omega
theorem or_kind (k n : Nat) (hk : k ≤ 3) (h : n < lim k) : bits .or .u64 ((k * lim k : Nat) : Int) (n : Int) = ((k * lim k + n : Nat) : Int) := by
  have h1 := kl_lt k hk
  have h2 := (lim_pos k).2
  rw [u64_or_nat _ _ h1 (by omega)]
  obtain ⟨t, ht⟩ := lim_two k hk
  rw [ht] at h ⊢
  rw [two_or t k n h]
theorem andNot_kind (k R : Nat) (hk : k ≤ 3) (hR : R < 18446744073709551616) (h : R / lim k = k) : bits .andNot .u64 (R : Int) ((k * lim k : Nat) : Int) = ((R % lim k : Nat) : Int) := by
  have h1 := kl_lt k hk
  have h2 := lim_pos k
  rw [u64_andNot_nat _ _ hR h1]
  have e := Nat.div_add_mod R (lim k)
  rw [h] at e
  have hm : R % lim k < lim k := Nat.mod_lt _ (by omega)
  generalize R % lim k = n at *
  subst e
  obtain ⟨t, ht⟩ := lim_two k hk
  rw [ht] at hm h1 h2 ⊢
  rw [Nat.mul_comm (2 ^ t) k, two_andNot t k n hm (by omega) (by omega)]
theorem or_byte (a : Nat) (c : UInt8) (h : a < 72057594037927936) : bits .or .u64 ((a : Int) * 256) (IntKind.u64.wrap (c.toNat : Int)) = ((a * 256 + c.toNat : Nat) : Int) := by
  have hc := c.toNat_lt
  have e := u64_or_nat (a * 256) c.toNat (by omega) (by omega)
  have := two_or 8 a c.toNat (by omega)
  rw [show (2 : Nat) ^ 8 = 256 by rfl] at this
  rw [this] at e
  rw [← e, IntKind.wrap_u64, Int.emod_eq_of_lt (by omega) (by omega), Int.natCast_mul]
  rfl

def getT (s : ByteArray) (p most : Int) : ByteArray × Nat × Nat :=
  if (getN s p).2.2 = 0 then
    if most < 0 ∨ most < (getN s p).1 then (⟨#[]⟩, 0, 4)
    else if s.size - (getN s p).2.1 < (getN s p).1 then (⟨#[]⟩, 0, 2)
    else (s.extract (getN s p).2.1 ((getN s p).2.1 + (getN s p).1), (getN s p).2.1 + (getN s p).1, 0)
  else (⟨#[]⟩, 0, (getN s p).2.2)
end Go.Proofs.Ytnkfhacmkimncab
