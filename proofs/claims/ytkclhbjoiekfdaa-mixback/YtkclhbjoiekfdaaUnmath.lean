/- Plain mathematics of the way back, bit by bit from the highest one on. No condition but that the shift is from 22 to 63. -/
import Derived.Test.YtkclhbjoiekfdaaMath
namespace Go.Proofs.Ytkclhbjoiekfdaa

def topB (b : BitVec 64) (m : Nat) : BitVec 64 := (b >>> m) <<< m
theorem topB_get (b : BitVec 64) (m j : Nat) : (topB b m).getLsbD j = (decide (m ≤ j) && b.getLsbD j) := by
  unfold topB
  rw [BitVec.getLsbD_shiftLeft, BitVec.getLsbD_ushiftRight]
  by_cases h64 : j < 64
  · by_cases hm : m ≤ j
    · rw [show m + (j - m) = j by omega]; simp [h64, hm]
    · have : j < m := by omega
      simp [hm, this]
  · rw [BitVec.getLsbD_of_ge b j (by omega)]; simp [h64]
def topI (y : BitVec 64) (k m : Nat) : Int := ((topB (unxsB y k) m).toNat : Int)
theorem unxs_get (y : BitVec 64) (k n : Nat) (hk : 22 ≤ k) : (y.getLsbD n ^^ (unxsB y k).getLsbD (n + k)) = (unxsB y k).getLsbD n := by
  unfold unxsB
  have h3 : y.getLsbD (k + k + (n + k)) = false := BitVec.getLsbD_of_ge _ _ (by omega)
  simp only [BitVec.getLsbD_xor, BitVec.getLsbD_ushiftRight]
  rw [h3, show k + (n + k) = k + k + n by omega, show n + k = k + n by omega]
  cases y.getLsbD n <;> cases y.getLsbD (k + n) <;> cases y.getLsbD (k + k + n) <;> rfl
theorem bit_of (y : BitVec 64) (n : Nat) : ((y.toNat : Int) / 2 ^ n).tmod 2 = ((y.getLsbD n).toNat : Int) := by
  have e : ((y.toNat : Int) / 2 ^ n).tmod 2 = ((y.toNat / 2 ^ n % 2 : Nat) : Int) := by
    rw [Int.tmod_eq_emod_of_nonneg (Int.ediv_nonneg (by omega) (by exact_mod_cast Nat.zero_le (2 ^ n)))]
    simp
  rw [e, BitVec.getLsbD, Nat.toNat_testBit]
theorem xor_bits (p q : Bool) : bits .xor .u64 (p.toNat : Int) (q.toNat : Int) = (((p ^^ q).toNat : Nat) : Int) := by
  cases p <;> cases q <;> decide +kernel
theorem wrap_bit (p : Bool) (n : Nat) (hn : n < 64) : IntKind.u64.wrap ((p.toNat : Int) * 2 ^ n) = ((p.toNat * 2 ^ n : Nat) : Int) := by
  have h : 2 ^ n < 2 ^ 64 := Nat.pow_lt_pow_right (by omega) hn
  rw [IntKind.wrap_u64]
  have e : ((2 : Int) ^ n) = ((2 ^ n : Nat) : Int) := by simp
  rw [e]
  cases p
  · simp
  · simp only [Bool.toNat_true]; omega
theorem or_bit (b : BitVec 64) (n : Nat) (hn : n < 64) :
    bits .or .u64 ((topB b (n + 1)).toNat : Int) (IntKind.u64.wrap (((b.getLsbD n).toNat : Int) * 2 ^ n)) = ((topB b n).toNat : Int) := by
  have h : 2 ^ n < 2 ^ 64 := Nat.pow_lt_pow_right (by omega) hn
  rw [wrap_bit _ _ hn, u64_or_nat _ _ (by have := (topB b (n + 1)).isLt; omega) (by cases b.getLsbD n <;> simp <;> omega)]
  congr 1
  apply Nat.eq_of_testBit_eq
  intro j
  rw [Nat.testBit_or]
  have e1 := topB_get b (n + 1) j
  have e2 := topB_get b n j
  simp only [BitVec.getLsbD] at e1 e2
  rw [e1, e2]
  by_cases hj : j = n
  · subst hj
    cases hb : b.toNat.testBit j <;> simp [BitVec.getLsbD, hb]
  · have hd : decide (n + 1 ≤ j) = decide (n ≤ j) := by
      rw [Bool.eq_iff_iff]; simp; omega
    rw [hd]
    cases b.getLsbD n <;> simp [Nat.testBit_two_pow]
    intro e; omega
theorem step_in (y : BitVec 64) (k n : Nat) (hk : 22 ≤ k) (hn : n < 64) :
    bits .or .u64 (topI y k (n + 1)) (IntKind.u64.wrap (bits .xor .u64 (((y.toNat : Int) / 2 ^ n).tmod 2) ((topI y k (n + 1) / 2 ^ (n + k)).tmod 2) * 2 ^ n)) = topI y k n := by
  unfold topI
  rw [bit_of, bit_of, xor_bits, topB_get]
  have hd : decide (n + 1 ≤ n + k) = true := by simp; omega
  rw [hd, Bool.true_and, unxs_get y k n hk]
  exact or_bit _ _ hn
theorem step_out (y : BitVec 64) (k n : Nat) (hk : 22 ≤ k) (hn : n < 64) (h : 64 ≤ n + k) :
    bits .or .u64 (topI y k (n + 1)) (IntKind.u64.wrap (((y.toNat : Int) / 2 ^ n).tmod 2 * 2 ^ n)) = topI y k n := by
  unfold topI
  have e := unxs_get y k n hk
  rw [BitVec.getLsbD_of_ge _ (n + k) (by omega), Bool.xor_false] at e
  rw [bit_of, e]
  exact or_bit _ _ hn
theorem topI_64 (y : BitVec 64) (k : Nat) : topI y k 64 = 0 := by
  unfold topI
  have e : topB (unxsB y k) 64 = 0#64 := by
    apply BitVec.eq_of_getLsbD_eq
    intro i hi
    rw [topB_get]
    have : decide (64 ≤ i) = false := by simp; omega
    rw [this]; simp
  rw [e]; rfl
theorem topI_0 (y : BitVec 64) (k : Nat) : topI y k 0 = ((unxsB y k).toNat : Int) := by
  unfold topI topB; simp
def unmixI (y : BitVec 64) : Int := ((unmixB y).toNat : Int)
end Go.Proofs.Ytkclhbjoiekfdaa
