/- Plain mathematics for the statements on mixing: the mixing of 64-bit numbers as a function on integers and on bit vectors, and its inverse. No condition. -/
import Derived.Laws.BitsAllLaws
import Derived.Laws.Bits64
import Derived.OpenShut
namespace Go.Proofs.YtjmldnbepajnoaaR

def xsI (x d : Int) : Int := bits .xor .u64 x (x / d)
def mixI (x : Int) : Int :=
  xsI (IntKind.u64.wrap (xsI (IntKind.u64.wrap (xsI x 1073741824 * 13787848793156543929)) 134217728 * 10723151780598845931)) 2147483648
def twoI (x y : Int) : Int := mixI (bits .xor .u64 (mixI x) y)

def xsB (x : BitVec 64) (k : Nat) : BitVec 64 := x ^^^ (x >>> k)
def mixB (x : BitVec 64) : BitVec 64 := xsB (xsB (xsB x 30 * 13787848793156543929#64) 27 * 10723151780598845931#64) 31
def unxsB (x : BitVec 64) (k : Nat) : BitVec 64 := x ^^^ (x >>> k) ^^^ (x >>> (k + k))
def unmixB (x : BitVec 64) : BitVec 64 := unxsB (unxsB (unxsB x 31 * 3573116690164977347#64) 27 * 10871156337175269513#64) 30

theorem xsI_bv (x : BitVec 64) (k : Nat) : xsI (x.toNat : Int) ((2 ^ k : Nat) : Int) = ((xsB x k).toNat : Int) := by
  unfold xsI xsB
  rw [xorShift_u64 x.toNat (2 ^ k) (by have := x.isLt; omega)]
  rw [BitVec.toNat_xor, BitVec.toNat_ushiftRight, Nat.shiftRight_eq_div_pow]
theorem mul_bv (x c : BitVec 64) : IntKind.u64.wrap ((x.toNat : Int) * (c.toNat : Int)) = ((x * c).toNat : Int) := by
  rw [IntKind.wrap_u64, BitVec.toNat_mul]
  omega
theorem xor_bv (x y : BitVec 64) : bits .xor .u64 (x.toNat : Int) (y.toNat : Int) = ((x ^^^ y).toNat : Int) := by
  rw [u64_xor_nat _ _ (by have := x.isLt; omega) (by have := y.isLt; omega), BitVec.toNat_xor]
theorem mixI_bv (x : BitVec 64) : mixI (x.toNat : Int) = ((mixB x).toNat : Int) := by
  unfold mixI mixB
  have e1 := xsI_bv x 30
  have e2 := mul_bv (xsB x 30) 13787848793156543929#64
  generalize hy : xsB x 30 * 13787848793156543929#64 = y at *
  have e3 := xsI_bv y 27
  have e4 := mul_bv (xsB y 27) 10723151780598845931#64
  generalize hz : xsB y 27 * 10723151780598845931#64 = z at *
  have e5 := xsI_bv z 31
  simp only [Nat.reducePow, BitVec.toNat_ofNat, Nat.reduceMod, Int.cast_ofNat_Int] at e1 e2 e3 e4 e5
  rw [e1, e2, e3, e4, e5]
theorem twoI_bv (x y : BitVec 64) : twoI (x.toNat : Int) (y.toNat : Int) = ((mixB (mixB x ^^^ y)).toNat : Int) := by
  unfold twoI
  rw [mixI_bv, xor_bv, mixI_bv]

theorem unxs_xs (x : BitVec 64) (k : Nat) (h : 22 ≤ k) : unxsB (xsB x k) k = x := by
  unfold unxsB xsB
  apply BitVec.eq_of_getLsbD_eq
  intro i hi
  have h3 : x.getLsbD (k + k + (k + i)) = false := BitVec.getLsbD_of_ge _ _ (by omega)
  simp only [BitVec.getLsbD_xor, BitVec.getLsbD_ushiftRight]
  rw [show k + (k + k + i) = k + k + (k + i) by omega, h3, show k + (k + i) = k + k + i by omega]
  cases x.getLsbD i <;> cases x.getLsbD (k + i) <;> cases x.getLsbD (k + k + i) <;> rfl
theorem xs_unxs (x : BitVec 64) (k : Nat) (h : 22 ≤ k) : xsB (unxsB x k) k = x := by
  unfold unxsB xsB
  apply BitVec.eq_of_getLsbD_eq
  intro i hi
  have h3 : x.getLsbD (k + k + (k + i)) = false := BitVec.getLsbD_of_ge _ _ (by omega)
  simp only [BitVec.getLsbD_xor, BitVec.getLsbD_ushiftRight]
  rw [h3, show k + (k + i) = k + k + i by omega]
  cases x.getLsbD i <;> cases x.getLsbD (k + i) <;> cases x.getLsbD (k + k + i) <;> rfl
theorem mul_c1 (x : BitVec 64) : x * 13787848793156543929#64 * 10871156337175269513#64 = x := by
  rw [BitVec.mul_assoc, show (13787848793156543929#64 * 10871156337175269513#64) = 1#64 by decide, BitVec.mul_one]
theorem mul_c1' (x : BitVec 64) : x * 10871156337175269513#64 * 13787848793156543929#64 = x := by
  rw [BitVec.mul_assoc, show (10871156337175269513#64 * 13787848793156543929#64) = 1#64 by decide, BitVec.mul_one]
theorem mul_c2 (x : BitVec 64) : x * 10723151780598845931#64 * 3573116690164977347#64 = x := by
  rw [BitVec.mul_assoc, show (10723151780598845931#64 * 3573116690164977347#64) = 1#64 by decide, BitVec.mul_one]
theorem mul_c2' (x : BitVec 64) : x * 3573116690164977347#64 * 10723151780598845931#64 = x := by
  rw [BitVec.mul_assoc, show (3573116690164977347#64 * 10723151780598845931#64) = 1#64 by decide, BitVec.mul_one]
theorem unmix_mix (x : BitVec 64) : unmixB (mixB x) = x := by
  unfold unmixB mixB
  rw [unxs_xs _ 31 (by omega), mul_c2, unxs_xs _ 27 (by omega), mul_c1, unxs_xs _ 30 (by omega)]
theorem mix_unmix (x : BitVec 64) : mixB (unmixB x) = x := by
  unfold unmixB mixB
  rw [xs_unxs _ 30 (by omega), mul_c1', xs_unxs _ 27 (by omega), mul_c2', xs_unxs _ 31 (by omega)]
theorem mixB_inj {x y : BitVec 64} : mixB x = mixB y ↔ x = y :=
  ⟨fun h => by rw [← unmix_mix x, h, unmix_mix], fun h => by rw [h]⟩

/- A number of 64 bits, as the walk has it. -/
theorem wf_u64 {x : Int} (h : (Lit.int .u64 x).wf = true) : ∃ b : BitVec 64, x = (b.toNat : Int) := by
  have h' : 0 ≤ x ∧ x < 18446744073709551616 := by
    have := bounds_u64 h; omega
  exact ⟨BitVec.ofNat 64 x.toNat, by rw [BitVec.toNat_ofNat]; omega⟩
theorem toNat_eq_iff (x y : BitVec 64) : ((x.toNat : Int) == (y.toNat : Int)) = (x == y) := by
  rw [Bool.eq_iff_iff, beq_iff_eq, beq_iff_eq, Int.ofNat_inj, BitVec.toNat_inj]
theorem mixI_eq (x y : BitVec 64) : (mixI (x.toNat : Int) == mixI (y.toNat : Int)) = ((x.toNat : Int) == (y.toNat : Int)) := by
  rw [mixI_bv, mixI_bv, toNat_eq_iff, toNat_eq_iff, Bool.eq_iff_iff, beq_iff_eq, beq_iff_eq, mixB_inj]
theorem xor_right_inj (x y z : BitVec 64) : z ^^^ x = z ^^^ y ↔ x = y :=
  ⟨fun h => by have := congrArg (fun t => z ^^^ t) h; simpa [← BitVec.xor_assoc] using this, fun h => by rw [h]⟩
theorem xor_left_inj (x y z : BitVec 64) : x ^^^ z = y ^^^ z ↔ x = y := by
  rw [BitVec.xor_comm x, BitVec.xor_comm y]; exact xor_right_inj x y z
theorem twoI_eq (x y z : BitVec 64) : (twoI (z.toNat : Int) (x.toNat : Int) == twoI (z.toNat : Int) (y.toNat : Int)) = ((x.toNat : Int) == (y.toNat : Int)) := by
  rw [twoI_bv, twoI_bv, toNat_eq_iff, toNat_eq_iff, Bool.eq_iff_iff, beq_iff_eq, beq_iff_eq, mixB_inj, xor_right_inj]
theorem twoI_eq' (x y z : BitVec 64) : (twoI (x.toNat : Int) (z.toNat : Int) == twoI (y.toNat : Int) (z.toNat : Int)) = ((x.toNat : Int) == (y.toNat : Int)) := by
  rw [twoI_bv, twoI_bv, toNat_eq_iff, toNat_eq_iff, Bool.eq_iff_iff, beq_iff_eq, beq_iff_eq, mixB_inj, xor_left_inj, mixB_inj]

theorem mixI_0 : mixI 0 = 0 := by decide +kernel
theorem mixI_1 : mixI 1 = 6238072747940578789 := by decide +kernel
theorem twoI_00 : twoI 0 0 = 0 := by decide +kernel

theorem half_pow (x : Int) (j : Nat) (h : 0 ≤ x) : x / ((2 ^ j : Nat) : Int) / 2 = x / ((2 ^ (j + 1) : Nat) : Int) := by
  obtain ⟨X, rfl⟩ := Int.eq_ofNat_of_zero_le h
  have e : (X / 2 ^ j / 2 : Nat) = X / 2 ^ (j + 1) := by rw [Nat.div_div_eq_div_mul, Nat.pow_succ]
  have e' := congrArg (fun n : Nat => (n : Int)) e
  simpa only [Int.natCast_ediv, Int.cast_ofNat_Int] using e'
theorem wf_div (x : Int) (d : Nat) (h : (Lit.int .u64 x).wf = true) : 0 ≤ x / (d : Int) ∧ x / (d : Int) ≤ 18446744073709551615 := by
  have hb := bounds_u64 h
  exact ⟨Int.ediv_nonneg hb.1 (by omega), Int.le_trans (Int.ediv_le_self _ hb.1) hb.2⟩
theorem wrap_quo2 (y : Int) (h : 0 ≤ y ∧ y ≤ 18446744073709551615) : IntKind.u64.wrap (y.tdiv 2) = y / 2 := by
  rw [IntKind.wrap_u64, Int.tdiv_eq_ediv_of_nonneg h.1]
  omega
theorem ret_int {k : IntKind} {a b : Int} (h : a = b) : Ending.returned (.int k a) = .returned (.int k b) := by rw [h]
end Go.Proofs.YtjmldnbepajnoaaR
