/- The plain mathematics of stamps: how two stamps stand to each other. No condition. The plain mathematics of records: which may be, how two stand to each other, their join. No condition but those that are stated. Plain mathematics for the statements on mixing: the mixing of 64-bit numbers as a function on integers and on bit vectors, and its inverse. No condition. Contracts of the program's and the reference's functions on mixing: each call returns the plain function's number and leaves the world as it was. No condition on the numbers of the program's own functions. Contracts of the program's a -/
import Derived.Test.YthgbdaladngpdaaGreatRows
import Derived.Lib.Bytealg
import Derived.OpenShut
import Derived.Laws.BitsAllLaws
import Derived.Laws.Bits64
import Derived.WalkKit
import Derived.ProofKit
import Derived.ChangeSame
import Derived.RowKit3
import Derived.WideKeyArgs
import Derived.Laws.AppendOwn
import Derived.Laws.MakeOwn
import Derived.Laws.ResultCell
import Derived.BigRegion
/- The plain mathematics of stamps: how two stamps stand to each other. No condition. -/
namespace Go.Proofs.YthgbdaladngpdaaGreat

structure Stp where
  p : Int
  l : Int
  n : Int
theorem Stp.ext {a b : Stp} (h1 : a.p = b.p) (h2 : a.l = b.l) (h3 : a.n = b.n) : a = b := by
  cases a; cases b; simp_all
/- A stamp that can be. -/
def Stp.ok (s : Stp) : Prop := 0 ≤ s.p ∧ s.p < 18446744073709551616 ∧ 0 ≤ s.l ∧ s.l < 4294967296 ∧ 0 ≤ s.n ∧ s.n < 256
def zero : Stp := ⟨0, 0, 0⟩
theorem zero_ok : zero.ok := by unfold zero Stp.ok; simp
/- It stands ahead. -/
def Lt (a b : Stp) : Prop := a.p < b.p ∨ (a.p = b.p ∧ (a.l < b.l ∨ (a.l = b.l ∧ a.n < b.n)))
def lt (a b : Stp) : Bool := decide (a.p < b.p) || (decide (a.p = b.p) && (decide (a.l < b.l) || (decide (a.l = b.l) && decide (a.n < b.n))))
theorem lt_iff (a b : Stp) : lt a b = true ↔ Lt a b := by
  unfold lt Lt
  simp
theorem lt_false (a b : Stp) : lt a b = false ↔ ¬ Lt a b := by
  rw [← lt_iff]; simp
def same (a b : Stp) : Bool := decide (a.p = b.p) && (decide (a.l = b.l) && decide (a.n = b.n))
theorem same_iff (a b : Stp) : same a b = true ↔ a = b := by
  unfold same
  constructor
  · intro h; simp at h; exact Stp.ext h.1 h.2.1 h.2.2
  · rintro rfl; simp
theorem same_false (a b : Stp) : same a b = false ↔ a ≠ b := by
  rw [ne_eq, ← same_iff]; simp
theorem lt_irrefl (a : Stp) : ¬ Lt a a := by unfold Lt; omega
theorem lt_asymm {a b : Stp} (h : Lt a b) : ¬ Lt b a := by unfold Lt at *; omega
theorem lt_trans {a b c : Stp} (h : Lt a b) (k : Lt b c) : Lt a c := by unfold Lt at *; omega
theorem lt_total {a b : Stp} (h : ¬ Lt a b) (k : ¬ Lt b a) : a = b := by
  apply Stp.ext <;> (unfold Lt at *; omega)
/- -1, 0, 1. -/
def cmp (a b : Stp) : Int := if lt a b = true then -1 else if lt b a = true then 1 else 0
theorem cmp_lt {a b : Stp} (h : Lt a b) : cmp a b = -1 := by unfold cmp; rw [if_pos ((lt_iff a b).2 h)]
theorem cmp_gt {a b : Stp} (h : Lt b a) : cmp a b = 1 := by
  unfold cmp; rw [if_neg (by rw [lt_iff]; exact lt_asymm h), if_pos ((lt_iff b a).2 h)]
theorem cmp_self (a : Stp) : cmp a a = 0 := by
  unfold cmp; rw [if_neg (by rw [lt_iff]; exact lt_irrefl a), if_neg (by rw [lt_iff]; exact lt_irrefl a)]
theorem cmp_neg (a b : Stp) : cmp b a = - cmp a b := by
  by_cases h : Lt a b
  · rw [cmp_lt h, cmp_gt h]; rfl
  · by_cases k : Lt b a
    · rw [cmp_lt k, cmp_gt k]
    · rw [lt_total h k, cmp_self]; rfl
theorem cmp_zero (a b : Stp) : cmp a b = 0 ↔ a = b := by
  by_cases h : Lt a b
  · rw [cmp_lt h]; constructor
    · intro e; omega
    · rintro rfl; exact absurd h (lt_irrefl _)
  · by_cases k : Lt b a
    · rw [cmp_gt k]; constructor
      · intro e; omega
      · rintro rfl; exact absurd k (lt_irrefl _)
    · have := lt_total h k; subst this; simp [cmp_self]
theorem cmp_cases (a b : Stp) : cmp a b = -1 ∨ cmp a b = 0 ∨ cmp a b = 1 := by
  by_cases h : Lt a b
  · exact .inl (cmp_lt h)
  · by_cases k : Lt b a
    · exact .inr (.inr (cmp_gt k))
    · have := lt_total h k; subst this; exact .inr (.inl (cmp_self _))

end Go.Proofs.YthgbdaladngpdaaGreat

/- The plain mathematics of records: which may be, how two stand to each other, their join. No condition but those that are stated. -/
namespace Go.Proofs.YthgbdaladngpdaaGreat
set_option linter.unusedVariables false
set_option maxRecDepth 100000
set_option linter.unusedSimpArgs false

structure R where
  key : ByteArray
  s : Stp
  kind : Int
  flags : Int
  exp : Int
  body : ByteArray
theorem R.ext' {a b : R} (h1 : a.key = b.key) (h2 : a.s = b.s) (h3 : a.kind = b.kind) (h4 : a.flags = b.flags) (h5 : a.exp = b.exp) (h6 : a.body = b.body) : a = b := by
  cases a; cases b; simp_all
/- A record that can be handed in. -/
def R.ok (r : R) : Prop := r.key.size ≤ maxLen ∧ r.s.ok ∧ (0 ≤ r.kind ∧ r.kind < 256) ∧ (0 ≤ r.flags ∧ r.flags < 4294967296) ∧ (0 ≤ r.exp ∧ r.exp < 18446744073709551616) ∧ r.body.size ≤ maxLen
def zeroR : R := ⟨⟨#[]⟩, zero, 0, 0, 0, ⟨#[]⟩⟩
/- A byte that may stand in a key. -/
def good (c : UInt8) : Bool := decide (32 < c.toNat) && decide (c.toNat ≠ 127)
def keyMay (k : ByteArray) : Bool := decide (1 ≤ k.size) && decide (k.size ≤ 250) && k.data.toList.all good
def stampMay (s : Stp) : Bool := decide (s.p ≤ 281474976710655) && decide (s.n < 64)
def contentMay (r : R) : Bool :=
  if r.kind = 1 ∨ r.kind = 2 then decide (r.flags = 0) && (decide (r.exp = 0) && decide (r.body.size = 0))
  else if r.kind = 3 then decide (r.exp ≤ 281474976710655) && decide (r.body.size ≤ 1024)
  else false
def mayR (r : R) : Bool := keyMay r.key && (stampMay r.s && contentMay r)
def liveR (r : R) (t : Int) : Bool := decide (r.kind = 3) && (decide (r.exp = 0) || decide (t < r.exp))

/- -1, 0, 1. -/
def cmpI (a b : Int) : Int := if a < b then -1 else if b < a then 1 else 0
def cmpB (a b : ByteArray) : Int := Lib.compareBytes a.data.toList b.data.toList
def orI (x y : Int) : Int := if x = 0 then y else x
def cmpR (a b : R) : Int := orI (cmp a.s b.s) (orI (cmpI a.kind b.kind) (orI (cmpB a.body b.body) (orI (cmpI a.flags b.flags) (cmpI a.exp b.exp))))
def joinR (a b : R) : R := if cmpR a b < 0 then b else a

/- What a comparison is: it turns its sign; it goes on. -/
structure Good {α : Type} (c : α → α → Int) : Prop where
  one : ∀ a b, c a b = -1 ∨ c a b = 0 ∨ c a b = 1
  neg : ∀ a b, c b a = - c a b
  tr : ∀ a b d, c a b ≤ 0 → c b d ≤ 0 → c a d ≤ 0 ∧ (c a d < 0 ↔ c a b < 0 ∨ c b d < 0)
theorem good_or {α : Type} {c d : α → α → Int} (hc : Good c) (hd : Good d) : Good fun a b => orI (c a b) (d a b) := by
  refine ⟨fun a b => ?_, fun a b => ?_, fun a b e h1 h2 => ?_⟩
  · have := hc.one a b; have := hd.one a b
    unfold orI; split <;> omega
  · have := hc.neg a b; have := hd.neg a b
    unfold orI
    by_cases h : c a b = 0
    · rw [if_pos h, if_pos (by omega)]; omega
    · rw [if_neg h, if_neg (by omega)]; omega
  · have t1 := hc.tr a b e
    have t2 := hd.tr a b e
    unfold orI at *
    by_cases k1 : c a b = 0
    · rw [if_pos k1] at h1
      by_cases k2 : c b e = 0
      · rw [if_pos k2] at h2
        have k3 : c a e = 0 := by
          have := (t1 (by omega) (by omega)).1
          have := hc.tr e b a (by rw [hc.neg b e]; omega) (by rw [hc.neg a b]; omega)
          rw [hc.neg a e] at this
          omega
        rw [if_pos k1, if_pos k2, if_pos k3]
        exact t2 h1 h2
      · rw [if_neg k2] at h2
        have := t1 (by omega) (by omega)
        rw [if_pos k1, if_neg k2]
        have k3 : c a e < 0 := this.2.2 (.inr (by omega))
        rw [if_neg (by omega)]
        refine ⟨by omega, fun _ => .inr (by omega), fun _ => k3⟩
    · rw [if_neg k1] at h1
      have h2' : c b e ≤ 0 := by
        by_cases k2 : c b e = 0
        · omega
        · rw [if_neg k2] at h2; omega
      have := t1 (by omega) h2'
      have k3 : c a e < 0 := this.2.2 (.inl (by omega))
      rw [if_neg k1, if_neg (by omega)]
      exact ⟨by omega, fun _ => .inl (by omega), fun _ => k3⟩
theorem good_on {α β : Type} {c : β → β → Int} (hc : Good c) (f : α → β) : Good fun a b => c (f a) (f b) :=
  ⟨fun a b => hc.one _ _, fun a b => hc.neg _ _, fun a b d => hc.tr _ _ _⟩
theorem cmpI_cases (a b : Int) : (a < b ∧ cmpI a b = -1) ∨ (a = b ∧ cmpI a b = 0) ∨ (b < a ∧ cmpI a b = 1) := by
  unfold cmpI
  by_cases h : a < b
  · rw [if_pos h]; exact .inl ⟨h, rfl⟩
  · rw [if_neg h]
    by_cases k : b < a
    · rw [if_pos k]; exact .inr (.inr ⟨k, rfl⟩)
    · rw [if_neg k]; exact .inr (.inl ⟨by omega, rfl⟩)
theorem good_int : Good cmpI := by
  refine ⟨fun a b => ?_, fun a b => ?_, fun a b d h1 h2 => ?_⟩
  · have := cmpI_cases a b; omega
  · have := cmpI_cases a b; have := cmpI_cases b a; omega
  · have := cmpI_cases a b; have := cmpI_cases b d; have := cmpI_cases a d
    omega
theorem cmpI_zero (a b : Int) : cmpI a b = 0 ↔ a = b := by
  have := cmpI_cases a b; omega
theorem cmp_parts (a b : Stp) : (Lt a b ∧ cmp a b = -1) ∨ (a = b ∧ cmp a b = 0) ∨ (Lt b a ∧ cmp a b = 1) := by
  by_cases h : Lt a b
  · exact .inl ⟨h, cmp_lt h⟩
  · by_cases k : Lt b a
    · exact .inr (.inr ⟨k, cmp_gt k⟩)
    · have := lt_total h k; subst this; exact .inr (.inl ⟨rfl, cmp_self _⟩)
theorem good_stamp : Good cmp := by
  refine ⟨cmp_cases, fun a b => cmp_neg a b, fun a b d h1 h2 => ?_⟩
  rcases cmp_parts a b with ⟨p1, e1⟩ | ⟨p1, e1⟩ | ⟨p1, e1⟩
  · rcases cmp_parts b d with ⟨p2, e2⟩ | ⟨p2, e2⟩ | ⟨p2, e2⟩
    · rw [cmp_lt (lt_trans p1 p2)]; omega
    · subst p2; omega
    · omega
  · subst p1; omega
  · omega
theorem u8_cases (a b : UInt8) : (a < b) ∨ (a = b) ∨ (b < a) := by
  simp only [UInt8.lt_iff_toNat_lt, ← UInt8.toNat_inj]; omega
theorem cb_one : ∀ a b : List UInt8, Lib.compareBytes a b = -1 ∨ Lib.compareBytes a b = 0 ∨ Lib.compareBytes a b = 1
  | [], [] => by simp [Lib.compareBytes]
  | [], _ :: _ => by simp [Lib.compareBytes]
  | _ :: _, [] => by simp [Lib.compareBytes]
  | x :: a, y :: b => by
    have := cb_one a b
    unfold Lib.compareBytes
    split
    · simp
    · split
      · simp
      · exact this
theorem cb_neg : ∀ a b : List UInt8, Lib.compareBytes b a = - Lib.compareBytes a b
  | [], [] => by simp [Lib.compareBytes]
  | [], _ :: _ => by simp [Lib.compareBytes]
  | _ :: _, [] => by simp [Lib.compareBytes]
  | x :: a, y :: b => by
    have ih := cb_neg a b
    unfold Lib.compareBytes
    rcases u8_cases x y with h | rfl | h
    · have k : ¬ y < x := by rw [UInt8.lt_iff_toNat_lt] at *; omega
      simp [h, k]
    · have k : ¬ x < x := by rw [UInt8.lt_iff_toNat_lt]; omega
      simp only [k, if_false]; exact ih
    · have k : ¬ x < y := by rw [UInt8.lt_iff_toNat_lt] at *; omega
      simp [h, k]
theorem cb_zero : ∀ a b : List UInt8, Lib.compareBytes a b = 0 ↔ a = b
  | [], [] => by simp [Lib.compareBytes]
  | [], _ :: _ => by simp [Lib.compareBytes]
  | _ :: _, [] => by simp [Lib.compareBytes]
  | x :: a, y :: b => by
    have ih := cb_zero a b
    unfold Lib.compareBytes
    rcases u8_cases x y with h | rfl | h
    · have k : x ≠ y := by rintro rfl; rw [UInt8.lt_iff_toNat_lt] at h; omega
      simp [h, k]
    · have k : ¬ x < x := by rw [UInt8.lt_iff_toNat_lt]; omega
      simp only [k, if_false, ih, List.cons.injEq, true_and]
    · have k : ¬ x < y := by rw [UInt8.lt_iff_toNat_lt] at *; omega
      have k2 : x ≠ y := by rintro rfl; rw [UInt8.lt_iff_toNat_lt] at h; omega
      simp [h, k, k2]
theorem cb_tr : ∀ a b d : List UInt8, Lib.compareBytes a b ≤ 0 → Lib.compareBytes b d ≤ 0 → Lib.compareBytes a d ≤ 0 ∧ (Lib.compareBytes a d < 0 ↔ Lib.compareBytes a b < 0 ∨ Lib.compareBytes b d < 0)
  | [], b, [] => by
    cases b with
    | nil => simp [Lib.compareBytes]
    | cons y b => simp [Lib.compareBytes]
  | [], b, z :: d => by
    cases b with
    | nil => simp [Lib.compareBytes]
    | cons y b => simp [Lib.compareBytes]
  | x :: a, [], d => by simp [Lib.compareBytes]
  | x :: a, y :: b, [] => by simp [Lib.compareBytes]
  | x :: a, y :: b, z :: d => by
    have ih := cb_tr a b d
    intro h1 h2
    unfold Lib.compareBytes at h1 h2 ⊢
    simp only [UInt8.lt_iff_toNat_lt] at *
    rcases Nat.lt_trichotomy x.toNat y.toNat with h | h | h
    · rcases Nat.lt_trichotomy y.toNat z.toNat with k | k | k
      · rw [if_pos (by omega), if_pos h, if_pos k]; omega
      · rw [if_pos (by omega), if_pos h]; omega
      · rw [if_neg (by omega), if_pos k] at h2; omega
    · rcases Nat.lt_trichotomy y.toNat z.toNat with k | k | k
      · rw [if_pos (by omega), if_pos k]; omega
      · rw [if_neg (by omega), if_neg (by omega)] at h1 h2
        rw [if_neg (by omega), if_neg (by omega), if_neg (by omega), if_neg (by omega), if_neg (by omega), if_neg (by omega)]
        exact ih h1 h2
      · rw [if_neg (by omega), if_pos k] at h2; omega
    · rw [if_neg (by omega), if_pos h] at h1; omega
theorem good_bytes : Good cmpB := ⟨fun a b => cb_one _ _, fun a b => cb_neg _ _, fun a b d => cb_tr _ _ _⟩
theorem cmpB_zero (a b : ByteArray) : cmpB a b = 0 ↔ a = b := by
  unfold cmpB
  rw [cb_zero, Array.toList_inj]
  constructor
  · intro h; cases a; cases b; simp_all
  · rintro rfl; rfl
theorem good_rec : Good cmpR :=
  good_or (good_on good_stamp R.s) (good_or (good_on good_int R.kind) (good_or (good_on good_bytes R.body) (good_or (good_on good_int R.flags) (good_on good_int R.exp))))
theorem orI_zero (x y : Int) : orI x y = 0 ↔ x = 0 ∧ y = 0 := by
  unfold orI; split <;> omega
theorem cmpR_zero (a b : R) : cmpR a b = 0 ↔ a.s = b.s ∧ a.kind = b.kind ∧ a.body = b.body ∧ a.flags = b.flags ∧ a.exp = b.exp := by
  unfold cmpR
  rw [orI_zero, orI_zero, orI_zero, orI_zero, cmp_zero, cmpI_zero, cmpB_zero, cmpI_zero, cmpI_zero]
theorem cmpR_same (a b : R) : cmpR a b = 0 ↔ a = { b with key := a.key } := by
  rw [cmpR_zero]
  constructor
  · rintro ⟨h1, h2, h3, h4, h5⟩; exact R.ext' rfl h1 h2 h4 h5 h3
  · intro h; rw [h]; simp
theorem cmpR_eq {a b : R} (hk : a.key = b.key) (h : cmpR a b = 0) : a = b := by
  obtain ⟨h1, h2, h3, h4, h5⟩ := (cmpR_zero a b).1 h
  exact R.ext' hk h1 h2 h4 h5 h3
theorem cmpR_self (a : R) : cmpR a a = 0 := (cmpR_zero a a).2 ⟨rfl, rfl, rfl, rfl, rfl⟩
theorem join_self (a : R) : joinR a a = a := by unfold joinR; split <;> rfl
theorem join_ge (a b : R) : cmpR a (joinR a b) ≤ 0 ∧ cmpR b (joinR a b) ≤ 0 := by
  unfold joinR
  have := good_rec.neg a b
  have h1 := cmpR_self a
  have h2 := cmpR_self b
  split <;> omega
theorem join_or (a b : R) : joinR a b = a ∨ joinR a b = b := by
  unfold joinR; split
  · exact .inr rfl
  · exact .inl rfl
theorem cmpR_trans {a b c : R} (h : cmpR a b ≤ 0) (k : cmpR b c ≤ 0) : cmpR a c ≤ 0 := (good_rec.tr a b c h k).1
end Go.Proofs.YthgbdaladngpdaaGreat

/- Plain mathematics for the statements on mixing: the mixing of 64-bit numbers as a function on integers and on bit vectors, and its inverse. No condition. -/
namespace Go.Proofs.YthgbdaladngpdaaGreat

def xsI (x d : Int) : Int := bits .xor .u64 x (x / d)
def mixI (x : Int) : Int :=
  xsI (IntKind.u64.wrap (xsI (IntKind.u64.wrap (xsI x 1073741824 * 13787848793156543929)) 134217728 * 10723151780598845931)) 2147483648
def twoI (x y : Int) : Int := mixI (bits .xor .u64 (mixI x) y)

def xsB (x : BitVec 64) (k : Nat) : BitVec 64 := x ^^^ (x >>> k)
def mixB (x : BitVec 64) : BitVec 64 := xsB (xsB (xsB x 30 * 13787848793156543929#64) 27 * 10723151780598845931#64) 31
def unxsB (x : BitVec 64) (k : Nat) : BitVec 64 := x ^^^ (x >>> k) ^^^ (x >>> (k + k))
def unmixB (x : BitVec 64) : BitVec 64 := unxsB (unxsB (unxsB x 31 * 3573116690164977347#64) 27 * 10871156337175269513#64) 30

theorem xsI_bv (x : BitVec 64) (k : Nat) : xsI (x.toNat : Int) ((2 ^ k : Nat) : Int) = ((xsB x k).toNat : Int) := by
  unfold xsI xsB
  rw [xorShift_u64 x.toNat (2 ^ k) (by have := x.isLt; omega)]
  rw [BitVec.toNat_xor, BitVec.toNat_ushiftRight, Nat.shiftRight_eq_div_pow]
theorem mul_bv (x c : BitVec 64) : IntKind.u64.wrap ((x.toNat : Int) * (c.toNat : Int)) = ((x * c).toNat : Int) := by
  rw [IntKind.wrap_u64, BitVec.toNat_mul]
  omega
theorem xor_bv (x y : BitVec 64) : bits .xor .u64 (x.toNat : Int) (y.toNat : Int) = ((x ^^^ y).toNat : Int) := by
  rw [u64_xor_nat _ _ (by have := x.isLt; omega) (by have := y.isLt; omega), BitVec.toNat_xor]
theorem mixI_bv (x : BitVec 64) : mixI (x.toNat : Int) = ((mixB x).toNat : Int) := by
  unfold mixI mixB
  have e1 := xsI_bv x 30
  have e2 := mul_bv (xsB x 30) 13787848793156543929#64
  generalize hy : xsB x 30 * 13787848793156543929#64 = y at *
  have e3 := xsI_bv y 27
  have e4 := mul_bv (xsB y 27) 10723151780598845931#64
  generalize hz : xsB y 27 * 10723151780598845931#64 = z at *
  have e5 := xsI_bv z 31
  simp only [Nat.reducePow, BitVec.toNat_ofNat, Nat.reduceMod, Int.cast_ofNat_Int] at e1 e2 e3 e4 e5
  rw [e1, e2, e3, e4, e5]
theorem twoI_bv (x y : BitVec 64) : twoI (x.toNat : Int) (y.toNat : Int) = ((mixB (mixB x ^^^ y)).toNat : Int) := by
  unfold twoI
  rw [mixI_bv, xor_bv, mixI_bv]

theorem unxs_xs (x : BitVec 64) (k : Nat) (h : 22 ≤ k) : unxsB (xsB x k) k = x := by
  unfold unxsB xsB
  apply BitVec.eq_of_getLsbD_eq
  intro i hi
  have h3 : x.getLsbD (k + k + (k + i)) = false := BitVec.getLsbD_of_ge _ _ (by omega)
  simp only [BitVec.getLsbD_xor, BitVec.getLsbD_ushiftRight]
  rw [show k + (k + k + i) = k + k + (k + i) by omega, h3, show k + (k + i) = k + k + i by omega]
  cases x.getLsbD i <;> cases x.getLsbD (k + i) <;> cases x.getLsbD (k + k + i) <;> rfl
theorem xs_unxs (x : BitVec 64) (k : Nat) (h : 22 ≤ k) : xsB (unxsB x k) k = x := by
  unfold unxsB xsB
  apply BitVec.eq_of_getLsbD_eq
  intro i hi
  have h3 : x.getLsbD (k + k + (k + i)) = false := BitVec.getLsbD_of_ge _ _ (by omega)
  simp only [BitVec.getLsbD_xor, BitVec.getLsbD_ushiftRight]
  rw [h3, show k + (k + i) = k + k + i by omega]
  cases x.getLsbD i <;> cases x.getLsbD (k + i) <;> cases x.getLsbD (k + k + i) <;> rfl
theorem mul_c1 (x : BitVec 64) : x * 13787848793156543929#64 * 10871156337175269513#64 = x := by
  rw [BitVec.mul_assoc, show (13787848793156543929#64 * 10871156337175269513#64) = 1#64 by decide, BitVec.mul_one]
theorem mul_c1' (x : BitVec 64) : x * 10871156337175269513#64 * 13787848793156543929#64 = x := by
  rw [BitVec.mul_assoc, show (10871156337175269513#64 * 13787848793156543929#64) = 1#64 by decide, BitVec.mul_one]
theorem mul_c2 (x : BitVec 64) : x * 10723151780598845931#64 * 3573116690164977347#64 = x := by
  rw [BitVec.mul_assoc, show (10723151780598845931#64 * 3573116690164977347#64) = 1#64 by decide, BitVec.mul_one]
theorem mul_c2' (x : BitVec 64) : x * 3573116690164977347#64 * 10723151780598845931#64 = x := by
  rw [BitVec.mul_assoc, show (3573116690164977347#64 * 10723151780598845931#64) = 1#64 by decide, BitVec.mul_one]
theorem unmix_mix (x : BitVec 64) : unmixB (mixB x) = x := by
  unfold unmixB mixB
  rw [unxs_xs _ 31 (by omega), mul_c2, unxs_xs _ 27 (by omega), mul_c1, unxs_xs _ 30 (by omega)]
theorem mix_unmix (x : BitVec 64) : mixB (unmixB x) = x := by
  unfold unmixB mixB
  rw [xs_unxs _ 30 (by omega), mul_c1', xs_unxs _ 27 (by omega), mul_c2', xs_unxs _ 31 (by omega)]
theorem mixB_inj {x y : BitVec 64} : mixB x = mixB y ↔ x = y :=
  ⟨fun h => by rw [← unmix_mix x, h, unmix_mix], fun h => by rw [h]⟩

/- A number of 64 bits, as the walk has it. -/
theorem mwf_u64 {x : Int} (h : (Lit.int .u64 x).wf = true) : ∃ b : BitVec 64, x = (b.toNat : Int) := by
  have h' : 0 ≤ x ∧ x < 18446744073709551616 := by
    have := bounds_u64 h; omega
  exact ⟨BitVec.ofNat 64 x.toNat, by rw [BitVec.toNat_ofNat]; omega⟩
theorem toNat_eq_iff (x y : BitVec 64) : ((x.toNat : Int) == (y.toNat : Int)) = (x == y) := by
  rw [Bool.eq_iff_iff, beq_iff_eq, beq_iff_eq, Int.ofNat_inj, BitVec.toNat_inj]
theorem mixI_eq (x y : BitVec 64) : (mixI (x.toNat : Int) == mixI (y.toNat : Int)) = ((x.toNat : Int) == (y.toNat : Int)) := by
  rw [mixI_bv, mixI_bv, toNat_eq_iff, toNat_eq_iff, Bool.eq_iff_iff, beq_iff_eq, beq_iff_eq, mixB_inj]
theorem xor_right_inj (x y z : BitVec 64) : z ^^^ x = z ^^^ y ↔ x = y :=
  ⟨fun h => by have := congrArg (fun t => z ^^^ t) h; simpa [← BitVec.xor_assoc] using this, fun h => by rw [h]⟩
theorem xor_left_inj (x y z : BitVec 64) : x ^^^ z = y ^^^ z ↔ x = y := by
  rw [BitVec.xor_comm x, BitVec.xor_comm y]; exact xor_right_inj x y z
theorem twoI_eq (x y z : BitVec 64) : (twoI (z.toNat : Int) (x.toNat : Int) == twoI (z.toNat : Int) (y.toNat : Int)) = ((x.toNat : Int) == (y.toNat : Int)) := by
  rw [twoI_bv, twoI_bv, toNat_eq_iff, toNat_eq_iff, Bool.eq_iff_iff, beq_iff_eq, beq_iff_eq, mixB_inj, xor_right_inj]
theorem twoI_eq' (x y z : BitVec 64) : (twoI (x.toNat : Int) (z.toNat : Int) == twoI (y.toNat : Int) (z.toNat : Int)) = ((x.toNat : Int) == (y.toNat : Int)) := by
  rw [twoI_bv, twoI_bv, toNat_eq_iff, toNat_eq_iff, Bool.eq_iff_iff, beq_iff_eq, beq_iff_eq, mixB_inj, xor_left_inj, mixB_inj]




theorem half_pow (x : Int) (j : Nat) (h : 0 ≤ x) : x / ((2 ^ j : Nat) : Int) / 2 = x / ((2 ^ (j + 1) : Nat) : Int) := by
  obtain ⟨X, rfl⟩ := Int.eq_ofNat_of_zero_le h
  have e : (X / 2 ^ j / 2 : Nat) = X / 2 ^ (j + 1) := by rw [Nat.div_div_eq_div_mul, Nat.pow_succ]
  have e' := congrArg (fun n : Nat => (n : Int)) e
  simpa only [Int.natCast_ediv, Int.cast_ofNat_Int] using e'
theorem wf_div (x : Int) (d : Nat) (h : (Lit.int .u64 x).wf = true) : 0 ≤ x / (d : Int) ∧ x / (d : Int) ≤ 18446744073709551615 := by
  have hb := bounds_u64 h
  exact ⟨Int.ediv_nonneg hb.1 (by omega), Int.le_trans (Int.ediv_le_self _ hb.1) hb.2⟩
theorem wrap_quo2 (y : Int) (h : 0 ≤ y ∧ y ≤ 18446744073709551615) : IntKind.u64.wrap (y.tdiv 2) = y / 2 := by
  rw [IntKind.wrap_u64, Int.tdiv_eq_ediv_of_nonneg h.1]
  omega
theorem mret_int {k : IntKind} {a b : Int} (h : a = b) : Ending.returned (.int k a) = .returned (.int k b) := by rw [h]
end Go.Proofs.YthgbdaladngpdaaGreat

/- Contracts of the program's and the reference's functions on mixing: each call returns the plain function's number and leaves the world as it was. No condition on the numbers of the program's own functions. -/
namespace Go.Proofs.YthgbdaladngpdaaGreat
open Go.ChangeShapes Go.WideShapes Go.ChangeAt Go.RowKit
set_option linter.unusedVariables false
set_option maxRecDepth 100000

theorem mix_any (x : Int) (w : World) :
    Calls Tryz.prog 110 #[.int .u64 x] w fun e w' => e = .returned (.int .u64 (mixI x)) ∧ w' = w := by
  go_enter Tryz.func110, Tryz.ntmps110
  go_wp2
  go_ret
  exact ⟨rfl, rfl⟩
theorem two_any (x y : Int) (w : World) :
    Calls Tryz.prog 102 #[.int .u64 x, .int .u64 y] w fun e w' => e = .returned (.int .u64 (twoI x y)) ∧ w' = w := by
  go_enter Tryz.func102, Tryz.ntmps102
  go_wp2_with (go_at_call 110; refine (mix_any _ _).mono ?_; rintro e w' ⟨rfl, rfl⟩)
  go_ret
  exact ⟨rfl, rfl⟩

/- The reference's functions. -/
theorem half_any (x : Int) (k : Nat) (h : (Lit.int .u64 x).wf = true) (hk : k ≤ 64) (w : World) :
    Calls Tryz.prog 94 #[.int .u64 x, .int .i64 k] w fun e w' => e = .returned (.int .u64 (xsI x ((2 ^ k : Nat) : Int))) ∧ w' = w := by
  go_enter Tryz.func94, Tryz.ntmps94
  go_wp2
  go_loop [5, 6] (fun y i => ∃ j : Nat, j ≤ k ∧ i = .int .i64 j ∧ y = .int .u64 (x / ((2 ^ j : Nat) : Int))) (fun _ i => k - (intOf i).toNat)
  case atStart => exact ⟨0, Nat.zero_le _, rfl, by simp⟩
  case round =>
    obtain ⟨j, hj, rfl, rfl⟩ := hrel
    by_cases hlt : j < k
    · have HY : Hid (IntKind.u64.wrap ((x / ((2 ^ j : Nat) : Int)).tdiv 2) = x / ((2 ^ (j + 1) : Nat) : Int)) := by
        show _ = _
        rw [wrap_quo2 _ (wf_div x (2 ^ j) h), half_pow x j (bounds_u64 h).1]
      generalize hyy : x / ((2 ^ j : Nat) : Int) = y at *
      clear hyy
      go_wp2
      go_round
      case rel => exact ⟨j + 1, by omega, by go_num, by rw [← HY.out]⟩
      case measure => simp [intOf]; omega
    · have hjk : j = k := by omega
      subst hjk
      go_wp2
      go_ret
      exact ⟨rfl, rfl⟩
theorem wf_xsI (x d : Int) : (Lit.int .u64 (xsI x d)).wf = true := wf_bits _ _ _ _
theorem wf_mixI (x : Int) : (Lit.int .u64 (mixI x)).wf = true := by unfold mixI; exact wf_xsI _ _
set_option maxHeartbeats 400000 in
theorem refmix_any (x : Int) (h : (Lit.int .u64 x).wf = true) (w : World) :
    Calls Tryz.prog 64 #[.int .u64 x] w fun e w' => e = .returned (.int .u64 (mixI x)) ∧ w' = w := by
  go_enter Tryz.func64, Tryz.ntmps64
  go_wp2_with fail
  refine (half_any x 30 h (by omega) _).mono ?_
  rintro e w' ⟨rfl, rfl⟩
  go_wp2_with fail
  refine (half_any _ 27 (wf_wrap _ _) (by omega) _).mono ?_
  rintro e w' ⟨rfl, rfl⟩
  go_wp2_with fail
  refine (half_any _ 31 (wf_wrap _ _) (by omega) _).mono ?_
  rintro e w' ⟨rfl, rfl⟩
  go_wp2_with fail
  go_ret
  exact ⟨rfl, rfl⟩
theorem reftwo_any (x y : Int) (h : (Lit.int .u64 x).wf = true) (w : World) :
    Calls Tryz.prog 89 #[.int .u64 x, .int .u64 y] w fun e w' => e = .returned (.int .u64 (twoI x y)) ∧ w' = w := by
  go_enter Tryz.func89, Tryz.ntmps89
  go_wp2_with fail
  refine (refmix_any x h _).mono ?_
  rintro e w' ⟨rfl, rfl⟩
  go_wp2_with fail
  refine (refmix_any _ (wf_bits _ _ _ _) _).mono ?_
  rintro e w' ⟨rfl, rfl⟩
  go_wp2_with fail
  go_ret
  exact ⟨rfl, rfl⟩
end Go.Proofs.YthgbdaladngpdaaGreat

/- Contracts of the program's and the reference's functions on texts: a text's number and its range, as plain functions of the bytes. The text has at most as many bytes as a text may have. -/
namespace Go.Proofs.YthgbdaladngpdaaGreat
open Go.ChangeShapes Go.WideShapes Go.ChangeAt Go.RowKit
set_option linter.unusedVariables false
set_option maxRecDepth 100000

def foldT (l : List UInt8) : Int := l.foldl (fun h c => mixI (bits .xor .u64 h (IntKind.u64.wrap (c.toNat : Int)))) 11400714819323198485
def textI (l : List UInt8) (n : Int) : Int := mixI (bits .xor .u64 (foldT l) n)
theorem foldT_snoc (l : List UInt8) (c : UInt8) : foldT (l ++ [c]) = mixI (bits .xor .u64 (foldT l) (IntKind.u64.wrap (c.toNat : Int))) := by
  unfold foldT; rw [List.foldl_append]; rfl
theorem one_more {k : Nat} {s : ByteArray} (h : k < s.size) : s.data.toList.take k ++ [s[k]] = s.data.toList.take (k + 1) :=
  (List.take_succ_eq_append_getElem (l := s.data.toList) (by simpa using h)).symm
theorem text_any (s : ByteArray) (hs : s.size ≤ maxLen) (w : World) :
    Calls Tryz.prog 90 #[.string s] w fun e w' => e = .returned (.int .u64 (textI s.data.toList s.size)) ∧ w' = w := by
  unfold maxLen at hs
  go_enter Tryz.func90, Tryz.ntmps90
  go_wp2
  go_loop [3, 4, 7] (fun h i j => ∃ k : Nat, k ≤ s.size ∧ j = .int .i64 k ∧ h = .int .u64 (foldT (s.data.toList.take k))) (fun _ _ j => s.size - (intOf j).toNat)
  case atStart => exact ⟨0, Nat.zero_le _, rfl, rfl⟩
  case round =>
    obtain ⟨k, hk, rfl, rfl⟩ := hrel
    by_cases hlt : k < s.size
    · have HS : Hid (foldT (s.data.toList.take (k + 1)) = mixI (bits .xor .u64 (foldT (s.data.toList.take k)) (IntKind.u64.wrap (s[k].toNat : Int)))) := by
        show _ = _
        rw [← one_more hlt, foldT_snoc]
      generalize hh : foldT (s.data.toList.take k) = h at *
      clear hh
      go_wp2_with (go_at_call 110; refine (mix_any _ _).mono ?_; rintro e w' ⟨rfl, rfl⟩)
      go_round
      case rel => exact ⟨k + 1, by omega, by go_num, by rw [HS.out]⟩
      case measure => simp [intOf]; omega
    · have hkk : k = s.size := by omega
      subst hkk
      rw [List.take_of_length_le (by simp)]
      go_wp2_with (go_at_call 110; refine (mix_any _ _).mono ?_; rintro e w' ⟨rfl, rfl⟩)
      go_ret
      refine ⟨mret_int ?_, rfl⟩
      rfl
theorem reftext_any (s : ByteArray) (hs : s.size ≤ maxLen) (w : World) :
    Calls Tryz.prog 35 #[.string s] w fun e w' => e = .returned (.int .u64 (textI s.data.toList s.size)) ∧ w' = w := by
  unfold maxLen at hs
  go_enter Tryz.func35, Tryz.ntmps35
  go_wp2
  go_loop [3, 4] (fun h j => ∃ k : Nat, k ≤ s.size ∧ j = .int .i64 k ∧ h = .int .u64 (foldT (s.data.toList.take k))) (fun _ j => s.size - (intOf j).toNat)
  case atStart => exact ⟨0, Nat.zero_le _, rfl, rfl⟩
  case round =>
    obtain ⟨k, hk, rfl, rfl⟩ := hrel
    by_cases hlt : k < s.size
    · have HS : Hid (foldT (s.data.toList.take (k + 1)) = mixI (bits .xor .u64 (foldT (s.data.toList.take k)) (IntKind.u64.wrap (s[k].toNat : Int)))) := by
        show _ = _
        rw [← one_more hlt, foldT_snoc]
      generalize hh : foldT (s.data.toList.take k) = h at *
      clear hh
      go_wp2_with (go_at_call 64; refine (refmix_any _ (wf_bits _ _ _ _) _).mono ?_; rintro e w' ⟨rfl, rfl⟩)
      go_round
      case rel => exact ⟨k + 1, by omega, by go_num, by rw [HS.out]⟩
      case measure => simp [intOf]; omega
    · have hkk : k = s.size := by omega
      subst hkk
      rw [List.take_of_length_le (by simp)]
      go_wp2_with (go_at_call 64; refine (refmix_any _ (wf_bits _ _ _ _) _).mono ?_; rintro e w' ⟨rfl, rfl⟩)
      go_ret
      refine ⟨mret_int ?_, rfl⟩
      rfl
theorem wf_textI (l : List UInt8) (n : Int) : (Lit.int .u64 (textI l n)).wf = true := wf_mixI _


end Go.Proofs.YthgbdaladngpdaaGreat

/- What a law's call may leave: nothing turned of what was there (Kept). Then its row's end follows, whatever its arguments lead to: each reads as it did. -/
namespace Go.Proofs.YthgbdaladngpdaaGreat
open Go.ChangeShapes Go.WideShapes Go.RowKit

def Kept (W w : World) : Prop := W.keptBut w (fun _ => False) ∧ W.heap.size ≤ w.heap.size
theorem kept_refl (W : World) : Kept W W := ⟨World.keptBut_refl _ _, Nat.le_refl _⟩
theorem kept_trans {u v w : World} (g : Kept u v) (h : Kept v w) : Kept u w := ⟨World.keptBut_trans g.1 h.1, Nat.le_trans g.2 h.2⟩
theorem kept_block {w w' : World} (g : Kept w w') {i : Nat} (hi : i < w.heap.size) : w'.heap[i]? = w.heap[i]? := World.keptBut.block g.1 hi (fun _ h => h.elim)
theorem kept_of {W w : World} (h1 : w.os = W.os) (h2 : w.output = W.output) (h3 : W.heap.size ≤ w.heap.size) (h4 : ∀ i, i < W.heap.size → w.heap[i]? = W.heap[i]?) : Kept W w := by
  refine ⟨⟨h1, h2, fun i hi => ?_⟩, h3⟩
  rw [h4 i hi]
  split <;> simp_all
theorem kept_os {W w : World} (h : Kept W w) : w.os = W.os := h.1.1
theorem kept_output {W w : World} (h : Kept W w) : w.output = W.output := h.1.2.1
theorem kept_cell {w w' : World} (g : Kept w w') {b o : Nat} (hb : b < w.heap.size) : w'.cell? ⟨b, o, none⟩ = w.cell? ⟨b, o, none⟩ := World.cell?_of_block (w := w) (kept_block g hb)
theorem kept_same {w w' : World} (g : Kept w w') {p : MemPlace} (hp : p.block < w.heap.size) : w.sameAt w' p := by
  cases p with
  | cell b o => exact kept_cell g hp
  | map b => exact kept_block g hp

section
variable {H : Type} {enc : TypeId × Value → H} {P : Program}
theorem trodAll_stays (hl : laidOutB P = true) {W W' : World} {sp : Nat → Bool} (hk : Kept W W') :
    ∀ {ts : List TypeId} {vs : List Value} {ds : List (DataW H)} {ps : List MemPlace}, (∀ t ∈ ts, P.readableRec t = true ∧ t < P.types.size) → DataW.TrodAll enc P W 0 (fun _ => true) true ts vs ds ps → (∀ p ∈ ps, p.block < W.heap.size) → (∀ p ∈ ps, sp p.block = true) → DataW.TrodAll enc P W' 0 sp true ts vs ds ps
  | [], _, _, _, _, h, _, _ => by
    obtain ⟨rfl, rfl, rfl⟩ := trodAll_nil h
    exact trodAll_mk0
  | t :: ts, _, _, _, hr, h, hlt, hs => by
    obtain ⟨v, vs, d, ds, p, q, rfl, rfl, rfl, h0, h1⟩ := trodAll_cons h
    obtain ⟨r1, r2⟩ := hr t (List.mem_cons.2 (.inl rfl))
    refine ⟨p, q, ?_, trodAll_stays hl hk (fun t ht => hr t (List.mem_cons.2 (.inr ht))) h1 (fun x hx => hlt x (List.mem_append_right _ hx)) (fun x hx => hs x (List.mem_append_right _ hx)), rfl⟩
    exact Go.WideElems.Trod_stays hl r1 r2 h0 (fun x hx => kept_same hk (hlt x (List.mem_append_left _ hx))) (fun x hx => hs x (List.mem_append_left _ hx))
variable {W W' : World} {before : List MemPlace} {ds gs : List (DataW H)} {v : Value} {s : ChangeSpec} {f : Func} {args : Array Value} {handsOn fresh apart : Bool}
theorem post_kept
    (hl : laidOutB P = true) (hr : ∀ t ∈ f.params.toList, P.readableRec t = true ∧ t < P.types.size) (hno : s.vars = [])
    (hW : DataW.Whole enc P f.params.toList s.vars apart W args.toList ds gs before)
    (hres : ∀ (b : Nat) (sp : Nat → Bool) (hd : Bool), DataW.TrodAll enc P W' b sp hd f.resultTypes.toList (v.resultList f.resultTypes.size) (s.fn H (ds ++ gs)).results [])
    (hargs : (s.fn H (ds ++ gs)).args = ds) (hvars : (s.fn H (ds ++ gs)).vars = [])
    (hk : Kept W W') : s.post enc P f apart fresh handsOn false W args v W' := by
  have hlt := hW.lt
  have hW' := hW
  obtain ⟨p, q, hA, hV, rfl, hfz, hnd⟩ := hW
  refine ⟨ds, gs, p ++ q, [], p, [], hW', hres _ _ _, ?_, ?_, World.keptBut_mono (fun _ h => h.elim) hk.1, fun h => by cases h⟩
  · rw [hargs]
    exact trodAll_stays hl hk hr hA (fun x hx => hlt x (List.mem_append_left _ hx)) (fun x hx => by simpa using hlt x (List.mem_append_left _ hx))
  · rw [hno, hvars]; rfl
end
end Go.Proofs.YthgbdaladngpdaaGreat

/- Blocks of memory that are known whole, and what a call may turn: one block at most (Turn). No condition. -/
namespace Go.Proofs.YthgbdaladngpdaaGreat
open Go.ChangeShapes Go.WideShapes Go.ChangeAt Go.RowKit
set_option linter.unusedVariables false
set_option maxRecDepth 100000
set_option linter.unusedSimpArgs false

theorem kept_below {w w' : World} (h : Below w.heap.size w w') : Kept w w' := kept_of h.os h.output h.size (fun i hi => h.block i hi)
theorem kept_alloc {W w : World} (h : Kept W w) (o : Obj) : Kept W (w.alloc o) := kept_trans h (kept_below ((Below.refl _ w).alloc (Nat.le_refl _) o))
theorem kept_set {W w : World} (h : Kept W w) {X : Nat} (hX : W.heap.size ≤ X) (o : Nat) (v : Value) : Kept W (w.setCell ⟨X, o, none⟩ v) :=
  kept_of (show w.os = W.os from kept_os h) (show w.output = W.output from kept_output h) (by simpa [World.setCell] using h.2) (fun i hi => (Below.heap_setCell _ _ _ _ (by show i ≠ X; omega)).trans (kept_block h hi))
theorem kept_drew {W w : World} (h : Kept W w) : Kept W w.drew := h

def At (w : World) (X : Nat) (cs : Array Value) (T : Nat) : Prop := w.heap[X]? = some (.cells cs T)
section
variable {w w' : World} {X Y T U : Nat} {cs ds : Array Value}
theorem at_lt (h : At w X cs T) : X < w.heap.size := (Array.getElem?_eq_some_iff.1 h).1
theorem at_kept (h : At w X cs T) (k : Kept w w') : At w' X cs T := (kept_block k (at_lt h)).trans h
theorem at_new (w : World) (cs : Array Value) (T : Nat) : At (w.alloc (.cells cs T)) w.heap.size cs T := by
  show (w.heap.push _)[w.heap.size]? = _
  simp
theorem at_alloc (h : At w X cs T) (o : Obj) : At (w.alloc o) X cs T := at_kept h (kept_alloc (kept_refl w) o)
theorem at_drew (h : At w X cs T) : At w.drew X cs T := h
theorem at_ne (h : At w X cs T) (k : At w Y ds U) (hTU : T ≠ U) : X ≠ Y := by
  rintro rfl
  unfold At at h k
  rw [h] at k
  injection k with k
  injection k with k1 k2 k3
  exact hTU k2
theorem at_other (h : At w X cs T) (hn : X ≠ Y) (o : Nat) (v : Value) : At (w.setCell ⟨Y, o, none⟩ v) X cs T := (Below.heap_setCell _ _ _ _ hn).trans h
theorem at_set (h : At w X cs T) (o : Nat) (v : Value) : At (w.setCell ⟨X, o, none⟩ v) X (cs.setIfInBounds o v) T := by
  unfold At at *
  show (w.heap.modify X _)[X]? = _
  rw [Array.getElem?_modify, if_pos rfl, h]
  rfl
theorem at_cell (h : At w X cs T) (o : Nat) : w.cell? ⟨X, o, none⟩ = cs[o]? := by
  unfold At at h
  unfold World.cell?
  rw [h]
  rfl
theorem at_frozen (h : At w X cs T) (o : Nat) : w.frozen? ⟨X, o, none⟩ = false := by
  unfold At at h
  unfold World.frozen?
  rw [h]
  simp
theorem at_cells3 {a0 a1 a2 : Value} (h : At w X #[a0, a1, a2] T) : w.cell? ⟨X, 0, none⟩ = some a0 ∧ w.cell? ⟨X, 1, none⟩ = some a1 ∧ w.cell? ⟨X, 2, none⟩ = some a2 ∧ ∀ j, w.frozen? ⟨X, j, none⟩ = false :=
  ⟨at_cell h 0, at_cell h 1, at_cell h 2, at_frozen h⟩
theorem at_cells5 {a0 a1 a2 a3 a4 : Value} (h : At w X #[a0, a1, a2, a3, a4] T) : w.cell? ⟨X, 0, none⟩ = some a0 ∧ w.cell? ⟨X, 1, none⟩ = some a1 ∧ w.cell? ⟨X, 2, none⟩ = some a2 ∧ w.cell? ⟨X, 3, none⟩ = some a3 ∧ w.cell? ⟨X, 4, none⟩ = some a4 ∧ ∀ j, w.frozen? ⟨X, j, none⟩ = false :=
  ⟨at_cell h 0, at_cell h 1, at_cell h 2, at_cell h 3, at_cell h 4, at_frozen h⟩
theorem at_cells7 {a0 a1 a2 a3 a4 a5 a6 : Value} (h : At w X #[a0, a1, a2, a3, a4, a5, a6] T) : w.cell? ⟨X, 0, none⟩ = some a0 ∧ w.cell? ⟨X, 1, none⟩ = some a1 ∧ w.cell? ⟨X, 2, none⟩ = some a2 ∧ w.cell? ⟨X, 3, none⟩ = some a3 ∧ w.cell? ⟨X, 4, none⟩ = some a4 ∧ w.cell? ⟨X, 5, none⟩ = some a5 ∧ w.cell? ⟨X, 6, none⟩ = some a6 ∧ ∀ j, w.frozen? ⟨X, j, none⟩ = false :=
  ⟨at_cell h 0, at_cell h 1, at_cell h 2, at_cell h 3, at_cell h 4, at_cell h 5, at_cell h 6, at_frozen h⟩
theorem at_cells8 {a0 a1 a2 a3 a4 a5 a6 a7 : Value} (h : At w X #[a0, a1, a2, a3, a4, a5, a6, a7] T) : w.cell? ⟨X, 0, none⟩ = some a0 ∧ w.cell? ⟨X, 1, none⟩ = some a1 ∧ w.cell? ⟨X, 2, none⟩ = some a2 ∧ w.cell? ⟨X, 3, none⟩ = some a3 ∧ w.cell? ⟨X, 4, none⟩ = some a4 ∧ w.cell? ⟨X, 5, none⟩ = some a5 ∧ w.cell? ⟨X, 6, none⟩ = some a6 ∧ w.cell? ⟨X, 7, none⟩ = some a7 ∧ ∀ j, w.frozen? ⟨X, j, none⟩ = false :=
  ⟨at_cell h 0, at_cell h 1, at_cell h 2, at_cell h 3, at_cell h 4, at_cell h 5, at_cell h 6, at_cell h 7, at_frozen h⟩
end

/- One block may have turned, all else that was there stands. -/
def Turn (c : Nat) (w w' : World) : Prop :=
  w'.os = w.os ∧ w'.output = w.output ∧ w.heap.size ≤ w'.heap.size ∧ ∀ k, k < w.heap.size → k ≠ c → w'.heap[k]? = w.heap[k]?
theorem Turn.refl (c : Nat) (w : World) : Turn c w w := ⟨rfl, rfl, Nat.le_refl _, fun _ _ _ => rfl⟩
theorem Turn.trans {c : Nat} {u v w : World} (h : Turn c u v) (k : Turn c v w) : Turn c u w :=
  ⟨k.1.trans h.1, k.2.1.trans h.2.1, Nat.le_trans h.2.2.1 k.2.2.1, fun i hi hn => (k.2.2.2 i (Nat.lt_of_lt_of_le hi h.2.2.1) hn).trans (h.2.2.2 i hi hn)⟩
theorem turn_kept {c : Nat} {w w' : World} (h : Kept w w') : Turn c w w' := ⟨kept_os h, kept_output h, h.2, fun k hk _ => kept_block h hk⟩
theorem turn_set {c : Nat} {u w : World} (h : Turn c u w) (o : Nat) (v : Value) : Turn c u (w.setCell ⟨c, o, none⟩ v) :=
  ⟨h.1, h.2.1, by simpa [World.setCell] using h.2.2.1, fun k hk hn => (Below.heap_setCell _ _ _ _ hn).trans (h.2.2.2 k hk hn)⟩
theorem turn_new {c X : Nat} {u w : World} (h : Turn c u w) (hX : u.heap.size ≤ X) (o : Nat) (v : Value) : Turn c u (w.setCell ⟨X, o, none⟩ v) :=
  ⟨h.1, h.2.1, by simpa [World.setCell] using h.2.2.1, fun k hk hn => (Below.heap_setCell _ _ _ _ (by show k ≠ X; omega)).trans (h.2.2.2 k hk hn)⟩
theorem turn_alloc {c : Nat} {u w : World} (h : Turn c u w) (o : Obj) : Turn c u (w.alloc o) := h.trans (turn_kept (kept_alloc (kept_refl w) o))
theorem turn_drew {c : Nat} {w w' : World} (h : Turn c w w') : Turn c w w'.drew := h
theorem at_turn {w w' : World} {X T c : Nat} {cs : Array Value} (h : At w X cs T) (hT : Turn c w w') (hn : X ≠ c) : At w' X cs T := (hT.2.2.2 X (at_lt h) hn).trans h
theorem kept_turn {W w w' : World} {c : Nat} (h : Kept W w) (hc : W.heap.size ≤ c) (hT : Turn c w w') : Kept W w' :=
  kept_of (hT.1.trans (kept_os h)) (hT.2.1.trans (kept_output h)) (Nat.le_trans h.2 hT.2.2.1) (fun i hi => (hT.2.2.2 i (Nat.lt_of_lt_of_le hi h.2) (by omega)).trans (kept_block h hi))


theorem hid {p : Prop} (h : p) : Hid p := h
/- What is stored is what was there. -/
theorem kept_again {W w : World} (h : Kept W w) {X T o : Nat} {cs : Array Value} {v : Value} (hA : At w X cs T) (he : cs.setIfInBounds o v = cs) : Kept W (w.setCell ⟨X, o, none⟩ v) := by
  refine kept_of (show w.os = W.os from kept_os h) (show w.output = W.output from kept_output h) (by simpa [World.setCell] using h.2) (fun i hi => ?_)
  by_cases hX : i = X
  · subst hX
    have h1 := at_set hA o v
    rw [he] at h1
    have h2 : w.heap[i]? = _ := hA
    rw [← kept_block h hi, h2]
    exact h1
  · exact (Below.heap_setCell _ _ _ _ (by show i ≠ X; exact hX)).trans (kept_block h hi)
end Go.Proofs.YthgbdaladngpdaaGreat

/- The contracts of the functions on stamps: each answers what the plain function does, and turns nothing that was there. No condition. -/
namespace Go.Proofs.YthgbdaladngpdaaGreat
open Go.ChangeShapes Go.WideShapes Go.ChangeAt Go.RowKit
set_option linter.unusedVariables false
set_option maxRecDepth 100000
set_option linter.unusedSimpArgs false

theorem ret_bool {a b : Bool} (h : a = b) : Ending.returned (.bool a) = .returned (.bool b) := by rw [h]
theorem ret_int {k : IntKind} {a b : Int} (h : a = b) : Ending.returned (.int k a) = .returned (.int k b) := by rw [h]
theorem bne_ne {a b : Int} (h : (a != b) = true) : a ≠ b := by simpa using h
theorem bne_eq {a b : Int} (h : (a != b) = false) : a = b := by simpa using h
theorem lt_first {a b : Stp} (h : a.p ≠ b.p) : decide (a.p < b.p) = lt a b := by
  rw [Bool.eq_iff_iff, lt_iff]; unfold Lt; simp; omega
theorem lt_second {a b : Stp} (h : a.p = b.p) (k : a.l ≠ b.l) : decide (a.l < b.l) = lt a b := by
  rw [Bool.eq_iff_iff, lt_iff]; unfold Lt; simp; omega
theorem lt_third {a b : Stp} (h : a.p = b.p) (k : a.l = b.l) : decide (a.n < b.n) = lt a b := by
  rw [Bool.eq_iff_iff, lt_iff]; unfold Lt; simp; omega
theorem ahead_any (a b : Stp) (w : World) :
    Calls Tryz.prog 97 #[.agg #[.int .u64 a.p, .int .u32 a.l, .int .u8 a.n], .agg #[.int .u64 b.p, .int .u32 b.l, .int .u8 b.n]] w fun e w' => e = .returned (.bool (lt a b)) ∧ Kept w w' := by
  have HK : Hid (Kept w ((w.alloc (.cells #[.int .u64 a.p, .int .u32 a.l, .int .u8 a.n] 33)).alloc (.cells #[.int .u64 b.p, .int .u32 b.l, .int .u8 b.n] 33))) := kept_alloc (kept_alloc (kept_refl w) _) _
  by_cases h1 : a.p = b.p
  · by_cases h2 : a.l = b.l
    · have g1 : (a.p != b.p) = false := by simpa using h1
      have g2 : (a.l != b.l) = false := by simpa using h2
      have H : Hid (decide (a.n < b.n) = lt a b) := lt_third h1 h2
      clear h1 h2
      go_enter Tryz.func97, Tryz.ntmps97
      go_wp2
      go_ret
      exact ⟨ret_bool H.out, HK.out⟩
    · have g1 : (a.p != b.p) = false := by simpa using h1
      have g2 : (a.l != b.l) = true := by simpa using h2
      have H : Hid (decide (a.l < b.l) = lt a b) := lt_second h1 h2
      clear h1 h2
      go_enter Tryz.func97, Tryz.ntmps97
      go_wp2
      go_ret
      exact ⟨ret_bool H.out, HK.out⟩
  · have g1 : (a.p != b.p) = true := by simpa using h1
    have H : Hid (decide (a.p < b.p) = lt a b) := lt_first h1
    clear h1
    go_enter Tryz.func97, Tryz.ntmps97
    go_wp2
    go_ret
    exact ⟨ret_bool H.out, HK.out⟩
theorem less_any (a b : Stp) (w : World) :
    Calls Tryz.prog 47 #[.agg #[.int .u64 a.p, .int .u32 a.l, .int .u8 a.n], .agg #[.int .u64 b.p, .int .u32 b.l, .int .u8 b.n]] w fun e w' => e = .returned (.bool (lt a b)) ∧ Kept w w' := by
  have HK : Hid (Kept w ((w.alloc (.cells #[.int .u64 a.p, .int .u32 a.l, .int .u8 a.n] 33)).alloc (.cells #[.int .u64 b.p, .int .u32 b.l, .int .u8 b.n] 33))) := kept_alloc (kept_alloc (kept_refl w) _) _
  by_cases h1 : a.p = b.p
  · by_cases h2 : a.l = b.l
    · have g1 : (a.p != b.p) = false := by simpa using h1
      have g2 : (a.l != b.l) = false := by simpa using h2
      have H : Hid (decide (a.n < b.n) = lt a b) := lt_third h1 h2
      clear h1 h2
      go_enter Tryz.func47, Tryz.ntmps47
      go_wp2
      go_ret
      exact ⟨ret_bool H.out, HK.out⟩
    · have g1 : (a.p != b.p) = false := by simpa using h1
      have g2 : (a.l != b.l) = true := by simpa using h2
      have H : Hid (decide (a.l < b.l) = lt a b) := lt_second h1 h2
      clear h1 h2
      go_enter Tryz.func47, Tryz.ntmps47
      go_wp2
      go_ret
      exact ⟨ret_bool H.out, HK.out⟩
  · have g1 : (a.p != b.p) = true := by simpa using h1
    have H : Hid (decide (a.p < b.p) = lt a b) := lt_first h1
    clear h1
    go_enter Tryz.func47, Tryz.ntmps47
    go_wp2
    go_ret
    exact ⟨ret_bool H.out, HK.out⟩
theorem eq_stamp (a b : Stp) (w : World) : (Op.equalIn 10000 33 (.agg #[.int .u64 a.p, .int .u32 a.l, .int .u8 a.n]) (.agg #[.int .u64 b.p, .int .u32 b.l, .int .u8 b.n])).run Tryz.prog w = .ok (same a b) w := by
  go_simp
  unfold same
  by_cases h1 : a.p = b.p <;> by_cases h2 : a.l = b.l <;> by_cases h3 : a.n = b.n <;> simp [h1, h2, h3]
theorem compare_any (a b : Stp) (w : World) :
    Calls Tryz.prog 70 #[.agg #[.int .u64 a.p, .int .u32 a.l, .int .u8 a.n], .agg #[.int .u64 b.p, .int .u32 b.l, .int .u8 b.n]] w fun e w' => e = .returned (.int .i64 (cmp a b)) ∧ Kept w w' := by
  have HK : Hid (Kept w ((w.alloc (.cells #[.int .u64 a.p, .int .u32 a.l, .int .u8 a.n] 33)).alloc (.cells #[.int .u64 b.p, .int .u32 b.l, .int .u8 b.n] 33))) := kept_alloc (kept_alloc (kept_refl w) _) _
  have hE := eq_stamp a b
  by_cases h : a = b
  · have hs : same a b = true := (same_iff a b).2 h
    have hC : Hid (0 = cmp a b) := ((cmp_zero a b).2 h).symm
    clear h
    go_enter Tryz.func70, Tryz.ntmps70
    go_wp2_with fail
    go_ret
    exact ⟨ret_int hC.out, HK.out⟩
  · have hs : same a b = false := (same_false a b).2 h
    by_cases hl : Lt a b
    · have hC : Hid (-1 = cmp a b) := (cmp_lt hl).symm
      have hL : lt a b = true := (lt_iff a b).2 hl
      clear h hl
      go_enter Tryz.func70, Tryz.ntmps70
      go_wp2_with fail
      refine (ahead_any a b _).mono ?_
      rintro e w1 ⟨rfl, h1⟩
      have K1 := kept_trans HK.out h1
      go_wp2_with fail
      go_ret
      exact ⟨ret_int hC.out, K1⟩
    · have hC : Hid (1 = cmp a b) := (cmp_gt (Classical.byContradiction fun hn => h (lt_total hl hn))).symm
      have hL : lt a b = false := (lt_false a b).2 hl
      clear h hl
      go_enter Tryz.func70, Tryz.ntmps70
      go_wp2_with fail
      refine (ahead_any a b _).mono ?_
      rintro e w1 ⟨rfl, h1⟩
      have K1 := kept_trans HK.out h1
      go_wp2_with fail
      go_ret
      exact ⟨ret_int hC.out, K1⟩

end Go.Proofs.YthgbdaladngpdaaGreat

/- The contracts of the functions on one record: which keys and records may be, which are live. Each answers what the plain function does and turns nothing that was there. -/
namespace Go.Proofs.YthgbdaladngpdaaGreat
open Go.ChangeShapes Go.WideShapes Go.ChangeAt Go.RowKit
set_option linter.unusedVariables false
set_option maxRecDepth 100000
set_option linter.unusedSimpArgs false

theorem key_bad (s : ByteArray) (k : Nat) (hk : k < s.size) (h : good s[k] = false) : keyMay s = false := by
  have hl : k < s.data.toList.length := by simpa using hk
  have : s.data.toList.all good = false := by
    rw [List.all_eq_false]
    exact ⟨s.data.toList[k], List.getElem_mem hl, by
      have : s.data.toList[k] = s[k] := rfl
      rw [this, h]; simp⟩
  unfold keyMay
  rw [this, Bool.and_false]
theorem key_short (s : ByteArray) (h : s.size < 1) : keyMay s = false := by
  unfold keyMay
  rw [show decide (1 ≤ s.size) = false from decide_eq_false (by omega)]; simp
theorem key_long (s : ByteArray) (h : 250 < s.size) : keyMay s = false := by
  unfold keyMay
  rw [show decide (s.size ≤ 250) = false from decide_eq_false (by omega)]; simp
theorem key_good (s : ByteArray) (h1 : 1 ≤ s.size) (h2 : s.size ≤ 250) (h : ∀ k (hk : k < s.size), good s[k] = true) : keyMay s = true := by
  have : s.data.toList.all good = true := by
    rw [List.all_eq_true]
    intro c hc
    obtain ⟨k, hk, rfl⟩ := List.getElem_of_mem hc
    exact h k (by simpa using hk)
  unfold keyMay
  rw [this]; simp [h1, h2]
theorem good_low (c : UInt8) (h : (c.toNat : Int) ≤ 32) : good c = false := by
  unfold good; simp; omega
theorem good_del (c : UInt8) (h : (c.toNat : Int) = 127) : good c = false := by
  unfold good; simp; omega
theorem good_not (c : UInt8) (h : ¬ (c.toNat : Int) ≤ 32) (k : ¬ (c.toNat : Int) = 127) : good c = true := by
  unfold good; simp; omega
set_option maxHeartbeats 1600000 in
theorem KeyMay_any (s : ByteArray) (hs : s.size ≤ maxLen) (w : World) :
    Calls Tryz.prog 65 #[.string s] w fun e w' => e = .returned (.bool (keyMay s)) ∧ w' = w := by
  unfold maxLen at hs
  by_cases h1 : (s.size : Int) < 1
  · have HE : Hid (false = keyMay s) := (key_short s (by omega)).symm
    go_enter Tryz.func65, Tryz.ntmps65
    go_wp2
    go_ret
    exact ⟨ret_bool HE.out, rfl⟩
  by_cases h2 : (250 : Int) < (s.size : Int)
  · have HE : Hid (false = keyMay s) := (key_long s (by omega)).symm
    go_enter Tryz.func65, Tryz.ntmps65
    go_wp2
    go_ret
    exact ⟨ret_bool HE.out, rfl⟩
  have H1 : Hid (1 ≤ s.size ∧ s.size ≤ 250) := ⟨by omega, by omega⟩
  have d1 : decide ((s.size : Int) < 1) = false := by simpa using h1
  have d2 : decide ((250 : Int) < (s.size : Int)) = false := by simpa using h2
  clear h1 h2
  go_enter Tryz.func65, Tryz.ntmps65
  go_wp2
  go_loop [3, 14] (fun i j => ∃ k : Nat, k ≤ s.size ∧ j = .int .i64 k ∧ Hid (∀ q (hq : q < s.size), q < k → good s[q] = true)) (fun _ j => s.size - (intOf j).toNat)
  case atStart => exact ⟨0, Nat.zero_le _, rfl, fun q _ hq => absurd hq (by omega)⟩
  case round =>
    obtain ⟨k, hk, rfl, HG⟩ := hrel
    by_cases hlt : k < s.size
    · by_cases c1 : (s[k].toNat : Int) ≤ 32
      · have HE : Hid (false = keyMay s) := (key_bad s k hlt (good_low _ c1)).symm
        go_wp2
        go_ret
        exact ⟨ret_bool HE.out, rfl⟩
      · by_cases c2 : (s[k].toNat : Int) = 127
        · have HE : Hid (false = keyMay s) := (key_bad s k hlt (good_del _ c2)).symm
          go_wp2
          go_ret
          exact ⟨ret_bool HE.out, rfl⟩
        · have HN : Hid (∀ q (hq : q < s.size), q < k + 1 → good s[q] = true) := fun q hq hl => by
            rcases (show q < k ∨ q = k by omega) with h | rfl
            · exact HG.out q hq h
            · exact good_not _ c1 c2
          go_wp2
          go_round
          case rel => exact ⟨k + 1, by omega, by go_num, HN⟩
          case measure => simp [intOf]; omega
    · have HE : Hid (true = keyMay s) := (key_good s H1.out.1 H1.out.2 (fun q hq => HG.out q hq (by omega))).symm
      go_wp2
      go_ret
      exact ⟨ret_bool HE.out, rfl⟩
set_option maxHeartbeats 1600000 in
theorem refKeyMay_any (s : ByteArray) (hs : s.size ≤ maxLen) (w : World) :
    Calls Tryz.prog 81 #[.string s] w fun e w' => e = .returned (.bool (keyMay s)) ∧ w' = w := by
  unfold maxLen at hs
  by_cases h1 : (s.size : Int) = 0
  · have HE : Hid (false = keyMay s) := (key_short s (by omega)).symm
    go_enter Tryz.func81, Tryz.ntmps81
    go_wp2
    go_ret
    exact ⟨ret_bool HE.out, rfl⟩
  have d1 : ((s.size : Int) == 0) = false := by simpa using h1
  by_cases h2 : (250 : Int) < (s.size : Int)
  · have HE : Hid (false = keyMay s) := (key_long s (by omega)).symm
    clear h1
    go_enter Tryz.func81, Tryz.ntmps81
    go_wp2
    go_ret
    exact ⟨ret_bool HE.out, rfl⟩
  have H1 : Hid (1 ≤ s.size ∧ s.size ≤ 250) := ⟨by omega, by omega⟩
  have d2 : decide ((250 : Int) < (s.size : Int)) = false := by simpa using h2
  clear h1 h2
  go_enter Tryz.func81, Tryz.ntmps81
  go_wp2
  go_loop [3] (fun j => ∃ k : Nat, k ≤ s.size ∧ j = .int .i64 k ∧ Hid (∀ q (hq : q < s.size), q < k → good s[q] = true)) (fun j => s.size - (intOf j).toNat)
  case atStart => exact ⟨0, Nat.zero_le _, rfl, fun q _ hq => absurd hq (by omega)⟩
  case round =>
    obtain ⟨k, hk, rfl, HG⟩ := hrel
    by_cases hlt : k < s.size
    · by_cases c1 : (s[k].toNat : Int) < 33
      · have HE : Hid (false = keyMay s) := (key_bad s k hlt (good_low _ (by omega))).symm
        go_wp2
        go_ret
        exact ⟨ret_bool HE.out, rfl⟩
      · by_cases c2 : (s[k].toNat : Int) = 127
        · have HE : Hid (false = keyMay s) := (key_bad s k hlt (good_del _ c2)).symm
          go_wp2
          go_ret
          exact ⟨ret_bool HE.out, rfl⟩
        · have HN : Hid (∀ q (hq : q < s.size), q < k + 1 → good s[q] = true) := fun q hq hl => by
            rcases (show q < k ∨ q = k by omega) with h | rfl
            · exact HG.out q hq h
            · exact good_not _ (by omega) c2
          go_wp2
          go_round
          case rel => exact ⟨k + 1, by omega, by go_num, HN⟩
          case measure => simp [intOf]; omega
    · have HE : Hid (true = keyMay s) := (key_good s H1.out.1 H1.out.2 (fun q hq => HG.out q hq (by omega))).symm
      go_wp2
      go_ret
      exact ⟨ret_bool HE.out, rfl⟩
theorem stampMay_any (s : Stp) (w : World) :
    Calls Tryz.prog 66 #[.agg #[.int .u64 s.p, .int .u32 s.l, .int .u8 s.n]] w fun e w' => e = .returned (.bool (stampMay s)) ∧ Kept w w' := by
  have HK : Hid (Kept w (w.alloc (.cells #[.int .u64 s.p, .int .u32 s.l, .int .u8 s.n] 33))) := kept_alloc (kept_refl w) _
  by_cases h1 : s.p ≤ 281474976710655
  · have HE : Hid (decide (s.n < 64) = stampMay s) := by show _ = _; unfold stampMay; simp [h1]
    go_enter Tryz.func66, Tryz.ntmps66
    go_wp2
    go_ret
    exact ⟨ret_bool HE.out, HK.out⟩
  · have HE : Hid (false = stampMay s) := by show _ = _; unfold stampMay; simp [h1]
    go_enter Tryz.func66, Tryz.ntmps66
    go_wp2
    go_ret
    exact ⟨ret_bool HE.out, HK.out⟩
end Go.Proofs.YthgbdaladngpdaaGreat
