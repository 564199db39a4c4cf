/- The plain mathematics of records: which may be, how two stand to each other, their join. No condition but those that are stated. -/
import Derived.Test.YtjmldnbepajnoaaRStMath
import Derived.Lib.Bytealg
import Derived.OpenShut
namespace Go.Proofs.YtjmldnbepajnoaaR
set_option linter.unusedVariables false
set_option maxRecDepth 100000
set_option linter.unusedSimpArgs false

structure R where
  key : ByteArray
  s : Stp
  kind : Int
  flags : Int
  exp : Int
  body : ByteArray
theorem R.ext' {a b : R} (h1 : a.key = b.key) (h2 : a.s = b.s) (h3 : a.kind = b.kind) (h4 : a.flags = b.flags) (h5 : a.exp = b.exp) (h6 : a.body = b.body) : a = b := by
  cases a; cases b; simp_all
/- A record that can be handed in. -/
def R.ok (r : R) : Prop := r.key.size ≤ maxLen ∧ r.s.ok ∧ (0 ≤ r.kind ∧ r.kind < 256) ∧ (0 ≤ r.flags ∧ r.flags < 4294967296) ∧ (0 ≤ r.exp ∧ r.exp < 18446744073709551616) ∧ r.body.size ≤ maxLen
def zeroR : R := ⟨⟨#[]⟩, zero, 0, 0, 0, ⟨#[]⟩⟩
/- A byte that may stand in a key. -/
def good (c : UInt8) : Bool := decide (32 < c.toNat) && decide (c.toNat ≠ 127)
def keyMay (k : ByteArray) : Bool := decide (1 ≤ k.size) && decide (k.size ≤ 250) && k.data.toList.all good
def stampMay (s : Stp) : Bool := decide (s.p ≤ 281474976710655) && decide (s.n < 64)
def contentMay (r : R) : Bool :=
  if r.kind = 1 ∨ r.kind = 2 then decide (r.flags = 0) && (decide (r.exp = 0) && decide (r.body.size = 0))
  else if r.kind = 3 then decide (r.exp ≤ 281474976710655) && decide (r.body.size ≤ 1024)
  else false
def mayR (r : R) : Bool := keyMay r.key && (stampMay r.s && contentMay r)
def liveR (r : R) (t : Int) : Bool := decide (r.kind = 3) && (decide (r.exp = 0) || decide (t < r.exp))

/- -1, 0, 1. -/
def cmpI (a b : Int) : Int := if a < b then -1 else if b < a then 1 else 0
def cmpB (a b : ByteArray) : Int := Lib.compareBytes a.data.toList b.data.toList
def orI (x y : Int) : Int := if x = 0 then y else x
def cmpR (a b : R) : Int := orI (cmp a.s b.s) (orI (cmpI a.kind b.kind) (orI (cmpB a.body b.body) (orI (cmpI a.flags b.flags) (cmpI a.exp b.exp))))
def joinR (a b : R) : R := if cmpR a b < 0 then b else a

/- What a comparison is: it turns its sign; it goes on. -/
structure Good {α : Type} (c : α → α → Int) : Prop where
  one : ∀ a b, c a b = -1 ∨ c a b = 0 ∨ c a b = 1
  neg : ∀ a b, c b a = - c a b
  tr : ∀ a b d, c a b ≤ 0 → c b d ≤ 0 → c a d ≤ 0 ∧ (c a d < 0 ↔ c a b < 0 ∨ c b d < 0)
theorem good_or {α : Type} {c d : α → α → Int} (hc : Good c) (hd : Good d) : Good fun a b => orI (c a b) (d a b) := by
  refine ⟨fun a b => ?_, fun a b => ?_, fun a b e h1 h2 => ?_⟩
  · have := hc.one a b; have := hd.one a b
    unfold orI; split <;> omega
  · have := hc.neg a b; have := hd.neg a b
    unfold orI
    by_cases h : c a b = 0
    · rw [if_pos h, if_pos (by omega)]; omega
    · rw [if_neg h, if_neg (by omega)]; omega
  · have t1 := hc.tr a b e
    have t2 := hd.tr a b e
    unfold orI at *
    by_cases k1 : c a b = 0
    · rw [if_pos k1] at h1
      by_cases k2 : c b e = 0
      · rw [if_pos k2] at h2
        have k3 : c a e = 0 := by
          have := (t1 (by omega) (by omega)).1
          have := hc.tr e b a (by rw [hc.neg b e]; omega) (by rw [hc.neg a b]; omega)
          rw [hc.neg a e] at this
          omega
        rw [if_pos k1, if_pos k2, if_pos k3]
        exact t2 h1 h2
      · rw [if_neg k2] at h2
        have := t1 (by omega) (by omega)
        rw [if_pos k1, if_neg k2]
        have k3 : c a e < 0 := this.2.2 (.inr (by omega))
        rw [if_neg (by omega)]
        refine ⟨by omega, fun _ => .inr (by omega), fun _ => k3⟩
    · rw [if_neg k1] at h1
      have h2' : c b e ≤ 0 := by
        by_cases k2 : c b e = 0
        · omega
        · rw [if_neg k2] at h2; omega
      have := t1 (by omega) h2'
      have k3 : c a e < 0 := this.2.2 (.inl (by omega))
      rw [if_neg k1, if_neg (by omega)]
      exact ⟨by omega, fun _ => .inl (by omega), fun _ => k3⟩
theorem good_on {α β : Type} {c : β → β → Int} (hc : Good c) (f : α → β) : Good fun a b => c (f a) (f b) :=
  ⟨fun a b => hc.one _ _, fun a b => hc.neg _ _, fun a b d => hc.tr _ _ _⟩
theorem cmpI_cases (a b : Int) : (a < b ∧ cmpI a b = -1) ∨ (a = b ∧ cmpI a b = 0) ∨ (b < a ∧ cmpI a b = 1) := by
  unfold cmpI
  by_cases h : a < b
  · rw [if_pos h]; exact .inl ⟨h, rfl⟩
  · rw [if_neg h]
    by_cases k : b < a
    · rw [if_pos k]; exact .inr (.inr ⟨k, rfl⟩)
    · rw [if_neg k]; exact .inr (.inl ⟨by omega, rfl⟩)
theorem good_int : Good cmpI := by
  refine ⟨fun a b => ?_, fun a b => ?_, fun a b d h1 h2 => ?_⟩
  · have := cmpI_cases a b; omega
  · have := cmpI_cases a b; have := cmpI_cases b a; omega
  · have := cmpI_cases a b; have := cmpI_cases b d; have := cmpI_cases a d
    omega
theorem cmpI_zero (a b : Int) : cmpI a b = 0 ↔ a = b := by
  have := cmpI_cases a b; omega
theorem cmp_parts (a b : Stp) : (Lt a b ∧ cmp a b = -1) ∨ (a = b ∧ cmp a b = 0) ∨ (Lt b a ∧ cmp a b = 1) := by
  by_cases h : Lt a b
  · exact .inl ⟨h, cmp_lt h⟩
  · by_cases k : Lt b a
    · exact .inr (.inr ⟨k, cmp_gt k⟩)
    · have := lt_total h k; subst this; exact .inr (.inl ⟨rfl, cmp_self _⟩)
theorem good_stamp : Good cmp := by
  refine ⟨cmp_cases, fun a b => cmp_neg a b, fun a b d h1 h2 => ?_⟩
  rcases cmp_parts a b with ⟨p1, e1⟩ | ⟨p1, e1⟩ | ⟨p1, e1⟩
  · rcases cmp_parts b d with ⟨p2, e2⟩ | ⟨p2, e2⟩ | ⟨p2, e2⟩
    · rw [cmp_lt (lt_trans p1 p2)]; omega
    · subst p2; omega
    · omega
  · subst p1; omega
  · omega
theorem u8_cases (a b : UInt8) : (a < b) ∨ (a = b) ∨ (b < a) := by
  simp only [UInt8.lt_iff_toNat_lt, ← UInt8.toNat_inj]; omega
theorem cb_one : ∀ a b : List UInt8, Lib.compareBytes a b = -1 ∨ Lib.compareBytes a b = 0 ∨ Lib.compareBytes a b = 1
  | [], [] => by simp [Lib.compareBytes]
  | [], _ :: _ => by simp [Lib.compareBytes]
  | _ :: _, [] => by simp [Lib.compareBytes]
  | x :: a, y :: b => by
    have := cb_one a b
    unfold Lib.compareBytes
    split
    · simp
    · split
      · simp
      · exact this
theorem cb_neg : ∀ a b : List UInt8, Lib.compareBytes b a = - Lib.compareBytes a b
  | [], [] => by simp [Lib.compareBytes]
  | [], _ :: _ => by simp [Lib.compareBytes]
  | _ :: _, [] => by simp [Lib.compareBytes]
  | x :: a, y :: b => by
    have ih := cb_neg a b
    unfold Lib.compareBytes
    rcases u8_cases x y with h | rfl | h
    · have k : ¬ y < x := by rw [UInt8.lt_iff_toNat_lt] at *; omega
      simp [h, k]
    · have k : ¬ x < x := by rw [UInt8.lt_iff_toNat_lt]; omega
      simp only [k, if_false]; exact ih
    · have k : ¬ x < y := by rw [UInt8.lt_iff_toNat_lt] at *; omega
      simp [h, k]
theorem cb_zero : ∀ a b : List UInt8, Lib.compareBytes a b = 0 ↔ a = b
  | [], [] => by simp [Lib.compareBytes]
  | [], _ :: _ => by simp [Lib.compareBytes]
  | _ :: _, [] => by simp [Lib.compareBytes]
  | x :: a, y :: b => by
    have ih := cb_zero a b
    unfold Lib.compareBytes
    rcases u8_cases x y with h | rfl | h
    · have k : x ≠ y := by rintro rfl; rw [UInt8.lt_iff_toNat_lt] at h; omega
      simp [h, k]
    · have k : ¬ x < x := by rw [UInt8.lt_iff_toNat_lt]; omega
      simp only [k, if_false, ih, List.cons.injEq, true_and]
    · have k : ¬ x < y := by rw [UInt8.lt_iff_toNat_lt] at *; omega
      have k2 : x ≠ y := by rintro rfl; rw [UInt8.lt_iff_toNat_lt] at h; omega
      simp [h, k, k2]
theorem cb_tr : ∀ a b d : List UInt8, Lib.compareBytes a b ≤ 0 → Lib.compareBytes b d ≤ 0 → Lib.compareBytes a d ≤ 0 ∧ (Lib.compareBytes a d < 0 ↔ Lib.compareBytes a b < 0 ∨ Lib.compareBytes b d < 0)
  | [], b, [] => by
    cases b with
    | nil => simp [Lib.compareBytes]
    | cons y b => simp [Lib.compareBytes]
  | [], b, z :: d => by
    cases b with
    | nil => simp [Lib.compareBytes]
    | cons y b => simp [Lib.compareBytes]
  | x :: a, [], d => by simp [Lib.compareBytes]
  | x :: a, y :: b, [] => by simp [Lib.compareBytes]
  | x :: a, y :: b, z :: d => by
    have ih := cb_tr a b d
    intro h1 h2
    unfold Lib.compareBytes at h1 h2 ⊢
    simp only [UInt8.lt_iff_toNat_lt] at *
    rcases Nat.lt_trichotomy x.toNat y.toNat with h | h | h
    · rcases Nat.lt_trichotomy y.toNat z.toNat with k | k | k
      · rw [if_pos (by omega), if_pos h, if_pos k]; omega
      · rw [if_pos (by omega), if_pos h]; omega
      · rw [if_neg (by omega), if_pos k] at h2; omega
    · rcases Nat.lt_trichotomy y.toNat z.toNat with k | k | k
      · rw [if_pos (by omega), if_pos k]; omega
      · rw [if_neg (by omega), if_neg (by omega)] at h1 h2
        rw [if_neg (by omega), if_neg (by omega), if_neg (by omega), if_neg (by omega), if_neg (by omega), if_neg (by omega)]
        exact ih h1 h2
      · rw [if_neg (by omega), if_pos k] at h2; omega
    · rw [if_neg (by omega), if_pos h] at h1; omega
theorem good_bytes : Good cmpB := ⟨fun a b => cb_one _ _, fun a b => cb_neg _ _, fun a b d => cb_tr _ _ _⟩
theorem cmpB_zero (a b : ByteArray) : cmpB a b = 0 ↔ a = b := by
  unfold cmpB
  rw [cb_zero, Array.toList_inj]
  constructor
  · intro h; cases a; cases b; simp_all
  · rintro rfl; rfl
theorem good_rec : Good cmpR :=
  good_or (good_on good_stamp R.s) (good_or (good_on good_int R.kind) (good_or (good_on good_bytes R.body) (good_or (good_on good_int R.flags) (good_on good_int R.exp))))
theorem orI_zero (x y : Int) : orI x y = 0 ↔ x = 0 ∧ y = 0 := by
  unfold orI; split <;> omega
theorem cmpR_zero (a b : R) : cmpR a b = 0 ↔ a.s = b.s ∧ a.kind = b.kind ∧ a.body = b.body ∧ a.flags = b.flags ∧ a.exp = b.exp := by
  unfold cmpR
  rw [orI_zero, orI_zero, orI_zero, orI_zero, cmp_zero, cmpI_zero, cmpB_zero, cmpI_zero, cmpI_zero]
theorem cmpR_same (a b : R) : cmpR a b = 0 ↔ a = { b with key := a.key } := by
  rw [cmpR_zero]
  constructor
  · rintro ⟨h1, h2, h3, h4, h5⟩; exact R.ext' rfl h1 h2 h4 h5 h3
  · intro h; rw [h]; simp
theorem cmpR_eq {a b : R} (hk : a.key = b.key) (h : cmpR a b = 0) : a = b := by
  obtain ⟨h1, h2, h3, h4, h5⟩ := (cmpR_zero a b).1 h
  exact R.ext' hk h1 h2 h4 h5 h3
theorem cmpR_self (a : R) : cmpR a a = 0 := (cmpR_zero a a).2 ⟨rfl, rfl, rfl, rfl, rfl⟩
theorem join_self (a : R) : joinR a a = a := by unfold joinR; split <;> rfl
theorem join_ge (a b : R) : cmpR a (joinR a b) ≤ 0 ∧ cmpR b (joinR a b) ≤ 0 := by
  unfold joinR
  have := good_rec.neg a b
  have h1 := cmpR_self a
  have h2 := cmpR_self b
  split <;> omega
theorem join_or (a b : R) : joinR a b = a ∨ joinR a b = b := by
  unfold joinR; split
  · exact .inr rfl
  · exact .inl rfl
theorem cmpR_trans {a b c : R} (h : cmpR a b ≤ 0) (k : cmpR b c ≤ 0) : cmpR a c ≤ 0 := (good_rec.tr a b c h k).1
end Go.Proofs.YtjmldnbepajnoaaR
