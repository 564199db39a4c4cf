/- A tree's nodes as a plain function of its leaves (nod); turning a leaf; what a walk down two trees finds (wk), and how many nodes it looks at (cn); the leaves that differ (ap). No condition. -/
import Derived.Test.YtpfelbbhhoilpaaMixWalks
namespace Go.Proofs.Ytpfelbbhhoilpaa
set_option linter.unusedVariables false
set_option linter.unusedSimpArgs false

def U (x : Int) : Prop := (Lit.int .u64 x).wf = true
def Wl (L : Nat → Int) : Prop := ∀ j, j < 64 → U (L j)
theorem U_two (x y : Int) : U (twoI x y) := wf_mixI _
theorem U_zero : U 0 := by unfold U; decide
theorem two_zero : twoI 0 0 = 0 := by decide +kernel

/- Whatever is handed down from a node's children to it holds of every node. -/
theorem down_aux {P : Nat → Prop} (h : ∀ k, (1 ≤ k → k < 64 → P (2 * k) ∧ P (2 * k + 1)) → P k) : ∀ n k, 128 - k ≤ n → P k
  | 0, k, hk => h k (fun h1 h2 => absurd hk (by omega))
  | n + 1, k, hk => h k (fun h1 h2 => ⟨down_aux h n (2 * k) (by omega), down_aux h n (2 * k + 1) (by omega)⟩)
theorem down_ind {P : Nat → Prop} (h : ∀ k, (1 ≤ k → k < 64 → P (2 * k) ∧ P (2 * k + 1)) → P k) (k : Nat) : P k := down_aux h _ k (Nat.le_refl _)
def nodH (L : Nat → Int) : Nat → Nat → Int
  | 0, k => if 64 ≤ k then L (k - 64) else 0
  | h + 1, k => if 64 ≤ k then L (k - 64) else if k = 0 then 0 else twoI (nodH L h (2 * k)) (nodH L h (2 * k + 1))
theorem nodH_more (L : Nat → Int) : ∀ h k, 64 ≤ k * 2 ^ h → nodH L h k = nodH L (h + 1) k
  | 0, k, hk => by
    simp at hk
    rw [nodH, nodH, if_pos hk, if_pos hk]
  | h + 1, k, hk => by
    rw [nodH, nodH]
    by_cases h1 : 64 ≤ k
    · rw [if_pos h1, if_pos h1]
    · rw [if_neg h1, if_neg h1]
      by_cases h2 : k = 0
      · rw [if_pos h2, if_pos h2]
      · have e : 2 * k * 2 ^ h = k * 2 ^ (h + 1) := by rw [Nat.pow_succ, Nat.mul_comm 2 k, Nat.mul_assoc, Nat.mul_comm 2]
        have e2 : 2 * k * 2 ^ h ≤ (2 * k + 1) * 2 ^ h := Nat.mul_le_mul_right _ (by omega)
        rw [if_neg h2, if_neg h2, nodH_more L h (2 * k) (by omega), nodH_more L h (2 * k + 1) (by omega)]
def nod (L : Nat → Int) (k : Nat) : Int := nodH L 7 k
theorem nod_leaf (L : Nat → Int) {k : Nat} (h : 64 ≤ k) : nod L k = L (k - 64) := by rw [nod, nodH, if_pos h]
theorem nod_at (L : Nat → Int) (j : Nat) : nod L (64 + j) = L j := by rw [nod_leaf L (by omega)]; congr 1; omega
theorem nod_zero (L : Nat → Int) : nod L 0 = 0 := by rw [nod, nodH]; simp
theorem nod_up (L : Nat → Int) {k : Nat} (h0 : 1 ≤ k) (h : k < 64) : nod L k = twoI (nod L (2 * k)) (nod L (2 * k + 1)) := by
  rw [nod, nodH, if_neg (by omega), if_neg (by omega), nodH_more L 6 (2 * k) (by omega), nodH_more L 6 (2 * k + 1) (by omega)]
  rfl
theorem nod_wf {L : Nat → Int} (h : Wl L) {k : Nat} (hk : k < 128) : U (nod L k) := by
  by_cases h1 : 64 ≤ k
  · rw [nod_leaf L h1]; exact h _ (by omega)
  · by_cases h2 : k = 0
    · rw [h2, nod_zero]; exact U_zero
    · rw [nod_up L (by omega) (by omega)]; exact U_two _ _
theorem nod_nought (k : Nat) : nod (fun _ => 0) k = 0 := by
  refine down_ind (P := fun k => nod (fun _ => 0) k = 0) (fun k ih => ?_) k
  by_cases h1 : 64 ≤ k
  · rw [nod_leaf _ h1]
  · by_cases h2 : k = 0
    · rw [h2, nod_zero]
    · obtain ⟨i1, i2⟩ := ih (by omega) (by omega)
      rw [nod_up _ (by omega) (by omega), i1, i2, two_zero]
/- Which nodes stand above a leaf. -/
def under (j k : Nat) : Prop := ∃ m, (64 + j) / 2 ^ m = k
theorem under_up {j k a : Nat} (h : under j a) (e : a / 2 = k) : under j k := by
  obtain ⟨m, rfl⟩ := h
  exact ⟨m + 1, by rw [Nat.pow_succ, ← Nat.div_div_eq_div_mul, e]⟩
theorem under_self (j : Nat) : under j (64 + j) := ⟨0, by simp⟩
theorem nod_same {L M : Nat → Int} {k : Nat} (h : ∀ j, j < 64 → under j k → L j = M j) (hk : k < 128) : nod L k = nod M k := by
  refine down_ind (P := fun k => (∀ j, j < 64 → under j k → L j = M j) → k < 128 → nod L k = nod M k) (fun k ih h hk => ?_) k h hk
  by_cases h1 : 64 ≤ k
  · rw [nod_leaf L h1, nod_leaf M h1]
    exact h _ (by omega) ⟨0, by simp; omega⟩
  · by_cases h2 : k = 0
    · rw [h2, nod_zero, nod_zero]
    · obtain ⟨i1, i2⟩ := ih (by omega) (by omega)
      rw [nod_up L (by omega) (by omega), nod_up M (by omega) (by omega), i1 (fun j hj hu => h j hj (under_up hu (by omega))) (by omega), i2 (fun j hj hu => h j hj (under_up hu (by omega))) (by omega)]
theorem nod_ext {L M : Nat → Int} (h : ∀ j, j < 64 → L j = M j) {k : Nat} (hk : k < 128) : nod L k = nod M k := nod_same (fun j hj _ => h j hj) hk
/- Of those above a leaf none stands between one and the next. -/
theorem under_gap {i m k : Nat} (hu : under i k) (h1 : (64 + i) / 2 ^ m / 2 < k) (h2 : k < (64 + i) / 2 ^ m) : False := by
  obtain ⟨j, rfl⟩ := hu
  rcases Nat.lt_or_ge m j with h | h
  · have : (64 + i) / 2 ^ j ≤ (64 + i) / 2 ^ (m + 1) := Nat.div_le_div_left (Nat.pow_le_pow_right (by omega) h) (Nat.pow_pos (by omega))
    rw [Nat.pow_succ, ← Nat.div_div_eq_div_mul] at this
    omega
  · have : (64 + i) / 2 ^ m ≤ (64 + i) / 2 ^ j := Nat.div_le_div_left (Nat.pow_le_pow_right (by omega) h) (Nat.pow_pos (by omega))
    omega

/- A leaf turned. -/
def upd (N : Nat → Int) (k : Nat) (x : Int) : Nat → Int := fun j => if j = k then x else N j
theorem upd_at (N : Nat → Int) (k : Nat) (x : Int) : upd N k x k = x := by simp [upd]
theorem upd_ne (N : Nat → Int) {k j : Nat} (x : Int) (h : j ≠ k) : upd N k x j = N j := by simp [upd, h]
def xo (a b : Int) : Int := bits .xor .u64 a b
theorem U_xo (a b : Int) : U (xo a b) := wf_bits _ _ _ _
def flipL (L : Nat → Int) (i : Nat) (x : Int) : Nat → Int := upd L i (xo (L i) x)
theorem flip_wf {L : Nat → Int} (h : Wl L) (i : Nat) (x : Int) : Wl (flipL L i x) := by
  intro j hj
  unfold flipL upd
  split
  · exact U_xo _ _
  · exact h j hj
theorem xo_bv (a b : BitVec 64) : xo (a.toNat : Int) (b.toNat : Int) = ((a ^^^ b).toNat : Int) := xor_bv a b
theorem xo_twice {a x : Int} (ha : U a) (hx : U x) : xo (xo a x) x = a := by
  obtain ⟨a, rfl⟩ := mwf_u64 ha
  obtain ⟨x, rfl⟩ := mwf_u64 hx
  rw [xo_bv, xo_bv, BitVec.xor_assoc, BitVec.xor_self, BitVec.xor_zero]
theorem xo_swap {a x y : Int} (ha : U a) (hx : U x) (hy : U y) : xo (xo a x) y = xo (xo a y) x := by
  obtain ⟨a, rfl⟩ := mwf_u64 ha
  obtain ⟨x, rfl⟩ := mwf_u64 hx
  obtain ⟨y, rfl⟩ := mwf_u64 hy
  rw [xo_bv, xo_bv, xo_bv, xo_bv, BitVec.xor_assoc, BitVec.xor_assoc, BitVec.xor_comm x y]
theorem xo_zero {x : Int} (hx : U x) : xo 0 x = x := by
  obtain ⟨x, rfl⟩ := mwf_u64 hx
  have := xo_bv 0#64 x
  simpa using this
/- A call of Flip. -/
structure Fx where
  i : Int
  x : Int
abbrev okI (i : Int) : Prop := 0 ≤ i ∧ i < 64
def flipO (f : Fx) (L : Nat → Int) : Nat → Int := if okI f.i then flipL L f.i.toNat f.x else L
theorem flipO_wf {L : Nat → Int} (h : Wl L) (f : Fx) : Wl (flipO f L) := by
  unfold flipO
  split
  · exact flip_wf h _ _
  · exact h
theorem flipO_ok {f : Fx} (h : okI f.i) (L : Nat → Int) : flipO f L = flipL L f.i.toNat f.x := if_pos h
theorem flipO_bad {f : Fx} (h : ¬ okI f.i) (L : Nat → Int) : flipO f L = L := if_neg h
/- Equal leaves. -/
def Eq64 (L M : Nat → Int) : Prop := ∀ j, j < 64 → L j = M j
theorem flipO_eq {L M : Nat → Int} (h : Eq64 L M) (f : Fx) : Eq64 (flipO f L) (flipO f M) := by
  intro j hj
  unfold flipO
  split
  · rename_i g
    unfold flipL upd
    split
    · rename_i e
      rw [h _ (by unfold okI at g; omega)]
    · exact h j hj
  · exact h j hj
theorem flipO_twice {L : Nat → Int} (hL : Wl L) {f : Fx} (hx : U f.x) : Eq64 (flipO f (flipO f L)) L := by
  intro j hj
  by_cases g : okI f.i
  · rw [flipO_ok g, flipO_ok g]
    unfold flipL
    by_cases e : j = f.i.toNat
    · rw [← e, upd_at, upd_at, xo_twice (hL j hj) hx]
    · rw [upd_ne _ _ e, upd_ne _ _ e]
  · rw [flipO_bad g, flipO_bad g]
theorem flipO_swap {L : Nat → Int} (hL : Wl L) {f g : Fx} (hf : U f.x) (hg : U g.x) : Eq64 (flipO f (flipO g L)) (flipO g (flipO f L)) := by
  intro j hj
  by_cases e : okI f.i
  · by_cases e2 : okI g.i
    · rw [flipO_ok e, flipO_ok e2, flipO_ok e2, flipO_ok e]
      unfold flipL
      by_cases h1 : j = f.i.toNat
      · by_cases h2 : j = g.i.toNat
        · rw [← h1, ← h2, upd_at, upd_at, upd_at, upd_at, xo_swap (hL j hj) hg hf]
        · rw [← h1, upd_at, upd_ne _ _ h2, upd_ne _ _ h2, upd_at]
      · by_cases h2 : j = g.i.toNat
        · rw [← h2, upd_at, upd_ne _ _ h1, upd_ne _ _ h1, upd_at]
        · rw [upd_ne _ _ h1, upd_ne _ _ h2, upd_ne _ _ h2, upd_ne _ _ h1]
    · rw [flipO_bad e2, flipO_bad e2]
  · rw [flipO_bad e, flipO_bad e]
/- A row of them, from the first on, and from the last on. -/
def fl (S : Nat → Fx) : Nat → Nat → Int
  | 0 => fun _ => 0
  | k + 1 => flipO (S k) (fl S k)
theorem fl_wf (S : Nat → Fx) : ∀ k, Wl (fl S k)
  | 0 => fun j _ => U_zero
  | k + 1 => flipO_wf (fl_wf S k) _
def fr (S : Nat → Fx) (n : Nat) : Nat → Nat → Int
  | 0 => fun _ => 0
  | m + 1 => flipO (S (n - (m + 1))) (fr S n m)
theorem fr_wf (S : Nat → Fx) (n : Nat) : ∀ k, Wl (fr S n k)
  | 0 => fun j _ => U_zero
  | k + 1 => flipO_wf (fr_wf S n k) _
theorem eq64_trans {L M N : Nat → Int} (h : Eq64 L M) (k : Eq64 M N) : Eq64 L N := fun j hj => (h j hj).trans (k j hj)
theorem fr_out (S : Nat → Fx) (n : Nat) (hS : ∀ k, k < n + 1 → U (S k).x) : ∀ m, m ≤ n → Eq64 (fr S (n + 1) (m + 1)) (flipO (S n) (fr S n m))
  | 0, _ => by
    show Eq64 (flipO (S (n + 1 - 1)) _) _
    rw [show n + 1 - 1 = n by omega]
    exact fun j hj => rfl
  | m + 1, h => by
    show Eq64 (flipO (S (n + 1 - (m + 1 + 1))) (fr S (n + 1) (m + 1))) (flipO (S n) (flipO (S (n - (m + 1))) (fr S n m)))
    rw [show n + 1 - (m + 1 + 1) = n - (m + 1) by omega]
    exact eq64_trans (flipO_eq (fr_out S n hS m (by omega)) _) (flipO_swap (fr_wf S n m) (hS _ (by omega)) (hS _ (by omega)))
theorem fr_fl (S : Nat → Fx) : ∀ n, (∀ k, k < n → U (S k).x) → Eq64 (fr S n n) (fl S n)
  | 0, _ => fun j hj => rfl
  | n + 1, hS => eq64_trans (fr_out S n hS n (Nat.le_refl n)) (flipO_eq (fr_fl S n (fun k hk => hS k (by omega))) _)

/- What a walk finds. -/
def wkH (N M : Nat → Int) : Nat → Nat → List Nat
  | 0, k => if N k = M k then [] else if 64 ≤ k then [k - 64] else []
  | h + 1, k => if N k = M k then [] else if 64 ≤ k then [k - 64] else if k = 0 then [] else wkH N M h (2 * k) ++ wkH N M h (2 * k + 1)
def cnH (N M : Nat → Int) : Nat → Nat → Nat
  | 0, _ => 1
  | h + 1, k => if N k = M k then 1 else if 64 ≤ k then 1 else if k = 0 then 1 else 1 + cnH N M h (2 * k) + cnH N M h (2 * k + 1)
theorem wkH_more (N M : Nat → Int) : ∀ h k, 64 ≤ k * 2 ^ h → wkH N M h k = wkH N M (h + 1) k ∧ cnH N M h k = cnH N M (h + 1) k
  | 0, k, hk => by
    simp at hk
    rw [wkH, wkH, cnH, cnH, if_pos hk, if_pos hk, if_pos hk]
    exact ⟨rfl, by split <;> rfl⟩
  | h + 1, k, hk => by
    rw [wkH, wkH, cnH, cnH]
    by_cases h0 : N k = M k
    · rw [if_pos h0, if_pos h0, if_pos h0, if_pos h0]; exact ⟨rfl, rfl⟩
    · rw [if_neg h0, if_neg h0, if_neg h0, if_neg h0]
      by_cases h1 : 64 ≤ k
      · rw [if_pos h1, if_pos h1, if_pos h1, if_pos h1]; exact ⟨rfl, rfl⟩
      · rw [if_neg h1, if_neg h1, if_neg h1, if_neg h1]
        by_cases h2 : k = 0
        · rw [if_pos h2, if_pos h2, if_pos h2, if_pos h2]; exact ⟨rfl, rfl⟩
        · have e : 2 * k * 2 ^ h = k * 2 ^ (h + 1) := by rw [Nat.pow_succ, Nat.mul_comm 2 k, Nat.mul_assoc, Nat.mul_comm 2]
          have e2 : 2 * k * 2 ^ h ≤ (2 * k + 1) * 2 ^ h := Nat.mul_le_mul_right _ (by omega)
          obtain ⟨a, b⟩ := wkH_more N M h (2 * k) (by omega)
          obtain ⟨c, d⟩ := wkH_more N M h (2 * k + 1) (by omega)
          rw [if_neg h2, if_neg h2, if_neg h2, if_neg h2, a, b, c, d]
          exact ⟨rfl, rfl⟩
def wk (N M : Nat → Int) (k : Nat) : List Nat := wkH N M 7 k
def cn (N M : Nat → Int) (k : Nat) : Nat := cnH N M 7 k
section
variable {N M : Nat → Int} {k : Nat}
theorem wk_eq (h : N k = M k) : wk N M k = [] ∧ cn N M k = 1 := by rw [wk, cn, wkH, cnH, if_pos h, if_pos h]; exact ⟨rfl, rfl⟩
theorem wk_leaf (h : N k ≠ M k) (h1 : 64 ≤ k) : wk N M k = [k - 64] ∧ cn N M k = 1 := by rw [wk, cn, wkH, cnH, if_neg h, if_neg h, if_pos h1, if_pos h1]; exact ⟨rfl, rfl⟩
theorem wk_up (h : N k ≠ M k) (h0 : 1 ≤ k) (h1 : k < 64) : wk N M k = wk N M (2 * k) ++ wk N M (2 * k + 1) ∧ cn N M k = 1 + cn N M (2 * k) + cn N M (2 * k + 1) := by
  obtain ⟨a, b⟩ := wkH_more N M 6 (2 * k) (by omega)
  obtain ⟨c, d⟩ := wkH_more N M 6 (2 * k + 1) (by omega)
  rw [wk, cn, wkH, cnH, if_neg h, if_neg h, if_neg (by omega), if_neg (by omega), if_neg (by omega), if_neg (by omega), a, b, c, d]
  exact ⟨rfl, rfl⟩
end
theorem wk_nought (N M : Nat → Int) : wk N M 0 = [] ∧ cn N M 0 = 1 := by
  rw [wk, cn, wkH, cnH]
  constructor
  · split <;> simp
  · split <;> simp
theorem wk_sym (N M : Nat → Int) (k : Nat) : wk N M k = wk M N k ∧ cn N M k = cn M N k := by
  refine down_ind (P := fun k => wk N M k = wk M N k ∧ cn N M k = cn M N k) (fun k ih => ?_) k
  by_cases h : N k = M k
  · rw [(wk_eq h).1, (wk_eq h).2, (wk_eq h.symm).1, (wk_eq h.symm).2]; exact ⟨rfl, rfl⟩
  · have h' : M k ≠ N k := fun e => h e.symm
    by_cases h1 : 64 ≤ k
    · rw [(wk_leaf h h1).1, (wk_leaf h h1).2, (wk_leaf h' h1).1, (wk_leaf h' h1).2]; exact ⟨rfl, rfl⟩
    · by_cases h2 : k = 0
      · subst h2
        rw [(wk_nought _ _).1, (wk_nought _ _).2, (wk_nought _ _).1, (wk_nought _ _).2]
        exact ⟨rfl, rfl⟩
      · obtain ⟨⟨a, b⟩, ⟨c, d⟩⟩ := ih (by omega) (by omega)
        rw [(wk_up h (by omega) (by omega)).1, (wk_up h (by omega) (by omega)).2, (wk_up h' (by omega) (by omega)).1, (wk_up h' (by omega) (by omega)).2, a, b, c, d]
        exact ⟨rfl, rfl⟩
/- Where they lie, in which order, and how many there are. -/
theorem wk_lies (N M : Nat → Int) : ∀ (h k : Nat), 64 ≤ k * 2 ^ h → (k + 1) * 2 ^ h ≤ 128 → (wk N M k).Pairwise (· < ·) ∧ (∀ i ∈ wk N M k, k * 2 ^ h ≤ 64 + i ∧ 64 + i < (k + 1) * 2 ^ h ∧ N (64 + i) ≠ M (64 + i)) ∧ (wk N M k).length ≤ 2 ^ h ∧ 1 ≤ cn N M k ∧ cn N M k + 1 ≤ 2 * 2 ^ h
  | 0, k, h1, h2 => by
    simp at h1 h2
    by_cases e : N k = M k
    · rw [(wk_eq e).1, (wk_eq e).2]; simp
    · rw [(wk_leaf e h1).1, (wk_leaf e h1).2]
      have : 64 + (k - 64) = k := by omega
      simp [this]
      exact e
  | h + 1, k, h1, h2 => by
    have hp : 0 < 2 ^ h := Nat.pow_pos (by omega)
    have e2 : 2 ^ (h + 1) = 2 * 2 ^ h := by rw [Nat.pow_succ]; omega
    rw [e2] at h1 h2
    by_cases e : N k = M k
    · rw [(wk_eq e).1, (wk_eq e).2, e2]; simp; omega
    · by_cases g : 64 ≤ k
      · exfalso
        have : 65 * (2 * 2 ^ h) ≤ (k + 1) * (2 * 2 ^ h) := Nat.mul_le_mul_right _ (by omega)
        omega
      · have g0 : 1 ≤ k := by
          rcases Nat.eq_zero_or_pos k with g0 | g0
          · subst g0; simp at h1
          · exact g0
        have m1 : 2 * k * 2 ^ h = k * (2 * 2 ^ h) := by rw [Nat.mul_comm 2 k, Nat.mul_assoc]
        have m2 : (2 * k + 1) * 2 ^ h = k * (2 * 2 ^ h) + 2 ^ h := by rw [Nat.add_mul, m1, Nat.one_mul]
        have m3 : (2 * k + 1 + 1) * 2 ^ h = k * (2 * 2 ^ h) + 2 * 2 ^ h := by rw [Nat.add_mul, m2, Nat.one_mul]; omega
        have m4 : (k + 1) * (2 * 2 ^ h) = k * (2 * 2 ^ h) + 2 * 2 ^ h := by rw [Nat.add_mul, Nat.one_mul]
        obtain ⟨a1, a2, a3, a4, a5⟩ := wk_lies N M h (2 * k) (by omega) (by omega)
        obtain ⟨b1, b2, b3, b4, b5⟩ := wk_lies N M h (2 * k + 1) (by omega) (by omega)
        rw [(wk_up e g0 (by omega)).1, (wk_up e g0 (by omega)).2, e2]
        refine ⟨List.pairwise_append.2 ⟨a1, b1, fun x hx y hy => ?_⟩, fun i hi => ?_, by simp; omega, by omega, by omega⟩
        · have := (a2 x hx).2.1
          have := (b2 y hy).1
          omega
        · rcases List.mem_append.1 hi with hi | hi
          · have := a2 i hi
            exact ⟨by omega, by omega, this.2.2⟩
          · have := b2 i hi
            exact ⟨by omega, by omega, this.2.2⟩
theorem wk_all (N M : Nat → Int) : (wk N M 1).Pairwise (· < ·) ∧ (∀ i ∈ wk N M 1, i < 64 ∧ N (64 + i) ≠ M (64 + i)) ∧ (wk N M 1).length ≤ 64 ∧ 1 ≤ cn N M 1 ∧ cn N M 1 ≤ 127 := by
  obtain ⟨a, b, c, d, e⟩ := wk_lies N M 6 1 (by omega) (by omega)
  refine ⟨a, fun i hi => ?_, by simpa using c, d, by omega⟩
  have := b i hi
  exact ⟨by omega, this.2.2⟩
/- Where two nodes differ there is a leaf that does. -/
theorem wk_some {L M : Nat → Int} {k : Nat} (h0 : 1 ≤ k) (h : nod L k ≠ nod M k) : wk (nod L) (nod M) k ≠ [] := by
  refine down_ind (P := fun k => 1 ≤ k → nod L k ≠ nod M k → wk (nod L) (nod M) k ≠ []) (fun k ih h0 h => ?_) k h0 h
  by_cases h1 : 64 ≤ k
  · rw [(wk_leaf h h1).1]; simp
  · obtain ⟨i1, i2⟩ := ih h0 (by omega)
    rw [(wk_up h h0 (by omega)).1]
    intro e
    have e1 := List.append_eq_nil_iff.1 e
    have g1 : nod L (2 * k) = nod M (2 * k) := Classical.byContradiction fun g => i1 (by omega) g e1.1
    have g2 : nod L (2 * k + 1) = nod M (2 * k + 1) := Classical.byContradiction fun g => i2 (by omega) g e1.2
    exact h (by rw [nod_up L h0 (by omega), nod_up M h0 (by omega), g1, g2])
theorem wk_root (L M : Nat → Int) : decide (0 < (wk (nod L) (nod M) 1).length) = (nod L 1 != nod M 1) := by
  by_cases h : nod L 1 = nod M 1
  · rw [(wk_eq h).1, h]; simp
  · have := wk_some (k := 1) (by omega) h
    have h2 := List.length_pos_iff.2 this
    rw [decide_eq_true h2]
    exact (bne_iff_ne.2 h).symm
/- The leaves that differ. -/
def ap (L M : Nat → Int) (n : Nat) : List Nat := (List.range n).filter (fun j => L j != M j)
theorem ap_same {L M : Nat → Int} {n : Nat} (h : L n = M n) : ap L M (n + 1) = ap L M n := by unfold ap; rw [List.range_succ, List.filter_append]; simp [h]
theorem ap_more {L M : Nat → Int} {n : Nat} (h : L n ≠ M n) : ap L M (n + 1) = ap L M n ++ [n] := by unfold ap; rw [List.range_succ, List.filter_append]; simp [h]
theorem ap_len (L M : Nat → Int) (n : Nat) : (ap L M n).length ≤ n := by
  have := List.length_filter_le (fun j => L j != M j) (List.range n)
  simpa [ap] using this
theorem ap_ext {L M L' M' : Nat → Int} (h1 : Eq64 L L') (h2 : Eq64 M M') {n : Nat} (hn : n ≤ 64) : ap L M n = ap L' M' n := by
  unfold ap
  refine List.filter_congr (fun j hj => ?_)
  have := List.mem_range.1 hj
  rw [h1 j (by omega), h2 j (by omega)]
/- The chapter's example. -/
def exL : Nat → Int := flipL (fun _ => 0) 5 9
theorem ex_wk : wk (nod exL) (nod (fun _ => 0)) 1 = [5] ∧ cn (nod exL) (nod (fun _ => 0)) 1 = 13 := by
  have hz : ∀ k, nod (fun _ => (0 : Int)) k = 0 := nod_nought
  have hs : ∀ k, k < 128 → ¬ under 5 k → nod exL k = 0 := fun k hk hu => by
    rw [nod_same (M := fun _ => 0) (fun j hj hj2 => ?_) hk, hz]
    have hne : j ≠ 5 := fun e => hu (by rw [e] at hj2; exact hj2)
    unfold exL flipL
    rw [upd_ne _ _ hne]
  have hn : ∀ k, k < 128 → (∀ m, m < 8 → (64 + 5) / 2 ^ m ≠ k) → 0 < k → ¬ under 5 k := fun k hk h hp ⟨m, hm⟩ => by
    by_cases h8 : m < 8
    · exact h m h8 hm
    · have : 2 ^ 8 ≤ 2 ^ m := Nat.pow_le_pow_right (by omega) (by omega)
      rw [Nat.div_eq_of_lt (by omega)] at hm
      omega
  have z68 := hs 68 (by omega) (hn 68 (by omega) (by decide) (by omega))
  have z35 := hs 35 (by omega) (hn 35 (by omega) (by decide) (by omega))
  have z16 := hs 16 (by omega) (hn 16 (by omega) (by decide) (by omega))
  have z9 := hs 9 (by omega) (hn 9 (by omega) (by decide) (by omega))
  have z5 := hs 5 (by omega) (hn 5 (by omega) (by decide) (by omega))
  have z3 := hs 3 (by omega) (hn 3 (by omega) (by decide) (by omega))
  have n69 : nod exL 69 = xo 0 9 := by rw [show 69 = 64 + 5 by rfl, nod_at]; rfl
  have n34 : nod exL 34 = twoI 0 (xo 0 9) := by rw [nod_up _ (by omega) (by omega), show 2 * 34 = 68 by rfl, show 68 + 1 = 69 by rfl, z68, n69]
  have n17 : nod exL 17 = twoI (twoI 0 (xo 0 9)) 0 := by rw [nod_up _ (by omega) (by omega), show 2 * 17 = 34 by rfl, show 34 + 1 = 35 by rfl, z35, n34]
  have n8 : nod exL 8 = twoI 0 (twoI (twoI 0 (xo 0 9)) 0) := by rw [nod_up _ (by omega) (by omega), show 2 * 8 = 16 by rfl, show 16 + 1 = 17 by rfl, z16, n17]
  have n4 : nod exL 4 = twoI (twoI 0 (twoI (twoI 0 (xo 0 9)) 0)) 0 := by rw [nod_up _ (by omega) (by omega), show 2 * 4 = 8 by rfl, show 8 + 1 = 9 by rfl, z9, n8]
  have n2 : nod exL 2 = twoI (twoI (twoI 0 (twoI (twoI 0 (xo 0 9)) 0)) 0) 0 := by rw [nod_up _ (by omega) (by omega), show 2 * 2 = 4 by rfl, show 4 + 1 = 5 by rfl, z5, n4]
  have n1 : nod exL 1 = twoI (twoI (twoI (twoI 0 (twoI (twoI 0 (xo 0 9)) 0)) 0) 0) 0 := by rw [nod_up _ (by omega) (by omega), show 2 * 1 = 2 by rfl, show 2 + 1 = 3 by rfl, z3, n2]
  have d69 : nod exL 69 ≠ nod (fun _ => 0) 69 := by rw [hz, n69]; decide +kernel
  have d34 : nod exL 34 ≠ nod (fun _ => 0) 34 := by rw [hz, n34]; decide +kernel
  have d17 : nod exL 17 ≠ nod (fun _ => 0) 17 := by rw [hz, n17]; decide +kernel
  have d8 : nod exL 8 ≠ nod (fun _ => 0) 8 := by rw [hz, n8]; decide +kernel
  have d4 : nod exL 4 ≠ nod (fun _ => 0) 4 := by rw [hz, n4]; decide +kernel
  have d2 : nod exL 2 ≠ nod (fun _ => 0) 2 := by rw [hz, n2]; decide +kernel
  have d1 : nod exL 1 ≠ nod (fun _ => 0) 1 := by rw [hz, n1]; decide +kernel
  have l69 := wk_leaf d69 (by omega)
  have l68 := wk_eq (z68.trans (hz 68).symm)
  have l35 := wk_eq (z35.trans (hz 35).symm)
  have l16 := wk_eq (z16.trans (hz 16).symm)
  have l9 := wk_eq (z9.trans (hz 9).symm)
  have l5 := wk_eq (z5.trans (hz 5).symm)
  have l3 := wk_eq (z3.trans (hz 3).symm)
  have u34 := wk_up d34 (by omega) (by omega)
  have u17 := wk_up d17 (by omega) (by omega)
  have u8 := wk_up d8 (by omega) (by omega)
  have u4 := wk_up d4 (by omega) (by omega)
  have u2 := wk_up d2 (by omega) (by omega)
  have u1 := wk_up d1 (by omega) (by omega)
  simp only [Nat.reduceMul, Nat.reduceAdd, Nat.reduceSub] at l69 u34 u17 u8 u4 u2 u1
  rw [l68.1, l68.2, l69.1, l69.2] at u34
  rw [u34.1, u34.2, l35.1, l35.2] at u17
  rw [u17.1, u17.2, l16.1, l16.2] at u8
  rw [u8.1, u8.2, l9.1, l9.2] at u4
  rw [u4.1, u4.2, l5.1, l5.2] at u2
  rw [u2.1, u2.2, l3.1, l3.2] at u1
  exact ⟨by simpa using u1.1, by simpa using u1.2⟩
end Go.Proofs.Ytpfelbbhhoilpaa
