/- Keys put among rising ones: how the reference does it, and what its walk meets. -/
import Derived.Test.YtgfmmipbadnhgaaSwLet
namespace Go.Proofs.Ytgfmmipbadnhgaa
open Go.ChangeShapes Go.WideShapes Go.ChangeAt Go.RowKit
set_option linter.unusedVariables false
set_option linter.unusedSimpArgs false
set_option maxRecDepth 100000

theorem less_cmp : ∀ (x y : List UInt8), Op.bytesLess x y = decide (Lib.compareBytes x y < 0)
  | [], [] => by simp [Op.bytesLess, Lib.compareBytes]
  | [], b :: y => by simp [Op.bytesLess, Lib.compareBytes]
  | a :: x, [] => by simp [Op.bytesLess, Lib.compareBytes]
  | a :: x, b :: y => by
    have := less_cmp x y
    unfold Op.bytesLess Lib.compareBytes
    by_cases h1 : a < b
    · simp [h1]
    · by_cases h2 : b < a
      · have h3 : ¬ a = b := fun e => by rw [e] at h2; exact absurd h2 (UInt8.lt_irrefl b)
        simp [h1, h2, h3]
      · have h3 : a = b := UInt8.le_antisymm (UInt8.not_lt.1 h2) (UInt8.not_lt.1 h1)
        simp [h1, h2, h3, this]
theorem key_lt {a b : ByteArray} (h : cmpB a b < 0) : Op.bytesLess a.toList b.toList = true := by
  rw [less_cmp, ByteArray.toList_eq, ByteArray.toList_eq]; exact decide_eq_true h
theorem key_nlt {a b : ByteArray} (h : ¬ cmpB a b < 0) : Op.bytesLess a.toList b.toList = false := by
  rw [less_cmp, ByteArray.toList_eq, ByteArray.toList_eq]; exact decide_eq_false h
theorem ins_new (k : ByteArray) : ∀ (o : List ByteArray) (j : Nat), j ≤ o.length → (∀ i y, i < j → o[i]? = some y → cmpB y k < 0) → (∀ y, o[j]? = some y → ¬ cmpB y k < 0 ∧ y ≠ k) → ([] ++ o.take j) ++ [k] ++ o.drop j = insK k o
  | [], j, hj, _, _ => by
    have : j = 0 := by simpa using hj
    subst this
    rfl
  | y :: l, 0, _, _, h => by
    have := h y rfl
    rw [insK, if_neg this.1, if_neg (by rw [keq_iff]; exact this.2)]
    rfl
  | y :: l, j + 1, hj, h1, h2 => by
    have e := ins_new k l j (by simpa using hj) (fun i z hi hz => h1 (i + 1) z (by omega) (by simpa using hz)) (fun z hz => h2 z (by simpa using hz))
    rw [insK, if_pos (h1 0 y (by omega) rfl), ← e]
    simp
theorem cmpB_self (k : ByteArray) : ¬ cmpB k k < 0 := by have := (cmpB_zero k k).2 rfl; omega
theorem ins_old (k : ByteArray) : ∀ (o : List ByteArray) (j : Nat), (∀ i y, i < j → o[i]? = some y → cmpB y k < 0) → o[j]? = some k → insK k o = o
  | [], j, _, h => by simp at h
  | y :: l, 0, _, h => by
    simp at h
    subst h
    rw [insK, if_neg (cmpB_self y), if_pos ((keq_iff _ _).2 rfl)]
  | y :: l, j + 1, h1, h2 => by
    rw [insK, if_pos (h1 0 y (by omega) rfl), ins_old k l j (fun i z hi hz => h1 (i + 1) z (by omega) (by simpa using hz)) (by simpa using h2)]
theorem insK_len (k : ByteArray) : ∀ o : List ByteArray, (insK k o).length ≤ o.length + 1
  | [] => by simp [insK]
  | y :: l => by
    have := insK_len k l
    unfold insK
    split
    · simp; omega
    · split <;> simp
theorem pullR_snoc (mine : List R) (t : Sn) : ∀ (l : List Sn) (out : List ByteArray), pullR mine out (l ++ [t]) = if cov (sums mine) t then pullR mine out l else insK t.key (pullR mine out l)
  | [], out => by simp [pullR]
  | x :: l, out => by
    rw [List.cons_append, pullR, pullR_snoc mine t l, pullR]
theorem pullR_next (mine : List R) {l : List Sn} {k : Nat} {x : Sn} (h : l[k]? = some x) : pullR mine [] (l.take (k + 1)) = if cov (sums mine) x then pullR mine [] (l.take k) else insK x.key (pullR mine [] (l.take k)) := by
  rw [take_next h, pullR_snoc]
theorem pullR_len (mine : List R) : ∀ (l : List Sn) (out : List ByteArray), (pullR mine out l).length ≤ out.length + l.length
  | [], out => by simp [pullR]
  | x :: l, out => by
    unfold pullR
    have h := pullR_len mine l (if cov (sums mine) x = true then out else insK x.key out)
    have h2 := insK_len x.key out
    have h3 : (if cov (sums mine) x = true then out else insK x.key out).length ≤ out.length + 1 := by split <;> omega
    rw [List.length_cons]
    omega
theorem slK_hi (q n cap k : Nat) (hk : k ≤ n) (hn : n ≤ cap) (hc : cap ≤ maxLen) (w : World) : (Instr.sliceAt 32 (.slice (some ⟨q, 0, none⟩) n cap) none (some (.int .i64 (k : Int))) none).run Try.prog w = .ok (.slice (some ⟨q, 0, none⟩) k cap) w := by
  unfold maxLen at hc
  have h1 : (k : Int) ≤ (cap : Int) := by omega
  have h2 : ¬ ((k : Int) < 0) := by omega
  have h3 : (⟨q, 0, none⟩ : Addr).add 0 = ⟨q, 0, none⟩ := addr_plus q 0 0
  go_simp
theorem slK_lo (q n cap k : Nat) (hk : k ≤ n) (hn : n ≤ cap) (hc : cap ≤ maxLen) (w : World) : (Instr.sliceAt 32 (.slice (some ⟨q, 0, none⟩) n cap) (some (.int .i64 (k : Int))) none none).run Try.prog w = .ok (.slice (some (dropA 1 q cap k)) (n - k) (cap - k)) w := by
  unfold maxLen at hc
  have h1 : (k : Int) ≤ (n : Int) := by omega
  have h2 : ¬ ((k : Int) < 0) := by omega
  have h3 : (⟨q, 0, none⟩ : Addr).add k = ⟨q, k, none⟩ := by rw [addr_plus, Nat.zero_add]
  unfold dropA
  rw [Nat.mul_one]
  go_simp
  split <;> rfl
end Go.Proofs.Ytgfmmipbadnhgaa
