/- Contracts of the program's small functions on kinds: how many bits a kind leaves, whether a kind holds a number, the least kind that does; and what at most 8 bytes say. They turn nothing. -/
import Derived.Test.YtnkfhacmkimncabRows
import Derived.Test.YtnkfhacmkimncabNumMath
import Derived.WalkKit
import Derived.ProofKit
import Derived.OpenShut
namespace Go.Proofs.Ytnkfhacmkimncab
open Go.ChangeShapes Go.WideShapes Go.ChangeAt Go.RowKit
set_option linter.unusedVariables false

def bitsOf (k : Nat) : Nat := if k = 0 then 6 else if k = 1 then 14 else if k = 2 then 30 else 62
theorem bitsFor_any (k : Nat) (hk : k ≤ 3) (w : World) : Calls Try.prog 29 #[.int .i64 (k : Int)] w fun e w' => e = .returned (.int .i64 (bitsOf k : Int)) ∧ w' = w := by
  rcases (show k = 0 ∨ k = 1 ∨ k = 2 ∨ k = 3 by omega) with rfl | rfl | rfl | rfl
  all_goals
    go_enter Try.func29, Try.ntmps29
    go_wp2
    go_ret
    exact ⟨rfl, rfl⟩
theorem pow_kind (k : Nat) (hk : k ≤ 3) : (2 : Int) ^ bitsOf k = ((lim k : Nat) : Int) := by
  rcases (show k = 0 ∨ k = 1 ∨ k = 2 ∨ k = 3 by omega) with rfl | rfl | rfl | rfl <;> rfl
theorem holds_test (k n : Nat) : (((n : Int) / ((lim k : Nat) : Int)) == 0) = decide (n < lim k) := by
  have h := (lim_pos k).1
  rw [← Int.natCast_ediv]
  by_cases hn : n < lim k
  · rw [Nat.div_eq_of_lt hn]; simp [hn]
  · have : 1 ≤ n / lim k := (Nat.le_div_iff_mul_le (by omega)).2 (by omega)
    simp [hn]; omega
theorem holds_any (k n : Nat) (hk : k ≤ 3) (hn : n < 18446744073709551616) (w : World) : Calls Try.prog 30 #[.int .i64 (k : Int), .int .u64 (n : Int)] w fun e w' => e = .returned (.bool (decide (n < lim k))) ∧ w' = w := by
  have hp := pow_kind k hk
  have hb : bitsOf k ≤ 62 := by unfold bitsOf; repeat' split
                                all_goals omega
  have ht := holds_test k n
  go_enter Try.func30, Try.ntmps30
  go_wp2_with (go_at_call 29; refine (bitsFor_any _ hk _).mono ?_; rintro e w' ⟨rfl, rfl⟩)
  go_ret
  exact ⟨rfl, rfl⟩
theorem leastKind_any (n : Nat) (hn : n < 18446744073709551616) (w : World) : Calls Try.prog 28 #[.int .u64 (n : Int)] w fun e w' => e = .returned (.int .i64 (kindOf n : Int)) ∧ w' = w := by
  go_enter Try.func28, Try.ntmps28
  go_wp2
  go_loop [3] (fun j => ∃ k : Nat, k ≤ 3 ∧ j = .int .i64 k ∧ Hid (∀ i, i < k → lim i ≤ n)) (fun j => 3 - (intOf j).toNat)
  case atStart => exact ⟨0, by omega, rfl, fun i hi => by omega⟩
  case round =>
    obtain ⟨k, hk, rfl, HK⟩ := hrel
    by_cases hlt : k < 3
    · by_cases h : n < lim k
      · have he : Hid (kindOf n = k) := kind_eq n k hk h HK.out
        go_wp2_with (go_at_call 30; refine (holds_any k n hk hn _).mono ?_; rintro e w' ⟨rfl, rfl⟩)
        go_ret
        rw [he.out]
        exact ⟨rfl, rfl⟩
      · have HN : Hid (∀ i, i < k + 1 → lim i ≤ n) := fun i hi => by
          rcases (show i < k ∨ i = k by omega) with h1 | rfl
          · exact HK.out i h1
          · omega
        go_wp2_with (go_at_call 30; refine (holds_any k n hk hn _).mono ?_; rintro e w' ⟨rfl, rfl⟩)
        go_round
        case rel => exact ⟨k + 1, by omega, by go_num, HN⟩
        case measure => simp [intOf]; omega
    · obtain rfl : k = 3 := by omega
      have he : Hid (kindOf n = 3) := kind_three n HK.out
      go_wp2_with (go_at_call 30; refine (holds_any k n hk hn _).mono ?_; rintro e w' ⟨rfl, rfl⟩)
      go_ret
      rw [he.out]
      exact ⟨rfl, rfl⟩
theorem take_snoc (s : ByteArray) (k : Nat) (h : k < s.size) : s.data.toList.take (k + 1) = s.data.toList.take k ++ [s[k]] := by
  rw [List.take_succ_eq_append_getElem (by simpa using h)]; rfl

end Go.Proofs.Ytnkfhacmkimncab
