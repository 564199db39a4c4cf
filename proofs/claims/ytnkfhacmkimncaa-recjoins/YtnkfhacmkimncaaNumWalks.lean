/- Contracts of the program's small functions on kinds: how many bits a kind leaves, whether a kind holds a number, the least kind that does; and what at most 8 bytes say. They turn nothing. -/
import Derived.Test.YtnkfhacmkimncaaRows
import Derived.Test.YtnkfhacmkimncaaNumMath
import Derived.WalkKit
import Derived.ProofKit
import Derived.OpenShut
namespace Go.Proofs.Ytnkfhacmkimncaa
open Go.ChangeShapes Go.WideShapes Go.ChangeAt Go.RowKit
set_option linter.unusedVariables false

def bitsOf (k : Nat) : Nat := if k = 0 then 6 else if k = 1 then 14 else if k = 2 then 30 else 62
theorem bitsFor_any (k : Nat) (hk : k ≤ 3) (w : World) : Calls Try.prog 66 #[.int .i64 (k : Int)] w fun e w' => e = .returned (.int .i64 (bitsOf k : Int)) ∧ w' = w := by
  rcases (show k = 0 ∨ k = 1 ∨ k = 2 ∨ k = 3 by omega) with rfl | rfl | rfl | rfl
  all_goals
    go_enter Try.func66, Try.ntmps66
    go_wp2
    go_ret
    exact ⟨rfl, rfl⟩
theorem pow_kind (k : Nat) (hk : k ≤ 3) : (2 : Int) ^ bitsOf k = ((lim k : Nat) : Int) := by
  rcases (show k = 0 ∨ k = 1 ∨ k = 2 ∨ k = 3 by omega) with rfl | rfl | rfl | rfl <;> rfl
theorem holds_test (k n : Nat) : (((n : Int) / ((lim k : Nat) : Int)) == 0) = decide (n < lim k) := by
  have h := (lim_pos k).1
  rw [← Int.natCast_ediv]
  by_cases hn : n < lim k
  · rw [Nat.div_eq_of_lt hn]; simp [hn]
  · have : 1 ≤ n / lim k := (Nat.le_div_iff_mul_le (by omega)).2 (by omega)
    simp [hn]; omega
theorem holds_any (k n : Nat) (hk : k ≤ 3) (hn : n < 18446744073709551616) (w : World) : Calls Try.prog 67 #[.int .i64 (k : Int), .int .u64 (n : Int)] w fun e w' => e = .returned (.bool (decide (n < lim k))) ∧ w' = w := by
  have hp := pow_kind k hk
  have hb : bitsOf k ≤ 62 := by unfold bitsOf; repeat' split
                                all_goals omega
  have ht := holds_test k n
  go_enter Try.func67, Try.ntmps67
  go_wp2_with (go_at_call 66; refine (bitsFor_any _ hk _).mono ?_; rintro e w' ⟨rfl, rfl⟩)
  go_ret
  exact ⟨rfl, rfl⟩
theorem leastKind_any (n : Nat) (hn : n < 18446744073709551616) (w : World) : Calls Try.prog 65 #[.int .u64 (n : Int)] w fun e w' => e = .returned (.int .i64 (kindOf n : Int)) ∧ w' = w := by
  go_enter Try.func65, Try.ntmps65
  go_wp2
  go_loop [3] (fun j => ∃ k : Nat, k ≤ 3 ∧ j = .int .i64 k ∧ Hid (∀ i, i < k → lim i ≤ n)) (fun j => 3 - (intOf j).toNat)
  case atStart => exact ⟨0, by omega, rfl, fun i hi => by omega⟩
  case round =>
    obtain ⟨k, hk, rfl, HK⟩ := hrel
    by_cases hlt : k < 3
    · by_cases h : n < lim k
      · have he : Hid (kindOf n = k) := kind_eq n k hk h HK.out
        go_wp2_with (go_at_call 67; refine (holds_any k n hk hn _).mono ?_; rintro e w' ⟨rfl, rfl⟩)
        go_ret
        rw [he.out]
        exact ⟨rfl, rfl⟩
      · have HN : Hid (∀ i, i < k + 1 → lim i ≤ n) := fun i hi => by
          rcases (show i < k ∨ i = k by omega) with h1 | rfl
          · exact HK.out i h1
          · omega
        go_wp2_with (go_at_call 67; refine (holds_any k n hk hn _).mono ?_; rintro e w' ⟨rfl, rfl⟩)
        go_round
        case rel => exact ⟨k + 1, by omega, by go_num, HN⟩
        case measure => simp [intOf]; omega
    · obtain rfl : k = 3 := by omega
      have he : Hid (kindOf n = 3) := kind_three n HK.out
      go_wp2_with (go_at_call 67; refine (holds_any k n hk hn _).mono ?_; rintro e w' ⟨rfl, rfl⟩)
      go_ret
      rw [he.out]
      exact ⟨rfl, rfl⟩
theorem take_snoc (s : ByteArray) (k : Nat) (h : k < s.size) : s.data.toList.take (k + 1) = s.data.toList.take k ++ [s[k]] := by
  rw [List.take_succ_eq_append_getElem (by simpa using h)]; rfl
theorem val_take_lt (l : List UInt8) (k : Nat) (h : k ≤ 7) : val (l.take k) < 72057594037927936 := by
  have h1 := val_lt _ (l.take k) rfl
  have h2 : (l.take k).length ≤ 7 := by rw [List.length_take]; omega
  have h3 : 256 ^ (l.take k).length ≤ 256 ^ 7 := Nat.pow_le_pow_right (by omega) h2
  rw [show (256 : Nat) ^ 7 = 72057594037927936 by rfl] at h3
  omega
theorem read_any (s : ByteArray) (hs : s.size ≤ 8) (w : World) : Calls Try.prog 70 #[.string s] w fun e w' => e = .returned (.int .u64 (val s.data.toList : Int)) ∧ w' = w := by
  go_enter Try.func70, Try.ntmps70
  go_wp2
  go_loop [3, 4, 7] (fun h i j => ∃ k : Nat, k ≤ s.size ∧ j = .int .i64 k ∧ h = .int .u64 (val (s.data.toList.take k) : Int)) (fun _ _ j => s.size - (intOf j).toNat)
  case atStart => exact ⟨0, Nat.zero_le _, rfl, rfl⟩
  case round =>
    obtain ⟨k, hk, rfl, rfl⟩ := hrel
    by_cases hlt : k < s.size
    · have HS : Hid (val (s.data.toList.take (k + 1)) = val (s.data.toList.take k) * 256 + s[k].toNat) := by
        show _ = _
        rw [take_snoc s k hlt, val_snoc]
      have hv := val_take_lt s.data.toList k (by omega)
      have ho := or_byte (val (s.data.toList.take k)) s[k] hv
      generalize hh : val (s.data.toList.take k) = h at *
      clear hh
      go_wp2
      go_round
      case rel => exact ⟨k + 1, by omega, by go_num, by rw [HS.out]; go_num⟩
      case measure => simp [intOf]; omega
    · have hkk : k = s.size := by omega
      subst hkk
      rw [List.take_of_length_le (by simp)]
      go_wp2
      go_ret
      exact ⟨rfl, rfl⟩
end Go.Proofs.Ytnkfhacmkimncaa
