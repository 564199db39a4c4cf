/- The program's eight times and the reference's: each call answers the plain function's number and leaves the world as it was. The number has 32 bits. -/
import Derived.Test.YtffobfjknbgglaaRows
import Derived.Test.YtffobfjknbgglaaMath
import Derived.WalkKit
import Derived.ProofKit
import Derived.OpenShut
namespace Go.Proofs.Ytffobfjknbgglaa
open Go.ChangeShapes Go.WideShapes Go.ChangeAt Go.RowKit
set_option linter.unusedVariables false

theorem eight_any (x : Nat) (hx : x < 4294967296) (w : World) :
    Calls Try.prog 32 #[.int .u32 x] w fun e w' => e = .returned (.int .u32 (eig x)) ∧ w' = w := by
  go_enter Try.func32, Try.ntmps32
  go_wp2
  go_loop [0, 4] (fun y j => ∃ k : Nat, k ≤ 8 ∧ j = .int .i64 k ∧ y = .int .u32 (stps k x)) (fun _ j => 8 - (intOf j).toNat)
  case atStart => exact ⟨0, Nat.zero_le _, rfl, rfl⟩
  case round =>
    obtain ⟨k, hk, rfl, rfl⟩ := hrel
    by_cases hlt : k < 8
    · have hl := stps_lt hx k
      have HS : Hid (stps (k + 1) x = stp (stps k x)) := rfl
      generalize hh : stps k x = h at *
      clear hh
      have ha : bits .and .u32 (h : Int) 1 = ((h % 2 : Nat) : Int) := by
        have := u32_and_nat h 1 hl (by omega)
        rw [Nat.and_one_is_mod] at this
        exact this
      rcases Nat.mod_two_eq_zero_or_one h with h2 | h2
      · have HE : Hid (stp h = h / 2) := by
          show _ = _
          unfold stp; rw [if_neg (by omega), Nat.xor_zero]
        have hd : ((h % 2 : Nat) : Int) = 0 := by omega
        rw [hd] at ha
        go_wp2
        go_round
        case rel => exact ⟨k + 1, by omega, by go_num, by rw [HS.out, HE.out]; rfl⟩
        case measure => simp [intOf]; omega
      · have HE : Hid (stp h = h / 2 ^^^ 3988292384) := by
          show _ = _
          unfold stp; rw [if_pos h2]
        have HX : Hid (bits .xor .u32 ((h : Int) / 2) 3988292384 = ((h / 2 ^^^ 3988292384 : Nat) : Int)) := u32_xor_nat (h / 2) 3988292384 (by omega) (by omega)
        have hd : ((h % 2 : Nat) : Int) = 1 := by omega
        rw [hd] at ha
        go_wp2
        go_round
        case rel => exact ⟨k + 1, by omega, by go_num, by rw [HS.out, HE.out, HX.out]⟩
        case measure => simp [intOf]; omega
    · have hkk : k = 8 := by omega
      subst hkk
      go_wp2
      go_ret
      exact ⟨rfl, rfl⟩
theorem refeight_any (x : Nat) (hx : x < 4294967296) (w : World) :
    Calls Try.prog 29 #[.int .u32 x] w fun e w' => e = .returned (.int .u32 (eig x)) ∧ w' = w := by
  go_enter Try.func29, Try.ntmps29
  go_wp2
  go_loop [0, 3] (fun y j => ∃ k : Nat, k ≤ 8 ∧ j = .int .i64 k ∧ y = .int .u32 (stps k x)) (fun _ j => 8 - (intOf j).toNat)
  case atStart => exact ⟨0, Nat.zero_le _, rfl, rfl⟩
  case round =>
    obtain ⟨k, hk, rfl, rfl⟩ := hrel
    by_cases hlt : k < 8
    · have hl := stps_lt hx k
      have HS : Hid (stps (k + 1) x = stp (stps k x)) := rfl
      generalize hh : stps k x = h at *
      clear hh
      rcases Nat.mod_two_eq_zero_or_one h with h2 | h2
      · have HE : Hid (stp h = h / 2) := by
          show _ = _
          unfold stp; rw [if_neg (by omega), Nat.xor_zero]
        have hd : (h : Int) % 2 = 0 := by omega
        go_wp2
        go_round
        case rel => exact ⟨k + 1, by omega, by go_num, by rw [HS.out, HE.out]; rfl⟩
        case measure => simp [intOf]; omega
      · have HE : Hid (stp h = h / 2 ^^^ 3988292384) := by
          show _ = _
          unfold stp; rw [if_pos h2]
        have HX : Hid (bits .xor .u32 ((h : Int) / 2) 3988292384 = ((h / 2 ^^^ 3988292384 : Nat) : Int)) := u32_xor_nat (h / 2) 3988292384 (by omega) (by omega)
        have hd : (h : Int) % 2 = 1 := by omega
        go_wp2
        go_round
        case rel => exact ⟨k + 1, by omega, by go_num, by rw [HS.out, HE.out, HX.out]⟩
        case measure => simp [intOf]; omega
    · have hkk : k = 8 := by omega
      subst hkk
      go_wp2
      go_ret
      exact ⟨rfl, rfl⟩
end Go.Proofs.Ytffobfjknbgglaa
