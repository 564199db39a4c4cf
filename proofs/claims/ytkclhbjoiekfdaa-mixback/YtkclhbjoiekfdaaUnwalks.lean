/- Contracts of the reference's way back: it returns the plain function's number and leaves the world as it was. No condition on the number; the shift is from 22 to 63. -/
import Derived.Test.YtkclhbjoiekfdaaWalks
import Derived.Test.YtkclhbjoiekfdaaUnmath
import Derived.WalkKit
import Derived.ProofKit
import Derived.OpenShut
namespace Go.Proofs.Ytkclhbjoiekfdaa
open Go.ChangeShapes Go.WideShapes Go.ChangeAt Go.RowKit
set_option linter.unusedVariables false

theorem unshift_any (y : BitVec 64) (k : Nat) (hk0 : 22 ≤ k) (hk : k ≤ 63) (w : World) :
    Calls Try.prog 20 #[.int .u64 (y.toNat : Int), .int .i64 k] w fun e w' => e = .returned (.int .u64 ((unxsB y k).toNat : Int)) ∧ w' = w := by
  have H0 : Hid (topI y k 0 = ((unxsB y k).toNat : Int)) := topI_0 y k
  rw [← H0]
  go_enter Try.func20, Try.ntmps20
  go_wp2
  go_loop [5, 6, 7] (fun x i b => ∃ m : Nat, m ≤ 64 ∧ i = .int .i64 ((m : Int) - 1) ∧ x = .int .u64 (topI y k m)) (fun _ i _ => ((intOf i) + 1).toNat)
  case atStart => exact ⟨64, by omega, rfl, by rw [topI_64]⟩
  case round =>
    obtain ⟨m, hm, rfl, rfl⟩ := hrel
    by_cases hlt : 0 < m
    · obtain ⟨n, rfl⟩ : ∃ n : Nat, m = n + 1 := ⟨m - 1, by omega⟩
      rw [show ((n + 1 : Nat) : Int) - 1 = n by omega]
      by_cases hnk : (n : Int) + k < 64
      · have HS : Hid _ := step_in y k n hk0 (by omega)
        generalize hfx : topI y k (n + 1) = fx at *
        clear hfx
        go_wp2
        go_round
        case rel => exact ⟨n, by omega, rfl, by rw [← HS.out]⟩
        case measure => simp [intOf]
      · have HS : Hid _ := step_out y k n hk0 (by omega) (by omega)
        generalize hfx : topI y k (n + 1) = fx at *
        clear hfx
        go_wp2
        go_round
        case rel => exact ⟨n, by omega, rfl, by rw [← HS.out]⟩
        case measure => simp [intOf]
    · have hm0 : m = 0 := by omega
      subst hm0
      go_wp2
      go_ret
      exact ⟨rfl, rfl⟩
theorem unmix_any (y : BitVec 64) (w : World) :
    Calls Try.prog 18 #[.int .u64 (y.toNat : Int)] w fun e w' => e = .returned (.int .u64 ((unmixB y).toNat : Int)) ∧ w' = w := by
  obtain ⟨y1, h1, e1⟩ : ∃ y1, unxsB y 31 * 3573116690164977347#64 = y1 ∧ IntKind.u64.wrap (((unxsB y 31).toNat : Int) * 3573116690164977347) = (y1.toNat : Int) :=
    ⟨_, rfl, mul_bv (unxsB y 31) 3573116690164977347#64⟩
  obtain ⟨y2, h2, e2⟩ : ∃ y2, unxsB y1 27 * 10871156337175269513#64 = y2 ∧ IntKind.u64.wrap (((unxsB y1 27).toNat : Int) * 10871156337175269513) = (y2.toNat : Int) :=
    ⟨_, rfl, mul_bv (unxsB y1 27) 10871156337175269513#64⟩
  have h3 : unmixB y = unxsB y2 30 := by unfold unmixB; rw [h1, h2]
  rw [h3]
  clear h1 h2 h3
  have H1 : Hid _ := e1
  have H2 : Hid _ := e2
  clear e1 e2
  go_enter Try.func18, Try.ntmps18
  go_wp2_with fail
  refine (unshift_any y 31 (by omega) (by omega) _).mono ?_
  rintro e w' ⟨rfl, rfl⟩
  go_wp2_with fail
  rw [H1]
  refine (unshift_any y1 27 (by omega) (by omega) _).mono ?_
  rintro e w' ⟨rfl, rfl⟩
  go_wp2_with fail
  rw [H2]
  refine (unshift_any y2 30 (by omega) (by omega) _).mono ?_
  rintro e w' ⟨rfl, rfl⟩
  go_wp2_with fail
  go_ret
  exact ⟨rfl, rfl⟩
end Go.Proofs.Ytkclhbjoiekfdaa
