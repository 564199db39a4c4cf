/- Contracts of the program's and the reference's functions on mixing: each call returns the plain function's number and leaves the world as it was. No condition on the numbers of the program's own functions. -/
import Derived.Test.YtahgplfkgijecaaRows
import Derived.Test.YtahgplfkgijecaaMixMath
import Derived.WalkKit
import Derived.ProofKit
import Derived.OpenShut
namespace Go.Proofs.Ytahgplfkgijecaa
open Go.ChangeShapes Go.WideShapes Go.ChangeAt Go.RowKit
set_option linter.unusedVariables false

theorem mix_any (x : Int) (w : World) :
    Calls Try.prog 72 #[.int .u64 x] w fun e w' => e = .returned (.int .u64 (mixI x)) ∧ w' = w := by
  go_enter Try.func72, Try.ntmps72
  go_wp2
  go_ret
  exact ⟨rfl, rfl⟩
theorem two_any (x y : Int) (w : World) :
    Calls Try.prog 79 #[.int .u64 x, .int .u64 y] w fun e w' => e = .returned (.int .u64 (twoI x y)) ∧ w' = w := by
  go_enter Try.func79, Try.ntmps79
  go_wp2_with (go_at_call 72; refine (mix_any _ _).mono ?_; rintro e w' ⟨rfl, rfl⟩)
  go_ret
  exact ⟨rfl, rfl⟩

/- The reference's functions. -/
theorem half_any (x : Int) (k : Nat) (h : (Lit.int .u64 x).wf = true) (hk : k ≤ 64) (w : World) :
    Calls Try.prog 80 #[.int .u64 x, .int .i64 k] w fun e w' => e = .returned (.int .u64 (xsI x ((2 ^ k : Nat) : Int))) ∧ w' = w := by
  go_enter Try.func80, Try.ntmps80
  go_wp2
  go_loop [5, 6] (fun y i => ∃ j : Nat, j ≤ k ∧ i = .int .i64 j ∧ y = .int .u64 (x / ((2 ^ j : Nat) : Int))) (fun _ i => k - (intOf i).toNat)
  case atStart => exact ⟨0, Nat.zero_le _, rfl, by simp⟩
  case round =>
    obtain ⟨j, hj, rfl, rfl⟩ := hrel
    by_cases hlt : j < k
    · have HY : Hid (IntKind.u64.wrap ((x / ((2 ^ j : Nat) : Int)).tdiv 2) = x / ((2 ^ (j + 1) : Nat) : Int)) := by
        show _ = _
        rw [wrap_quo2 _ (wf_div x (2 ^ j) h), half_pow x j (bounds_u64 h).1]
      generalize hyy : x / ((2 ^ j : Nat) : Int) = y at *
      clear hyy
      go_wp2
      go_round
      case rel => exact ⟨j + 1, by omega, by go_num, by rw [← HY.out]⟩
      case measure => simp [intOf]; omega
    · have hjk : j = k := by omega
      subst hjk
      go_wp2
      go_ret
      exact ⟨rfl, rfl⟩
theorem wf_xsI (x d : Int) : (Lit.int .u64 (xsI x d)).wf = true := wf_bits _ _ _ _
theorem wf_mixI (x : Int) : (Lit.int .u64 (mixI x)).wf = true := by unfold mixI; exact wf_xsI _ _
set_option maxHeartbeats 400000 in
theorem refmix_any (x : Int) (h : (Lit.int .u64 x).wf = true) (w : World) :
    Calls Try.prog 78 #[.int .u64 x] w fun e w' => e = .returned (.int .u64 (mixI x)) ∧ w' = w := by
  go_enter Try.func78, Try.ntmps78
  go_wp2_with fail
  refine (half_any x 30 h (by omega) _).mono ?_
  rintro e w' ⟨rfl, rfl⟩
  go_wp2_with fail
  refine (half_any _ 27 (wf_wrap _ _) (by omega) _).mono ?_
  rintro e w' ⟨rfl, rfl⟩
  go_wp2_with fail
  refine (half_any _ 31 (wf_wrap _ _) (by omega) _).mono ?_
  rintro e w' ⟨rfl, rfl⟩
  go_wp2_with fail
  go_ret
  exact ⟨rfl, rfl⟩
theorem reftwo_any (x y : Int) (h : (Lit.int .u64 x).wf = true) (w : World) :
    Calls Try.prog 73 #[.int .u64 x, .int .u64 y] w fun e w' => e = .returned (.int .u64 (twoI x y)) ∧ w' = w := by
  go_enter Try.func73, Try.ntmps73
  go_wp2_with fail
  refine (refmix_any x h _).mono ?_
  rintro e w' ⟨rfl, rfl⟩
  go_wp2_with fail
  refine (refmix_any _ (wf_bits _ _ _ _) _).mono ?_
  rintro e w' ⟨rfl, rfl⟩
  go_wp2_with fail
  go_ret
  exact ⟨rfl, rfl⟩
end Go.Proofs.Ytahgplfkgijecaa
