/- The chapter's example, walked: it answers true and turns nothing that was there. -/
import Derived.Test.YtnpfjfolpfokoaaRef
namespace Go.Proofs.Ytnpfjfolpfokoaa
open Go.ChangeShapes Go.WideShapes Go.ChangeAt Go.RowKit
set_option linter.unusedVariables false
set_option linter.unusedSimpArgs false

section
variable {w w' : World} {X R n : Nat} {l : List Nat}
theorem good_row (g : Good w X R n l) {Y T : Nat} {xs : Array Value} (h : At w Y xs T) (hT : T ≠ 48) : Y ≠ R := by
  obtain ⟨_, _, A, B, hL, _⟩ := g
  obtain ⟨ds, hr, _⟩ := hL.2
  exact at_ne h hr hT
theorem good_at (g : Good w X R n l) {Y T : Nat} {xs : Array Value} (h : At w Y xs T) (hT : T ≠ 48) (k : Turn R w w') : At w' Y xs T := at_turn h k (good_row g h hT)
end
def fx : Nat → Nat
  | 0 => 0
  | 1 => 1
  | 2 => 2
  | _ => 0
def st : Nat → List Nat
  | 0 => []
  | 1 => [0]
  | 2 => [1, 0]
  | 3 => [2, 1, 0]
  | _ => [0, 2, 1]
theorem st_next {k : Nat} (h : k < 4) : fx k :: wo (st k) (fx k) = st (k + 1) ∧ fx k < 3 ∧ (#[.int .i64 0, .int .i64 1, .int .i64 2, .int .i64 0] : Array Value)[k]? = some (.int .i64 (fx k : Int)) := by
  rcases (show k = 0 ∨ k = 1 ∨ k = 2 ∨ k = 3 by omega) with rfl | rfl | rfl | rfl <;> exact ⟨by decide, by decide, rfl⟩
set_option maxHeartbeats 1600000 in
theorem fixed_any (w : World) : Calls Try.prog 8 #[] w fun e w' => e = .returned (.bool true) ∧ Kept w w' := by
  go_enter Try.func8, Try.ntmps8
  go_wp2_with fail
  refine (new_any 3 (by omega) (by omega) _).mono ?_
  rintro e w1 ⟨X, R, rfl, hX, hR, k1, g1⟩
  have HR := hid hR
  have HA := hid (at_new w1 #[.int .i64 0, .int .i64 1, .int .i64 2, .int .i64 0] 3)
  have HG := hid (good_alloc g1 (.cells #[.int .i64 0, .int .i64 1, .int .i64 2, .int .i64 0] 3))
  have HK := hid (kept_alloc k1 (.cells #[.int .i64 0, .int .i64 1, .int .i64 2, .int .i64 0] 3))
  clear hX hR k1 g1
  go_wp2_with fail
  generalize w1.alloc (.cells #[.int .i64 0, .int .i64 1, .int .i64 2, .int .i64 0] 3) = w2 at *
  generalize w1.heap.size = Y at *
  go_loopw [20] (fun j wr => ∃ k : Nat, k ≤ 4 ∧ j = .int .i64 k ∧ Hid (Good wr X R 3 (st k)) ∧ Hid (Kept w wr) ∧ Hid (At wr Y #[.int .i64 0, .int .i64 1, .int .i64 2, .int .i64 0] 3)) (fun j _ => 4 - (intOf j).toNat)
  case atStart => exact ⟨0, Nat.zero_le _, rfl, HG, HK, HA⟩
  case round =>
    obtain ⟨k, hk, rfl, HG2, HK2, HA2⟩ := hrel
    clear HG HK HA
    by_cases hlt : k < 4
    · obtain ⟨s1, s2, s3⟩ := st_next hlt
      have c0 := (at_cell HA2.out k).trans s3
      have HS := hid s1
      clear s1 s3
      generalize fx k = x at *
      go_wp2_with fail
      refine (use_any x s2 _ HG2.out).mono ?_
      rintro e w3 ⟨rfl, t3, g3⟩
      rw [HS.out] at g3
      have HG3 := hid g3
      have HK3 := hid (kept_turn HK2.out HR.out t3)
      have HA3 := hid (good_at HG2.out HA2.out (by decide) t3)
      clear c0 t3 g3
      go_wp2_with fail
      go_roundw
      case rel => exact ⟨k + 1, by omega, by go_num, HG3, HK3, HA3⟩
      case measure => simp [intOf]; omega
    · have hk4 : k = 4 := by omega
      subst hk4
      clear HA2
      go_wp2_with fail
      refine (oldest_any _ HG2.out).mono ?_
      rintro e w3 ⟨rfl, k3⟩
      have e3 : oldI (st 4) = 1 := rfl
      have e4 : (!(st 4).isEmpty) = true := rfl
      rw [e3, e4]
      have HG3 := hid (good_kept HG2.out k3)
      have HK3 := hid (kept_trans HK2.out k3)
      clear k3 e3 e4
      go_wp2_with fail
      refine (order_any _ HG3.out).mono ?_
      rintro e w4 ⟨v4, rfl, o4, k4⟩
      have HO4 := hid (rw_kept (rw_own o4) (kept_alloc (kept_refl w4) (.cells #[.int .i64 0, .int .i64 2, .int .i64 1] 3)))
      have HP4 : Hid (Rw (w4.alloc (.cells #[.int .i64 0, .int .i64 2, .int .i64 1] 3)) (.slice (some ⟨w4.heap.size, 0, none⟩) 3 3) (cs (st 4))) := hid (rw_own (own_built w4 0 (Nat.zero_le _) (cs (st 4)) (by decide)))
      have HG4 := hid (good_alloc (good_kept HG3.out k4) (.cells #[.int .i64 0, .int .i64 2, .int .i64 1] 3))
      have HK4 := hid (kept_alloc (kept_trans HK3.out k4) (.cells #[.int .i64 0, .int .i64 2, .int .i64 1] 3))
      clear o4 k4
      go_wp2_with fail
      refine (same_any (cs (st 4)) (by decide) _ _ _ HO4.out HP4.out).mono ?_
      rintro e w5 ⟨rfl, k5⟩
      have HG5 := hid (good_kept HG4.out k5)
      have HK5 := hid (kept_trans HK4.out k5)
      clear k5 HO4 HP4
      go_wp2_with fail
      refine (drop_any 2 (by omega) _ HG5.out).mono ?_
      rintro e w6 ⟨rfl, t6, g6⟩
      have e6 : decide (2 ∈ st 4) = true := rfl
      rw [e6]
      have HG6 : Hid (Good w6 X R 3 [0, 1]) := hid g6
      have HK6 := hid (kept_turn HK5.out HR.out t6)
      clear t6 g6 e6
      go_wp2_with fail
      refine (order_any _ HG6.out).mono ?_
      rintro e w7 ⟨v7, rfl, o7, k7⟩
      have HO7 := hid (rw_kept (rw_own o7) (kept_alloc (kept_refl w7) (.cells #[.int .i64 0, .int .i64 1] 3)))
      have HP7 : Hid (Rw (w7.alloc (.cells #[.int .i64 0, .int .i64 1] 3)) (.slice (some ⟨w7.heap.size, 0, none⟩) 2 2) (cs [0, 1])) := hid (rw_own (own_built w7 0 (Nat.zero_le _) (cs [0, 1]) (by decide)))
      have HK7 := hid (kept_alloc (kept_trans HK6.out k7) (.cells #[.int .i64 0, .int .i64 1] 3))
      clear o7 k7
      go_wp2_with fail
      refine (same_any (cs [0, 1]) (by decide) _ _ _ HO7.out HP7.out).mono ?_
      rintro e w8 ⟨rfl, k8⟩
      go_wp2_with fail
      go_ret
      exact ⟨rfl, kept_trans HK7.out k8⟩
end Go.Proofs.Ytnpfjfolpfokoaa
