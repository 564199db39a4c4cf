/- The chapter's example, walked: it answers true and turns nothing that was there. -/
import Derived.Test.YtdmgdmhggmehgaaDue
namespace Go.Proofs.Ytdmgdmhggmehgaa
open Go.ChangeShapes Go.WideShapes Go.ChangeAt Go.RowKit
set_option linter.unusedVariables false
set_option linter.unusedSimpArgs false

/- A wheel of the call's own. -/
def Mine (W w : World) (F : Nat → Prop) : Prop := Kept W w ∧ ∀ k, F k → W.heap.size ≤ k
section
variable {W w w' : World} {F F' : Nat → Prop}
theorem mine_stp (h : Mine W w F) (s : Stp F F' w w') : Mine W w' F' :=
  ⟨kept_tn h.1 h.2 s.1, fun k hk => by
    rcases s.2 k hk with h1 | h1
    · exact h.2 k h1
    · exact Nat.le_trans h.1.2 h1⟩
theorem mine_tn (h : Mine W w F) (s : Tn F w w') : Mine W w' F := mine_stp h (stp_tn s)
theorem mine_kept (h : Mine W w F) (k : Kept w w') : Mine W w' F := mine_tn h (tn_kept k)
end
theorem wf_small {a : Int} (h0 : -9223372036854775808 ≤ a) (h1 : a ≤ 9223372036854775807) : Wf a := WalkArith.wf_i64 (by omega)
theorem wu_small {a : Int} (h0 : 0 ≤ a) (h1 : a ≤ 18446744073709551615) : Wu a := WalkArith.wf_u64 (by omega)
set_option maxHeartbeats 1600000 in
theorem fixed_any (w : World) : Calls Try.prog 17 #[] w fun e w' => e = .returned (.bool true) ∧ Kept w w' := by
  go_enter Try.func17, Try.ntmps17
  go_wp2_with fail
  refine (new_any _).mono ?_
  rintro e w1 ⟨X, F1, rfl, k1, g1, f1⟩
  have HG1 := hid g1
  have HM1 : Hid (Mine w w1 F1) := hid ⟨k1, f1⟩
  clear k1 g1 f1
  go_wp2_with fail
  refine (add_any 1 70 (wf_small (by omega) (by omega)) (wu_small (by omega) (by omega)) (by decide) _ HG1.out).mono ?_
  rintro e w2 ⟨rfl, F2, s2, g2⟩
  have HG2 : Hid (Good w2 F2 X [(70, 1)]) := hid (by have e : ins (70, 1) (wo [] 1) = [(70, 1)] := by decide
                                                     rw [e] at g2; exact g2)
  have HM2 := hid (mine_stp HM1.out s2)
  clear s2 g2 HG1 HM1
  go_wp2_with fail
  refine (add_any 2 6 (wf_small (by omega) (by omega)) (wu_small (by omega) (by omega)) (by decide) _ HG2.out).mono ?_
  rintro e w3 ⟨rfl, F3, s3, g3⟩
  have HG3 : Hid (Good w3 F3 X [(6, 2), (70, 1)]) := hid (by have e : ins (6, 2) (wo [(70, 1)] 2) = [(6, 2), (70, 1)] := by decide
                                                             rw [e] at g3; exact g3)
  have HM3 := hid (mine_stp HM2.out s3)
  clear s3 g3 HG2 HM2
  go_wp2_with fail
  refine (add_any 1 8 (wf_small (by omega) (by omega)) (wu_small (by omega) (by omega)) (by decide) _ HG3.out).mono ?_
  rintro e w4 ⟨rfl, F4, s4, g4⟩
  have HG4 : Hid (Good w4 F4 X [(6, 2), (8, 1)]) := hid (by have e : ins (8, 1) (wo [(6, 2), (70, 1)] 1) = [(6, 2), (8, 1)] := by decide
                                                            rw [e] at g4; exact g4)
  have HM4 := hid (mine_stp HM3.out s4)
  clear s4 g4 HG3 HM3
  go_wp2_with fail
  refine (due_any 7 (by decide) _ HG4.out).mono ?_
  rintro e w5 ⟨v5, rfl, o5, t5, g5⟩
  have e5 : ids (due [(6, 2), (8, 1)] 7) = [2] := by decide
  have a5 : aft [(6, 2), (8, 1)] 7 = [(8, 1)] := by decide
  rw [e5] at o5
  rw [a5] at g5
  have HO5 := hid (rw_kept (rw_own o5) (kept_alloc (kept_refl w5) (.cells #[.int .i64 2] 3)))
  have HP5 : Hid (Rw (w5.alloc (.cells #[.int .i64 2] 3)) (.slice (some ⟨w5.heap.size, 0, none⟩) 1 1) [2]) := hid (rw_own (own_built w5 0 (Nat.zero_le _) [2] (by decide)))
  have HG5 := hid (good_kept g5 (kept_alloc (kept_refl w5) (.cells #[.int .i64 2] 3)))
  have HM5 := hid (mine_kept (mine_tn HM4.out t5) (kept_alloc (kept_refl w5) (.cells #[.int .i64 2] 3)))
  clear o5 t5 g5 e5 a5 HG4 HM4
  go_wp2_with fail
  refine (same_any [2] (by decide) _ _ _ HO5.out HP5.out).mono ?_
  rintro e w6 ⟨rfl, k6⟩
  have HG6 := hid (good_kept HG5.out k6)
  have HM6 := hid (mine_kept HM5.out k6)
  clear k6 HO5 HP5 HG5 HM5
  go_wp2_with fail
  refine (due_any 8 (by decide) _ HG6.out).mono ?_
  rintro e w7 ⟨v7, rfl, o7, t7, g7⟩
  have e7 : ids (due [(8, 1)] 8) = [1] := by decide
  have a7 : aft [(8, 1)] 8 = [] := by decide
  rw [e7] at o7
  rw [a7] at g7
  have HO7 := hid (rw_kept (rw_own o7) (kept_alloc (kept_refl w7) (.cells #[.int .i64 1] 3)))
  have HP7 : Hid (Rw (w7.alloc (.cells #[.int .i64 1] 3)) (.slice (some ⟨w7.heap.size, 0, none⟩) 1 1) [1]) := hid (rw_own (own_built w7 0 (Nat.zero_le _) [1] (by decide)))
  have HG7 := hid (good_kept g7 (kept_alloc (kept_refl w7) (.cells #[.int .i64 1] 3)))
  have HM7 := hid (mine_kept (mine_tn HM6.out t7) (kept_alloc (kept_refl w7) (.cells #[.int .i64 1] 3)))
  clear o7 t7 g7 e7 a7 HG6 HM6
  go_wp2_with fail
  refine (same_any [1] (by decide) _ _ _ HO7.out HP7.out).mono ?_
  rintro e w8 ⟨rfl, k8⟩
  have HG8 := hid (good_kept HG7.out k8)
  have HM8 := hid (mine_kept HM7.out k8)
  clear k8 HO7 HP7 HG7 HM7
  go_wp2_with fail
  refine (due_any 100 (by decide) _ HG8.out).mono ?_
  rintro e w9 ⟨v9, rfl, o9, t9, g9⟩
  have e9 : ids (due [] 100) = [] := by decide
  rw [e9] at o9
  obtain ⟨a, c, rfl, -⟩ := rw_own o9
  have HM9 := hid (mine_tn HM8.out t9)
  clear o9 t9 g9 e9
  go_wp2_with fail
  go_ret
  exact ⟨rfl, HM9.out.1⟩
set_option maxHeartbeats 1600000 in
theorem nil_walk (id t : Int) (w : World) (h0 : (Lit.int .i64 id).wf = true) (h1 : (Lit.int .u64 t).wf = true) : Calls Try.prog 5 #[.int .i64 id, .int .u64 t] w fun e w' => e = .returned (.bool true) ∧ Kept w w' := by
  go_enter Try.func5, Try.ntmps5
  go_wp2_with fail
  refine (add_nil _ _ _).mono ?_
  rintro e w1 ⟨rfl, rfl⟩
  go_wp2_with fail
  refine (next_nil _).mono ?_
  rintro e w2 ⟨rfl, rfl⟩
  go_wp2_with fail
  refine (fixed_any _).mono ?_
  rintro e w3 ⟨rfl, k3⟩
  have HK := hid k3
  clear k3
  go_wp2_with fail
  refine (drop_nil _ _).mono ?_
  rintro e w4 ⟨rfl, rfl⟩
  go_wp2_with fail
  refine (due_nil _ _).mono ?_
  rintro e w5 ⟨rfl, rfl⟩
  go_wp2_with fail
  refine (len_nil _).mono ?_
  rintro e w6 ⟨rfl, rfl⟩
  go_wp2_with fail
  go_ret
  exact ⟨rfl, HK.out⟩
end Go.Proofs.Ytdmgdmhggmehgaa
