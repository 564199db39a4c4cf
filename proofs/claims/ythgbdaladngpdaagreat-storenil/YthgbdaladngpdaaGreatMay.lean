/- The contracts of the functions on one record: which may be, which is live. Each answers what the plain function does and turns nothing that was there. -/
import Derived.Test.YthgbdaladngpdaaGreatSmall
namespace Go.Proofs.YthgbdaladngpdaaGreat
open Go.ChangeShapes Go.WideShapes Go.ChangeAt Go.RowKit
set_option linter.unusedVariables false
set_option maxRecDepth 100000
set_option linter.unusedSimpArgs false

theorem at_cells8' {w : World} {X T : Nat} {r : R} (h : At w X #[.string r.key, .int .u64 r.s.p, .int .u32 r.s.l, .int .u8 r.s.n, .int .u8 r.kind, .int .u32 r.flags, .int .u64 r.exp, .string r.body] T) : w.cell? ⟨X, 0, none⟩ = some (.string r.key) ∧ w.cell? ⟨X, 1, none⟩ = some (.int .u64 r.s.p) ∧ w.cell? ⟨X, 2, none⟩ = some (.int .u32 r.s.l) ∧ w.cell? ⟨X, 3, none⟩ = some (.int .u8 r.s.n) ∧ w.cell? ⟨X, 4, none⟩ = some (.int .u8 r.kind) ∧ w.cell? ⟨X, 5, none⟩ = some (.int .u32 r.flags) ∧ w.cell? ⟨X, 6, none⟩ = some (.int .u64 r.exp) ∧ w.cell? ⟨X, 7, none⟩ = some (.string r.body) :=
  ⟨at_cell h 0, at_cell h 1, at_cell h 2, at_cell h 3, at_cell h 4, at_cell h 5, at_cell h 6, at_cell h 7⟩
theorem empty_iff (b : ByteArray) : b.toList.isEmpty = decide (b.size = 0) := by
  rw [ByteArray.toList_eq, Bool.eq_iff_iff]
  have : b.size = b.data.toList.length := by simp
  rw [this, List.isEmpty_iff, decide_eq_true_iff, List.length_eq_zero_iff]
set_option maxHeartbeats 1600000 in
theorem contentMay_any (r : R) (hb : r.body.size ≤ maxLen) (w : World) :
    Calls Tryz.prog 67 #[.agg #[.string r.key, .int .u64 r.s.p, .int .u32 r.s.l, .int .u8 r.s.n, .int .u8 r.kind, .int .u32 r.flags, .int .u64 r.exp, .string r.body]] w fun e w' => e = .returned (.bool (contentMay r)) ∧ Kept w w' := by
  have HK : Hid (Kept w (w.alloc (.cells #[.string r.key, .int .u64 r.s.p, .int .u32 r.s.l, .int .u8 r.s.n, .int .u8 r.kind, .int .u32 r.flags, .int .u64 r.exp, .string r.body] 42))) := kept_alloc (kept_refl w) _
  unfold maxLen at hb
  by_cases k1 : r.kind = 1 ∨ r.kind = 2
  · have k3 : (r.kind == 1) = true ∨ ((r.kind == 1) = false ∧ (r.kind == 2) = true) := by
      rcases k1 with h | h <;> simp [h]
    have HE : Hid (contentMay r = (decide (r.flags = 0) && (decide (r.exp = 0) && decide (r.body.size = 0)))) := by
      show _ = _
      unfold contentMay; rw [if_pos k1]
    clear k1
    rcases k3 with k1 | ⟨k1, k2⟩
    all_goals
      by_cases f1 : r.flags = 0
      · have g1 : (r.flags == 0) = true := by simpa using f1
        by_cases f2 : r.exp = 0
        · have g2 : (r.exp == 0) = true := by simpa using f2
          have HE2 : Hid (r.body.toList.isEmpty = contentMay r) := by
            show _ = _
            rw [HE.out, empty_iff, f1, f2]; simp
          clear f1 f2 HE
          go_enter Tryz.func67, Tryz.ntmps67
          go_wp2
          go_ret
          exact ⟨ret_bool HE2.out, HK.out⟩
        · have g2 : (r.exp == 0) = false := by simpa using f2
          have HE2 : Hid (false = contentMay r) := by
            show _ = _
            rw [HE.out, decide_eq_false f2]; simp
          clear f1 f2 HE
          go_enter Tryz.func67, Tryz.ntmps67
          go_wp2
          go_ret
          exact ⟨ret_bool HE2.out, HK.out⟩
      · have g1 : (r.flags == 0) = false := by simpa using f1
        have HE2 : Hid (false = contentMay r) := by
          show _ = _
          rw [HE.out, decide_eq_false f1]; simp
        clear f1 HE
        go_enter Tryz.func67, Tryz.ntmps67
        go_wp2
        go_ret
        exact ⟨ret_bool HE2.out, HK.out⟩
  · have g1 : (r.kind == 1) = false := by simp; omega
    have g2 : (r.kind == 2) = false := by simp; omega
    by_cases k3 : r.kind = 3
    · have g3 : (r.kind == 3) = true := by simpa using k3
      have HE : Hid (contentMay r = (decide (r.exp ≤ 281474976710655) && decide (r.body.size ≤ 1024))) := by
        show _ = _
        unfold contentMay; rw [if_neg k1, if_pos k3]
      clear k1 k3
      by_cases f1 : r.exp ≤ 281474976710655
      · have HE2 : Hid (decide ((r.body.size : Int) ≤ 1024) = contentMay r) := by
          show _ = _
          rw [HE.out, decide_eq_true f1, Bool.true_and]
          rw [Bool.eq_iff_iff, decide_eq_true_iff, decide_eq_true_iff]; omega
        clear HE
        go_enter Tryz.func67, Tryz.ntmps67
        go_wp2
        go_ret
        exact ⟨ret_bool HE2.out, HK.out⟩
      · have HE2 : Hid (false = contentMay r) := by
          show _ = _
          rw [HE.out, decide_eq_false f1]; simp
        clear HE
        go_enter Tryz.func67, Tryz.ntmps67
        go_wp2
        go_ret
        exact ⟨ret_bool HE2.out, HK.out⟩
    · have g3 : (r.kind == 3) = false := by simpa using k3
      have HE2 : Hid (false = contentMay r) := by
        show _ = _
        unfold contentMay; rw [if_neg k1, if_neg k3]
      clear k1 k3
      go_enter Tryz.func67, Tryz.ntmps67
      go_wp2
      go_ret
      exact ⟨ret_bool HE2.out, HK.out⟩
set_option maxHeartbeats 1600000 in
theorem May_any (r : R) (hk : r.key.size ≤ maxLen) (hb : r.body.size ≤ maxLen) (w : World) :
    Calls Tryz.prog 36 #[.agg #[.string r.key, .int .u64 r.s.p, .int .u32 r.s.l, .int .u8 r.s.n, .int .u8 r.kind, .int .u32 r.flags, .int .u64 r.exp, .string r.body]] w fun e w' => e = .returned (.bool (mayR r)) ∧ Kept w w' := by
  have HK : Hid (Kept w (w.alloc (.cells #[.string r.key, .int .u64 r.s.p, .int .u32 r.s.l, .int .u8 r.s.n, .int .u8 r.kind, .int .u32 r.flags, .int .u64 r.exp, .string r.body] 42))) := kept_alloc (kept_refl w) _
  have A1 : Hid (At (w.alloc (.cells #[.string r.key, .int .u64 r.s.p, .int .u32 r.s.l, .int .u8 r.s.n, .int .u8 r.kind, .int .u32 r.flags, .int .u64 r.exp, .string r.body] 42)) w.heap.size #[.string r.key, .int .u64 r.s.p, .int .u32 r.s.l, .int .u8 r.s.n, .int .u8 r.kind, .int .u32 r.flags, .int .u64 r.exp, .string r.body] 42) := at_new w _ _
  cases h1 : keyMay r.key with
  | false =>
    have HE : Hid (false = mayR r) := by show _ = _; unfold mayR; rw [h1]; rfl
    go_enter Tryz.func36, Tryz.ntmps36
    go_wp2_with fail
    refine (KeyMay_any r.key hk _).mono ?_
    rintro e w1 ⟨rfl, rfl⟩
    rw [h1]
    go_wp2_with fail
    go_ret
    exact ⟨ret_bool HE.out, HK.out⟩
  | true =>
    cases h2 : stampMay r.s with
    | false =>
      have HE : Hid (false = mayR r) := by show _ = _; unfold mayR; rw [h1, h2]; rfl
      go_enter Tryz.func36, Tryz.ntmps36
      go_wp2_with fail
      refine (KeyMay_any r.key hk _).mono ?_
      rintro e w1 ⟨rfl, rfl⟩
      rw [h1]
      go_wp2_with fail
      refine (stampMay_any r.s _).mono ?_
      rintro e w2 ⟨rfl, k2⟩
      rw [h2]
      have K2 := kept_trans HK.out k2
      clear k2
      go_wp2_with fail
      go_ret
      exact ⟨ret_bool HE.out, K2⟩
    | true =>
      have HE : Hid (contentMay r = mayR r) := by show _ = _; unfold mayR; rw [h1, h2]; rfl
      go_enter Tryz.func36, Tryz.ntmps36
      go_wp2_with fail
      refine (KeyMay_any r.key hk _).mono ?_
      rintro e w1 ⟨rfl, rfl⟩
      rw [h1]
      go_wp2_with fail
      refine (stampMay_any r.s _).mono ?_
      rintro e w2 ⟨rfl, k2⟩
      rw [h2]
      have K2 := kept_trans HK.out k2
      obtain ⟨c0, c1, c2, c3, c4, c5, c6, c7⟩ := at_cells8' (at_kept A1.out k2)
      clear k2
      go_wp2_with fail
      refine (contentMay_any r hb _).mono ?_
      rintro e w3 ⟨rfl, k3⟩
      have K3 := kept_trans K2 k3
      clear k3 c0 c1 c2 c3 c4 c5 c6 c7
      go_wp2_with fail
      go_ret
      exact ⟨ret_bool HE.out, K3⟩

end Go.Proofs.YthgbdaladngpdaaGreat
