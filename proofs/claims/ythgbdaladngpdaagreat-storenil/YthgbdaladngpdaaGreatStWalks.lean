/- The contracts of the functions on stamps: each answers what the plain function does, and turns nothing that was there. No condition. -/
import Derived.Test.YthgbdaladngpdaaGreatState
import Derived.Test.YthgbdaladngpdaaGreatStMath
namespace Go.Proofs.YthgbdaladngpdaaGreat
open Go.ChangeShapes Go.WideShapes Go.ChangeAt Go.RowKit
set_option linter.unusedVariables false
set_option maxRecDepth 100000
set_option linter.unusedSimpArgs false

theorem ret_bool {a b : Bool} (h : a = b) : Ending.returned (.bool a) = .returned (.bool b) := by rw [h]
theorem ret_int {k : IntKind} {a b : Int} (h : a = b) : Ending.returned (.int k a) = .returned (.int k b) := by rw [h]
theorem bne_ne {a b : Int} (h : (a != b) = true) : a ≠ b := by simpa using h
theorem bne_eq {a b : Int} (h : (a != b) = false) : a = b := by simpa using h
theorem lt_first {a b : Stp} (h : a.p ≠ b.p) : decide (a.p < b.p) = lt a b := by
  rw [Bool.eq_iff_iff, lt_iff]; unfold Lt; simp; omega
theorem lt_second {a b : Stp} (h : a.p = b.p) (k : a.l ≠ b.l) : decide (a.l < b.l) = lt a b := by
  rw [Bool.eq_iff_iff, lt_iff]; unfold Lt; simp; omega
theorem lt_third {a b : Stp} (h : a.p = b.p) (k : a.l = b.l) : decide (a.n < b.n) = lt a b := by
  rw [Bool.eq_iff_iff, lt_iff]; unfold Lt; simp; omega
theorem ahead_any (a b : Stp) (w : World) :
    Calls Tryz.prog 97 #[.agg #[.int .u64 a.p, .int .u32 a.l, .int .u8 a.n], .agg #[.int .u64 b.p, .int .u32 b.l, .int .u8 b.n]] w fun e w' => e = .returned (.bool (lt a b)) ∧ Kept w w' := by
  have HK : Hid (Kept w ((w.alloc (.cells #[.int .u64 a.p, .int .u32 a.l, .int .u8 a.n] 33)).alloc (.cells #[.int .u64 b.p, .int .u32 b.l, .int .u8 b.n] 33))) := kept_alloc (kept_alloc (kept_refl w) _) _
  by_cases h1 : a.p = b.p
  · by_cases h2 : a.l = b.l
    · have g1 : (a.p != b.p) = false := by simpa using h1
      have g2 : (a.l != b.l) = false := by simpa using h2
      have H : Hid (decide (a.n < b.n) = lt a b) := lt_third h1 h2
      clear h1 h2
      go_enter Tryz.func97, Tryz.ntmps97
      go_wp2
      go_ret
      exact ⟨ret_bool H.out, HK.out⟩
    · have g1 : (a.p != b.p) = false := by simpa using h1
      have g2 : (a.l != b.l) = true := by simpa using h2
      have H : Hid (decide (a.l < b.l) = lt a b) := lt_second h1 h2
      clear h1 h2
      go_enter Tryz.func97, Tryz.ntmps97
      go_wp2
      go_ret
      exact ⟨ret_bool H.out, HK.out⟩
  · have g1 : (a.p != b.p) = true := by simpa using h1
    have H : Hid (decide (a.p < b.p) = lt a b) := lt_first h1
    clear h1
    go_enter Tryz.func97, Tryz.ntmps97
    go_wp2
    go_ret
    exact ⟨ret_bool H.out, HK.out⟩
theorem less_any (a b : Stp) (w : World) :
    Calls Tryz.prog 47 #[.agg #[.int .u64 a.p, .int .u32 a.l, .int .u8 a.n], .agg #[.int .u64 b.p, .int .u32 b.l, .int .u8 b.n]] w fun e w' => e = .returned (.bool (lt a b)) ∧ Kept w w' := by
  have HK : Hid (Kept w ((w.alloc (.cells #[.int .u64 a.p, .int .u32 a.l, .int .u8 a.n] 33)).alloc (.cells #[.int .u64 b.p, .int .u32 b.l, .int .u8 b.n] 33))) := kept_alloc (kept_alloc (kept_refl w) _) _
  by_cases h1 : a.p = b.p
  · by_cases h2 : a.l = b.l
    · have g1 : (a.p != b.p) = false := by simpa using h1
      have g2 : (a.l != b.l) = false := by simpa using h2
      have H : Hid (decide (a.n < b.n) = lt a b) := lt_third h1 h2
      clear h1 h2
      go_enter Tryz.func47, Tryz.ntmps47
      go_wp2
      go_ret
      exact ⟨ret_bool H.out, HK.out⟩
    · have g1 : (a.p != b.p) = false := by simpa using h1
      have g2 : (a.l != b.l) = true := by simpa using h2
      have H : Hid (decide (a.l < b.l) = lt a b) := lt_second h1 h2
      clear h1 h2
      go_enter Tryz.func47, Tryz.ntmps47
      go_wp2
      go_ret
      exact ⟨ret_bool H.out, HK.out⟩
  · have g1 : (a.p != b.p) = true := by simpa using h1
    have H : Hid (decide (a.p < b.p) = lt a b) := lt_first h1
    clear h1
    go_enter Tryz.func47, Tryz.ntmps47
    go_wp2
    go_ret
    exact ⟨ret_bool H.out, HK.out⟩
theorem eq_stamp (a b : Stp) (w : World) : (Op.equalIn 10000 33 (.agg #[.int .u64 a.p, .int .u32 a.l, .int .u8 a.n]) (.agg #[.int .u64 b.p, .int .u32 b.l, .int .u8 b.n])).run Tryz.prog w = .ok (same a b) w := by
  go_simp
  unfold same
  by_cases h1 : a.p = b.p <;> by_cases h2 : a.l = b.l <;> by_cases h3 : a.n = b.n <;> simp [h1, h2, h3]
theorem compare_any (a b : Stp) (w : World) :
    Calls Tryz.prog 70 #[.agg #[.int .u64 a.p, .int .u32 a.l, .int .u8 a.n], .agg #[.int .u64 b.p, .int .u32 b.l, .int .u8 b.n]] w fun e w' => e = .returned (.int .i64 (cmp a b)) ∧ Kept w w' := by
  have HK : Hid (Kept w ((w.alloc (.cells #[.int .u64 a.p, .int .u32 a.l, .int .u8 a.n] 33)).alloc (.cells #[.int .u64 b.p, .int .u32 b.l, .int .u8 b.n] 33))) := kept_alloc (kept_alloc (kept_refl w) _) _
  have hE := eq_stamp a b
  by_cases h : a = b
  · have hs : same a b = true := (same_iff a b).2 h
    have hC : Hid (0 = cmp a b) := ((cmp_zero a b).2 h).symm
    clear h
    go_enter Tryz.func70, Tryz.ntmps70
    go_wp2_with fail
    go_ret
    exact ⟨ret_int hC.out, HK.out⟩
  · have hs : same a b = false := (same_false a b).2 h
    by_cases hl : Lt a b
    · have hC : Hid (-1 = cmp a b) := (cmp_lt hl).symm
      have hL : lt a b = true := (lt_iff a b).2 hl
      clear h hl
      go_enter Tryz.func70, Tryz.ntmps70
      go_wp2_with fail
      refine (ahead_any a b _).mono ?_
      rintro e w1 ⟨rfl, h1⟩
      have K1 := kept_trans HK.out h1
      go_wp2_with fail
      go_ret
      exact ⟨ret_int hC.out, K1⟩
    · have hC : Hid (1 = cmp a b) := (cmp_gt (Classical.byContradiction fun hn => h (lt_total hl hn))).symm
      have hL : lt a b = false := (lt_false a b).2 hl
      clear h hl
      go_enter Tryz.func70, Tryz.ntmps70
      go_wp2_with fail
      refine (ahead_any a b _).mono ?_
      rintro e w1 ⟨rfl, h1⟩
      have K1 := kept_trans HK.out h1
      go_wp2_with fail
      go_ret
      exact ⟨ret_int hC.out, K1⟩

end Go.Proofs.YthgbdaladngpdaaGreat
