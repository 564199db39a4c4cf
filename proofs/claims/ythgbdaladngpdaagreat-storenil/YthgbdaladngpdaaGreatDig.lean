/- The contracts of the reference's functions on one record, and of both that give a record's number. Each answers what the plain function does and turns nothing that was there. -/
import Derived.Test.YthgbdaladngpdaaGreatMay
import Derived.Test.YthgbdaladngpdaaGreatMixTexts
namespace Go.Proofs.YthgbdaladngpdaaGreat
open Go.ChangeShapes Go.WideShapes Go.ChangeAt Go.RowKit
set_option linter.unusedVariables false
set_option maxRecDepth 100000
set_option linter.unusedSimpArgs false


theorem may_false_body (r : R) (hr : r.ok) (h : 1024 < r.body.size) : mayR r = false := by
  have : contentMay r = false := by
    unfold contentMay
    split
    · rw [show decide (r.body.size = 0) = false from decide_eq_false (by omega)]; simp
    · split
      · rw [show decide (r.body.size ≤ 1024) = false from decide_eq_false (by omega)]; simp
      · rfl
  unfold mayR; rw [this]; simp
theorem may_false_exp (r : R) (h : 281474976710655 < r.exp) : mayR r = false := by
  have : contentMay r = false := by
    unfold contentMay
    split
    · rw [show decide (r.exp = 0) = false from decide_eq_false (by omega)]; simp
    · split
      · rw [show decide (r.exp ≤ 281474976710655) = false from decide_eq_false (by omega)]; simp
      · rfl
  unfold mayR; rw [this]; simp
theorem may_false_p (r : R) (h : 281474976710655 < r.s.p) : mayR r = false := by
  unfold mayR stampMay; rw [show decide (r.s.p ≤ 281474976710655) = false from decide_eq_false (by omega)]; simp
theorem may_false_n (r : R) (h : 63 < r.s.n) : mayR r = false := by
  unfold mayR stampMay; rw [show decide (r.s.n < 64) = false from decide_eq_false (by omega)]; simp
theorem may_rest (r : R) (h1 : keyMay r.key = true) (h2 : ¬ 281474976710655 < r.s.p) (h3 : ¬ 63 < r.s.n) : mayR r = contentMay r := by
  unfold mayR stampMay; rw [h1, decide_eq_true (by omega), decide_eq_true (by omega)]; simp
set_option maxHeartbeats 3200000 in
theorem refMay_any (r : R) (hr : r.ok) (w : World) :
    Calls Tryz.prog 46 #[.agg #[.string r.key, .int .u64 r.s.p, .int .u32 r.s.l, .int .u8 r.s.n, .int .u8 r.kind, .int .u32 r.flags, .int .u64 r.exp, .string r.body]] w fun e w' => e = .returned (.bool (mayR r)) ∧ Kept w w' := by
  have HK : Hid (Kept w (w.alloc (.cells #[.string r.key, .int .u64 r.s.p, .int .u32 r.s.l, .int .u8 r.s.n, .int .u8 r.kind, .int .u32 r.flags, .int .u64 r.exp, .string r.body] 42))) := kept_alloc (kept_refl w) _
  have hk := hr.1
  have hb : r.body.size ≤ 2 ^ 63 - 1 := hr.2.2.2.2.2
  cases h1 : keyMay r.key with
  | false =>
    have HE : Hid (false = mayR r) := by show _ = _; unfold mayR; rw [h1]; rfl
    clear hr
    go_enter Tryz.func46, Tryz.ntmps46
    go_wp2_with fail
    refine (refKeyMay_any r.key hk _).mono ?_
    rintro e w1 ⟨rfl, rfl⟩
    rw [h1]
    go_wp2_with fail
    go_ret
    exact ⟨ret_bool HE.out, HK.out⟩
  | true =>
    by_cases h2 : 281474976710655 < r.s.p
    · have HE : Hid (false = mayR r) := (may_false_p r h2).symm
      clear hr
      go_enter Tryz.func46, Tryz.ntmps46
      go_wp2_with fail
      refine (refKeyMay_any r.key hk _).mono ?_
      rintro e w1 ⟨rfl, rfl⟩
      rw [h1]
      go_wp2_with fail
      go_ret
      exact ⟨ret_bool HE.out, HK.out⟩
    by_cases h3 : 63 < r.s.n
    · have HE : Hid (false = mayR r) := (may_false_n r h3).symm
      clear hr
      go_enter Tryz.func46, Tryz.ntmps46
      go_wp2_with fail
      refine (refKeyMay_any r.key hk _).mono ?_
      rintro e w1 ⟨rfl, rfl⟩
      rw [h1]
      go_wp2_with fail
      go_ret
      exact ⟨ret_bool HE.out, HK.out⟩
    have HM : Hid (mayR r = contentMay r) := may_rest r h1 h2 h3
    by_cases h4 : 281474976710655 < r.exp
    · have HE : Hid (false = mayR r) := (may_false_exp r h4).symm
      clear hr
      go_enter Tryz.func46, Tryz.ntmps46
      go_wp2_with fail
      refine (refKeyMay_any r.key hk _).mono ?_
      rintro e w1 ⟨rfl, rfl⟩
      rw [h1]
      go_wp2_with fail
      go_ret
      exact ⟨ret_bool HE.out, HK.out⟩
    by_cases h5 : (1024 : Int) < (r.body.size : Int)
    · have HE : Hid (false = mayR r) := (may_false_body r hr (by omega)).symm
      clear hr
      go_enter Tryz.func46, Tryz.ntmps46
      go_wp2_with fail
      refine (refKeyMay_any r.key hk _).mono ?_
      rintro e w1 ⟨rfl, rfl⟩
      rw [h1]
      go_wp2_with fail
      go_ret
      exact ⟨ret_bool HE.out, HK.out⟩
    clear hr
    by_cases k1 : r.kind = 1 ∨ r.kind = 2
    · have k3 : (r.kind == 1) = true ∨ ((r.kind == 1) = false ∧ (r.kind == 2) = true) := by
        rcases k1 with h | h <;> simp [h]
      have HE : Hid (contentMay r = (decide (r.flags = 0) && (decide (r.exp = 0) && decide (r.body.size = 0)))) := by
        show _ = _
        unfold contentMay; rw [if_pos k1]
      clear k1
      rcases k3 with k1 | ⟨k1, k2⟩
      all_goals
        by_cases f1 : r.flags = 0
        · have g1 : (r.flags == 0) = true := by simpa using f1
          by_cases f2 : r.exp = 0
          · have g2 : (r.exp == 0) = true := by simpa using f2
            have HE2 : Hid (r.body.toList.isEmpty = mayR r) := by
              show _ = _
              rw [HM.out, HE.out, empty_iff, f1, f2]; simp
            clear f1 f2 HE
            go_enter Tryz.func46, Tryz.ntmps46
            go_wp2_with fail
            refine (refKeyMay_any r.key hk _).mono ?_
            rintro e w1 ⟨rfl, rfl⟩
            rw [h1]
            go_wp2_with fail
            go_ret
            exact ⟨ret_bool HE2.out, HK.out⟩
          · have g2 : (r.exp == 0) = false := by simpa using f2
            have HE2 : Hid (false = mayR r) := by
              show _ = _
              rw [HM.out, HE.out, decide_eq_false f2]; simp
            clear f1 f2 HE
            go_enter Tryz.func46, Tryz.ntmps46
            go_wp2_with fail
            refine (refKeyMay_any r.key hk _).mono ?_
            rintro e w1 ⟨rfl, rfl⟩
            rw [h1]
            go_wp2_with fail
            go_ret
            exact ⟨ret_bool HE2.out, HK.out⟩
        · have g1 : (r.flags == 0) = false := by simpa using f1
          have HE2 : Hid (false = mayR r) := by
            show _ = _
            rw [HM.out, HE.out, decide_eq_false f1]; simp
          clear f1 HE
          go_enter Tryz.func46, Tryz.ntmps46
          go_wp2_with fail
          refine (refKeyMay_any r.key hk _).mono ?_
          rintro e w1 ⟨rfl, rfl⟩
          rw [h1]
          go_wp2_with fail
          go_ret
          exact ⟨ret_bool HE2.out, HK.out⟩
    · have g1 : (r.kind == 1) = false := by simp; omega
      have g2 : (r.kind == 2) = false := by simp; omega
      have HE2 : Hid ((r.kind == 3) = mayR r) := by
        show _ = _
        rw [HM.out]
        unfold contentMay
        rw [if_neg k1]
        by_cases k3 : r.kind = 3
        · rw [if_pos k3, decide_eq_true (by omega), decide_eq_true (by omega)]; simp [k3]
        · rw [if_neg k3]; simp [k3]
      clear k1
      go_enter Tryz.func46, Tryz.ntmps46
      go_wp2_with fail
      refine (refKeyMay_any r.key hk _).mono ?_
      rintro e w1 ⟨rfl, rfl⟩
      rw [h1]
      go_wp2_with fail
      go_ret
      exact ⟨ret_bool HE2.out, HK.out⟩
def digR (r : R) : Int := twoI (twoI (twoI (twoI (textI r.key.data.toList r.key.size) r.s.p) (IntKind.u64.wrap r.s.l)) (IntKind.u64.wrap r.s.n)) (IntKind.u64.wrap r.kind)
theorem wf_twoI (x y : Int) : (Lit.int .u64 (twoI x y)).wf = true := wf_mixI _
set_option maxHeartbeats 1600000 in
theorem Digest_any (r : R) (hk : r.key.size ≤ maxLen) (w : World) :
    Calls Tryz.prog 77 #[.agg #[.string r.key, .int .u64 r.s.p, .int .u32 r.s.l, .int .u8 r.s.n, .int .u8 r.kind, .int .u32 r.flags, .int .u64 r.exp, .string r.body]] w fun e w' => e = .returned (.int .u64 (digR r)) ∧ Kept w w' := by
  have HK : Hid (Kept w (w.alloc (.cells #[.string r.key, .int .u64 r.s.p, .int .u32 r.s.l, .int .u8 r.s.n, .int .u8 r.kind, .int .u32 r.flags, .int .u64 r.exp, .string r.body] 42))) := kept_alloc (kept_refl w) _
  unfold digR
  go_enter Tryz.func77, Tryz.ntmps77
  go_wp2_with fail
  refine (text_any r.key hk _).mono ?_
  rintro e w' ⟨rfl, rfl⟩
  generalize e0 : textI r.key.data.toList r.key.size = t0
  go_wp2_with fail
  refine (two_any _ _ _).mono ?_
  rintro e w' ⟨rfl, rfl⟩
  generalize e1 : twoI t0 r.s.p = t1
  go_wp2_with fail
  refine (two_any _ _ _).mono ?_
  rintro e w' ⟨rfl, rfl⟩
  generalize e2 : twoI t1 (IntKind.u64.wrap r.s.l) = t2
  go_wp2_with fail
  refine (two_any _ _ _).mono ?_
  rintro e w' ⟨rfl, rfl⟩
  generalize e3 : twoI t2 (IntKind.u64.wrap r.s.n) = t3
  go_wp2_with fail
  refine (two_any _ _ _).mono ?_
  rintro e w' ⟨rfl, rfl⟩
  generalize e4 : twoI t3 (IntKind.u64.wrap r.kind) = t4
  go_wp2_with fail
  go_ret
  subst e4 e3 e2 e1 e0
  exact ⟨rfl, HK.out⟩
set_option maxHeartbeats 1600000 in
theorem refDigest_any (r : R) (hk : r.key.size ≤ maxLen) (w : World) :
    Calls Tryz.prog 54 #[.agg #[.string r.key, .int .u64 r.s.p, .int .u32 r.s.l, .int .u8 r.s.n, .int .u8 r.kind, .int .u32 r.flags, .int .u64 r.exp, .string r.body]] w fun e w' => e = .returned (.int .u64 (digR r)) ∧ Kept w w' := by
  have HK : Hid (Kept w (w.alloc (.cells #[.string r.key, .int .u64 r.s.p, .int .u32 r.s.l, .int .u8 r.s.n, .int .u8 r.kind, .int .u32 r.flags, .int .u64 r.exp, .string r.body] 42))) := kept_alloc (kept_refl w) _
  unfold digR
  go_enter Tryz.func54, Tryz.ntmps54
  go_wp2_with fail
  refine (reftext_any r.key hk _).mono ?_
  rintro e w' ⟨rfl, rfl⟩
  have h0 := wf_textI r.key.data.toList r.key.size
  generalize e0 : textI r.key.data.toList r.key.size = t0 at *
  go_wp2_with fail
  refine (reftwo_any _ _ h0 _).mono ?_
  rintro e w' ⟨rfl, rfl⟩
  have h1 := wf_twoI t0 r.s.p
  clear h0
  generalize e1 : twoI t0 r.s.p = t1 at *
  go_wp2_with fail
  refine (reftwo_any _ _ h1 _).mono ?_
  rintro e w' ⟨rfl, rfl⟩
  have h2 := wf_twoI t1 (IntKind.u64.wrap r.s.l)
  clear h1
  generalize e2 : twoI t1 (IntKind.u64.wrap r.s.l) = t2 at *
  go_wp2_with fail
  refine (reftwo_any _ _ h2 _).mono ?_
  rintro e w' ⟨rfl, rfl⟩
  have h3 := wf_twoI t2 (IntKind.u64.wrap r.s.n)
  clear h2
  generalize e3 : twoI t2 (IntKind.u64.wrap r.s.n) = t3 at *
  go_wp2_with fail
  refine (reftwo_any _ _ h3 _).mono ?_
  rintro e w' ⟨rfl, rfl⟩
  clear h3
  generalize e4 : twoI t3 (IntKind.u64.wrap r.kind) = t4
  go_wp2_with fail
  go_ret
  subst e4 e3 e2 e1 e0
  exact ⟨rfl, HK.out⟩
end Go.Proofs.YthgbdaladngpdaaGreat
