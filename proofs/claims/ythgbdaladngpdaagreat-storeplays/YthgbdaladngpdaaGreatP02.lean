/- The contracts of the functions on one record: which may be, which is live. Each answers what the plain function does and turns nothing that was there. The contracts of the reference's functions on one record, and of both that give a record's number. Each answers what the plain function does and turns nothing that was there. The plain mathematics of a store: its records as a row, the one used last first, its floors; what Put, Get and Purge make of it; ranges and digests. No condition but those that are stated. A store's places, by their use, beside what its table and its wheel have (Coh); what  -/
import Derived.Test.YthgbdaladngpdaaGreatP01
import Derived.Lib.Strings
import Derived.Lib.Slices
import Derived.Lib.Walk
import Derived.BigQuiet
/- The contracts of the functions on one record: which may be, which is live. Each answers what the plain function does and turns nothing that was there. -/
namespace Go.Proofs.YthgbdaladngpdaaGreat
open Go.ChangeShapes Go.WideShapes Go.ChangeAt Go.RowKit
set_option linter.unusedVariables false
set_option maxRecDepth 100000
set_option linter.unusedSimpArgs false

theorem at_cells8' {w : World} {X T : Nat} {r : R} (h : At w X #[.string r.key, .int .u64 r.s.p, .int .u32 r.s.l, .int .u8 r.s.n, .int .u8 r.kind, .int .u32 r.flags, .int .u64 r.exp, .string r.body] T) : w.cell? ⟨X, 0, none⟩ = some (.string r.key) ∧ w.cell? ⟨X, 1, none⟩ = some (.int .u64 r.s.p) ∧ w.cell? ⟨X, 2, none⟩ = some (.int .u32 r.s.l) ∧ w.cell? ⟨X, 3, none⟩ = some (.int .u8 r.s.n) ∧ w.cell? ⟨X, 4, none⟩ = some (.int .u8 r.kind) ∧ w.cell? ⟨X, 5, none⟩ = some (.int .u32 r.flags) ∧ w.cell? ⟨X, 6, none⟩ = some (.int .u64 r.exp) ∧ w.cell? ⟨X, 7, none⟩ = some (.string r.body) :=
  ⟨at_cell h 0, at_cell h 1, at_cell h 2, at_cell h 3, at_cell h 4, at_cell h 5, at_cell h 6, at_cell h 7⟩
theorem empty_iff (b : ByteArray) : b.toList.isEmpty = decide (b.size = 0) := by
  rw [ByteArray.toList_eq, Bool.eq_iff_iff]
  have : b.size = b.data.toList.length := by simp
  rw [this, List.isEmpty_iff, decide_eq_true_iff, List.length_eq_zero_iff]
set_option maxHeartbeats 1600000 in
theorem contentMay_any (r : R) (hb : r.body.size ≤ maxLen) (w : World) :
    Calls Tryz.prog 67 #[.agg #[.string r.key, .int .u64 r.s.p, .int .u32 r.s.l, .int .u8 r.s.n, .int .u8 r.kind, .int .u32 r.flags, .int .u64 r.exp, .string r.body]] w fun e w' => e = .returned (.bool (contentMay r)) ∧ Kept w w' := by
  have HK : Hid (Kept w (w.alloc (.cells #[.string r.key, .int .u64 r.s.p, .int .u32 r.s.l, .int .u8 r.s.n, .int .u8 r.kind, .int .u32 r.flags, .int .u64 r.exp, .string r.body] 42))) := kept_alloc (kept_refl w) _
  unfold maxLen at hb
  by_cases k1 : r.kind = 1 ∨ r.kind = 2
  · have k3 : (r.kind == 1) = true ∨ ((r.kind == 1) = false ∧ (r.kind == 2) = true) := by
      rcases k1 with h | h <;> simp [h]
    have HE : Hid (contentMay r = (decide (r.flags = 0) && (decide (r.exp = 0) && decide (r.body.size = 0)))) := by
      show _ = _
      unfold contentMay; rw [if_pos k1]
    clear k1
    rcases k3 with k1 | ⟨k1, k2⟩
    all_goals
      by_cases f1 : r.flags = 0
      · have g1 : (r.flags == 0) = true := by simpa using f1
        by_cases f2 : r.exp = 0
        · have g2 : (r.exp == 0) = true := by simpa using f2
          have HE2 : Hid (r.body.toList.isEmpty = contentMay r) := by
            show _ = _
            rw [HE.out, empty_iff, f1, f2]; simp
          clear f1 f2 HE
          go_enter Tryz.func67, Tryz.ntmps67
          go_wp2
          go_ret
          exact ⟨ret_bool HE2.out, HK.out⟩
        · have g2 : (r.exp == 0) = false := by simpa using f2
          have HE2 : Hid (false = contentMay r) := by
            show _ = _
            rw [HE.out, decide_eq_false f2]; simp
          clear f1 f2 HE
          go_enter Tryz.func67, Tryz.ntmps67
          go_wp2
          go_ret
          exact ⟨ret_bool HE2.out, HK.out⟩
      · have g1 : (r.flags == 0) = false := by simpa using f1
        have HE2 : Hid (false = contentMay r) := by
          show _ = _
          rw [HE.out, decide_eq_false f1]; simp
        clear f1 HE
        go_enter Tryz.func67, Tryz.ntmps67
        go_wp2
        go_ret
        exact ⟨ret_bool HE2.out, HK.out⟩
  · have g1 : (r.kind == 1) = false := by simp; omega
    have g2 : (r.kind == 2) = false := by simp; omega
    by_cases k3 : r.kind = 3
    · have g3 : (r.kind == 3) = true := by simpa using k3
      have HE : Hid (contentMay r = (decide (r.exp ≤ 281474976710655) && decide (r.body.size ≤ 1024))) := by
        show _ = _
        unfold contentMay; rw [if_neg k1, if_pos k3]
      clear k1 k3
      by_cases f1 : r.exp ≤ 281474976710655
      · have HE2 : Hid (decide ((r.body.size : Int) ≤ 1024) = contentMay r) := by
          show _ = _
          rw [HE.out, decide_eq_true f1, Bool.true_and]
          rw [Bool.eq_iff_iff, decide_eq_true_iff, decide_eq_true_iff]; omega
        clear HE
        go_enter Tryz.func67, Tryz.ntmps67
        go_wp2
        go_ret
        exact ⟨ret_bool HE2.out, HK.out⟩
      · have HE2 : Hid (false = contentMay r) := by
          show _ = _
          rw [HE.out, decide_eq_false f1]; simp
        clear HE
        go_enter Tryz.func67, Tryz.ntmps67
        go_wp2
        go_ret
        exact ⟨ret_bool HE2.out, HK.out⟩
    · have g3 : (r.kind == 3) = false := by simpa using k3
      have HE2 : Hid (false = contentMay r) := by
        show _ = _
        unfold contentMay; rw [if_neg k1, if_neg k3]
      clear k1 k3
      go_enter Tryz.func67, Tryz.ntmps67
      go_wp2
      go_ret
      exact ⟨ret_bool HE2.out, HK.out⟩
set_option maxHeartbeats 1600000 in
theorem May_any (r : R) (hk : r.key.size ≤ maxLen) (hb : r.body.size ≤ maxLen) (w : World) :
    Calls Tryz.prog 36 #[.agg #[.string r.key, .int .u64 r.s.p, .int .u32 r.s.l, .int .u8 r.s.n, .int .u8 r.kind, .int .u32 r.flags, .int .u64 r.exp, .string r.body]] w fun e w' => e = .returned (.bool (mayR r)) ∧ Kept w w' := by
  have HK : Hid (Kept w (w.alloc (.cells #[.string r.key, .int .u64 r.s.p, .int .u32 r.s.l, .int .u8 r.s.n, .int .u8 r.kind, .int .u32 r.flags, .int .u64 r.exp, .string r.body] 42))) := kept_alloc (kept_refl w) _
  have A1 : Hid (At (w.alloc (.cells #[.string r.key, .int .u64 r.s.p, .int .u32 r.s.l, .int .u8 r.s.n, .int .u8 r.kind, .int .u32 r.flags, .int .u64 r.exp, .string r.body] 42)) w.heap.size #[.string r.key, .int .u64 r.s.p, .int .u32 r.s.l, .int .u8 r.s.n, .int .u8 r.kind, .int .u32 r.flags, .int .u64 r.exp, .string r.body] 42) := at_new w _ _
  cases h1 : keyMay r.key with
  | false =>
    have HE : Hid (false = mayR r) := by show _ = _; unfold mayR; rw [h1]; rfl
    go_enter Tryz.func36, Tryz.ntmps36
    go_wp2_with fail
    refine (KeyMay_any r.key hk _).mono ?_
    rintro e w1 ⟨rfl, rfl⟩
    rw [h1]
    go_wp2_with fail
    go_ret
    exact ⟨ret_bool HE.out, HK.out⟩
  | true =>
    cases h2 : stampMay r.s with
    | false =>
      have HE : Hid (false = mayR r) := by show _ = _; unfold mayR; rw [h1, h2]; rfl
      go_enter Tryz.func36, Tryz.ntmps36
      go_wp2_with fail
      refine (KeyMay_any r.key hk _).mono ?_
      rintro e w1 ⟨rfl, rfl⟩
      rw [h1]
      go_wp2_with fail
      refine (stampMay_any r.s _).mono ?_
      rintro e w2 ⟨rfl, k2⟩
      rw [h2]
      have K2 := kept_trans HK.out k2
      clear k2
      go_wp2_with fail
      go_ret
      exact ⟨ret_bool HE.out, K2⟩
    | true =>
      have HE : Hid (contentMay r = mayR r) := by show _ = _; unfold mayR; rw [h1, h2]; rfl
      go_enter Tryz.func36, Tryz.ntmps36
      go_wp2_with fail
      refine (KeyMay_any r.key hk _).mono ?_
      rintro e w1 ⟨rfl, rfl⟩
      rw [h1]
      go_wp2_with fail
      refine (stampMay_any r.s _).mono ?_
      rintro e w2 ⟨rfl, k2⟩
      rw [h2]
      have K2 := kept_trans HK.out k2
      obtain ⟨c0, c1, c2, c3, c4, c5, c6, c7⟩ := at_cells8' (at_kept A1.out k2)
      clear k2
      go_wp2_with fail
      refine (contentMay_any r hb _).mono ?_
      rintro e w3 ⟨rfl, k3⟩
      have K3 := kept_trans K2 k3
      clear k3 c0 c1 c2 c3 c4 c5 c6 c7
      go_wp2_with fail
      go_ret
      exact ⟨ret_bool HE.out, K3⟩

end Go.Proofs.YthgbdaladngpdaaGreat

/- The contracts of the reference's functions on one record, and of both that give a record's number. Each answers what the plain function does and turns nothing that was there. -/
namespace Go.Proofs.YthgbdaladngpdaaGreat
open Go.ChangeShapes Go.WideShapes Go.ChangeAt Go.RowKit
set_option linter.unusedVariables false
set_option maxRecDepth 100000
set_option linter.unusedSimpArgs false


theorem may_false_body (r : R) (hr : r.ok) (h : 1024 < r.body.size) : mayR r = false := by
  have : contentMay r = false := by
    unfold contentMay
    split
    · rw [show decide (r.body.size = 0) = false from decide_eq_false (by omega)]; simp
    · split
      · rw [show decide (r.body.size ≤ 1024) = false from decide_eq_false (by omega)]; simp
      · rfl
  unfold mayR; rw [this]; simp
theorem may_false_exp (r : R) (h : 281474976710655 < r.exp) : mayR r = false := by
  have : contentMay r = false := by
    unfold contentMay
    split
    · rw [show decide (r.exp = 0) = false from decide_eq_false (by omega)]; simp
    · split
      · rw [show decide (r.exp ≤ 281474976710655) = false from decide_eq_false (by omega)]; simp
      · rfl
  unfold mayR; rw [this]; simp
theorem may_false_p (r : R) (h : 281474976710655 < r.s.p) : mayR r = false := by
  unfold mayR stampMay; rw [show decide (r.s.p ≤ 281474976710655) = false from decide_eq_false (by omega)]; simp
theorem may_false_n (r : R) (h : 63 < r.s.n) : mayR r = false := by
  unfold mayR stampMay; rw [show decide (r.s.n < 64) = false from decide_eq_false (by omega)]; simp
theorem may_rest (r : R) (h1 : keyMay r.key = true) (h2 : ¬ 281474976710655 < r.s.p) (h3 : ¬ 63 < r.s.n) : mayR r = contentMay r := by
  unfold mayR stampMay; rw [h1, decide_eq_true (by omega), decide_eq_true (by omega)]; simp
set_option maxHeartbeats 3200000 in
theorem refMay_any (r : R) (hr : r.ok) (w : World) :
    Calls Tryz.prog 46 #[.agg #[.string r.key, .int .u64 r.s.p, .int .u32 r.s.l, .int .u8 r.s.n, .int .u8 r.kind, .int .u32 r.flags, .int .u64 r.exp, .string r.body]] w fun e w' => e = .returned (.bool (mayR r)) ∧ Kept w w' := by
  have HK : Hid (Kept w (w.alloc (.cells #[.string r.key, .int .u64 r.s.p, .int .u32 r.s.l, .int .u8 r.s.n, .int .u8 r.kind, .int .u32 r.flags, .int .u64 r.exp, .string r.body] 42))) := kept_alloc (kept_refl w) _
  have hk := hr.1
  have hb : r.body.size ≤ 2 ^ 63 - 1 := hr.2.2.2.2.2
  cases h1 : keyMay r.key with
  | false =>
    have HE : Hid (false = mayR r) := by show _ = _; unfold mayR; rw [h1]; rfl
    clear hr
    go_enter Tryz.func46, Tryz.ntmps46
    go_wp2_with fail
    refine (refKeyMay_any r.key hk _).mono ?_
    rintro e w1 ⟨rfl, rfl⟩
    rw [h1]
    go_wp2_with fail
    go_ret
    exact ⟨ret_bool HE.out, HK.out⟩
  | true =>
    by_cases h2 : 281474976710655 < r.s.p
    · have HE : Hid (false = mayR r) := (may_false_p r h2).symm
      clear hr
      go_enter Tryz.func46, Tryz.ntmps46
      go_wp2_with fail
      refine (refKeyMay_any r.key hk _).mono ?_
      rintro e w1 ⟨rfl, rfl⟩
      rw [h1]
      go_wp2_with fail
      go_ret
      exact ⟨ret_bool HE.out, HK.out⟩
    by_cases h3 : 63 < r.s.n
    · have HE : Hid (false = mayR r) := (may_false_n r h3).symm
      clear hr
      go_enter Tryz.func46, Tryz.ntmps46
      go_wp2_with fail
      refine (refKeyMay_any r.key hk _).mono ?_
      rintro e w1 ⟨rfl, rfl⟩
      rw [h1]
      go_wp2_with fail
      go_ret
      exact ⟨ret_bool HE.out, HK.out⟩
    have HM : Hid (mayR r = contentMay r) := may_rest r h1 h2 h3
    by_cases h4 : 281474976710655 < r.exp
    · have HE : Hid (false = mayR r) := (may_false_exp r h4).symm
      clear hr
      go_enter Tryz.func46, Tryz.ntmps46
      go_wp2_with fail
      refine (refKeyMay_any r.key hk _).mono ?_
      rintro e w1 ⟨rfl, rfl⟩
      rw [h1]
      go_wp2_with fail
      go_ret
      exact ⟨ret_bool HE.out, HK.out⟩
    by_cases h5 : (1024 : Int) < (r.body.size : Int)
    · have HE : Hid (false = mayR r) := (may_false_body r hr (by omega)).symm
      clear hr
      go_enter Tryz.func46, Tryz.ntmps46
      go_wp2_with fail
      refine (refKeyMay_any r.key hk _).mono ?_
      rintro e w1 ⟨rfl, rfl⟩
      rw [h1]
      go_wp2_with fail
      go_ret
      exact ⟨ret_bool HE.out, HK.out⟩
    clear hr
    by_cases k1 : r.kind = 1 ∨ r.kind = 2
    · have k3 : (r.kind == 1) = true ∨ ((r.kind == 1) = false ∧ (r.kind == 2) = true) := by
        rcases k1 with h | h <;> simp [h]
      have HE : Hid (contentMay r = (decide (r.flags = 0) && (decide (r.exp = 0) && decide (r.body.size = 0)))) := by
        show _ = _
        unfold contentMay; rw [if_pos k1]
      clear k1
      rcases k3 with k1 | ⟨k1, k2⟩
      all_goals
        by_cases f1 : r.flags = 0
        · have g1 : (r.flags == 0) = true := by simpa using f1
          by_cases f2 : r.exp = 0
          · have g2 : (r.exp == 0) = true := by simpa using f2
            have HE2 : Hid (r.body.toList.isEmpty = mayR r) := by
              show _ = _
              rw [HM.out, HE.out, empty_iff, f1, f2]; simp
            clear f1 f2 HE
            go_enter Tryz.func46, Tryz.ntmps46
            go_wp2_with fail
            refine (refKeyMay_any r.key hk _).mono ?_
            rintro e w1 ⟨rfl, rfl⟩
            rw [h1]
            go_wp2_with fail
            go_ret
            exact ⟨ret_bool HE2.out, HK.out⟩
          · have g2 : (r.exp == 0) = false := by simpa using f2
            have HE2 : Hid (false = mayR r) := by
              show _ = _
              rw [HM.out, HE.out, decide_eq_false f2]; simp
            clear f1 f2 HE
            go_enter Tryz.func46, Tryz.ntmps46
            go_wp2_with fail
            refine (refKeyMay_any r.key hk _).mono ?_
            rintro e w1 ⟨rfl, rfl⟩
            rw [h1]
            go_wp2_with fail
            go_ret
            exact ⟨ret_bool HE2.out, HK.out⟩
        · have g1 : (r.flags == 0) = false := by simpa using f1
          have HE2 : Hid (false = mayR r) := by
            show _ = _
            rw [HM.out, HE.out, decide_eq_false f1]; simp
          clear f1 HE
          go_enter Tryz.func46, Tryz.ntmps46
          go_wp2_with fail
          refine (refKeyMay_any r.key hk _).mono ?_
          rintro e w1 ⟨rfl, rfl⟩
          rw [h1]
          go_wp2_with fail
          go_ret
          exact ⟨ret_bool HE2.out, HK.out⟩
    · have g1 : (r.kind == 1) = false := by simp; omega
      have g2 : (r.kind == 2) = false := by simp; omega
      have HE2 : Hid ((r.kind == 3) = mayR r) := by
        show _ = _
        rw [HM.out]
        unfold contentMay
        rw [if_neg k1]
        by_cases k3 : r.kind = 3
        · rw [if_pos k3, decide_eq_true (by omega), decide_eq_true (by omega)]; simp [k3]
        · rw [if_neg k3]; simp [k3]
      clear k1
      go_enter Tryz.func46, Tryz.ntmps46
      go_wp2_with fail
      refine (refKeyMay_any r.key hk _).mono ?_
      rintro e w1 ⟨rfl, rfl⟩
      rw [h1]
      go_wp2_with fail
      go_ret
      exact ⟨ret_bool HE2.out, HK.out⟩
def digR (r : R) : Int := twoI (twoI (twoI (twoI (textI r.key.data.toList r.key.size) r.s.p) (IntKind.u64.wrap r.s.l)) (IntKind.u64.wrap r.s.n)) (IntKind.u64.wrap r.kind)
theorem wf_twoI (x y : Int) : (Lit.int .u64 (twoI x y)).wf = true := wf_mixI _
set_option maxHeartbeats 1600000 in
theorem Digest_any (r : R) (hk : r.key.size ≤ maxLen) (w : World) :
    Calls Tryz.prog 77 #[.agg #[.string r.key, .int .u64 r.s.p, .int .u32 r.s.l, .int .u8 r.s.n, .int .u8 r.kind, .int .u32 r.flags, .int .u64 r.exp, .string r.body]] w fun e w' => e = .returned (.int .u64 (digR r)) ∧ Kept w w' := by
  have HK : Hid (Kept w (w.alloc (.cells #[.string r.key, .int .u64 r.s.p, .int .u32 r.s.l, .int .u8 r.s.n, .int .u8 r.kind, .int .u32 r.flags, .int .u64 r.exp, .string r.body] 42))) := kept_alloc (kept_refl w) _
  unfold digR
  go_enter Tryz.func77, Tryz.ntmps77
  go_wp2_with fail
  refine (text_any r.key hk _).mono ?_
  rintro e w' ⟨rfl, rfl⟩
  generalize e0 : textI r.key.data.toList r.key.size = t0
  go_wp2_with fail
  refine (two_any _ _ _).mono ?_
  rintro e w' ⟨rfl, rfl⟩
  generalize e1 : twoI t0 r.s.p = t1
  go_wp2_with fail
  refine (two_any _ _ _).mono ?_
  rintro e w' ⟨rfl, rfl⟩
  generalize e2 : twoI t1 (IntKind.u64.wrap r.s.l) = t2
  go_wp2_with fail
  refine (two_any _ _ _).mono ?_
  rintro e w' ⟨rfl, rfl⟩
  generalize e3 : twoI t2 (IntKind.u64.wrap r.s.n) = t3
  go_wp2_with fail
  refine (two_any _ _ _).mono ?_
  rintro e w' ⟨rfl, rfl⟩
  generalize e4 : twoI t3 (IntKind.u64.wrap r.kind) = t4
  go_wp2_with fail
  go_ret
  subst e4 e3 e2 e1 e0
  exact ⟨rfl, HK.out⟩
set_option maxHeartbeats 1600000 in
theorem refDigest_any (r : R) (hk : r.key.size ≤ maxLen) (w : World) :
    Calls Tryz.prog 54 #[.agg #[.string r.key, .int .u64 r.s.p, .int .u32 r.s.l, .int .u8 r.s.n, .int .u8 r.kind, .int .u32 r.flags, .int .u64 r.exp, .string r.body]] w fun e w' => e = .returned (.int .u64 (digR r)) ∧ Kept w w' := by
  have HK : Hid (Kept w (w.alloc (.cells #[.string r.key, .int .u64 r.s.p, .int .u32 r.s.l, .int .u8 r.s.n, .int .u8 r.kind, .int .u32 r.flags, .int .u64 r.exp, .string r.body] 42))) := kept_alloc (kept_refl w) _
  unfold digR
  go_enter Tryz.func54, Tryz.ntmps54
  go_wp2_with fail
  refine (reftext_any r.key hk _).mono ?_
  rintro e w' ⟨rfl, rfl⟩
  have h0 := wf_textI r.key.data.toList r.key.size
  generalize e0 : textI r.key.data.toList r.key.size = t0 at *
  go_wp2_with fail
  refine (reftwo_any _ _ h0 _).mono ?_
  rintro e w' ⟨rfl, rfl⟩
  have h1 := wf_twoI t0 r.s.p
  clear h0
  generalize e1 : twoI t0 r.s.p = t1 at *
  go_wp2_with fail
  refine (reftwo_any _ _ h1 _).mono ?_
  rintro e w' ⟨rfl, rfl⟩
  have h2 := wf_twoI t1 (IntKind.u64.wrap r.s.l)
  clear h1
  generalize e2 : twoI t1 (IntKind.u64.wrap r.s.l) = t2 at *
  go_wp2_with fail
  refine (reftwo_any _ _ h2 _).mono ?_
  rintro e w' ⟨rfl, rfl⟩
  have h3 := wf_twoI t2 (IntKind.u64.wrap r.s.n)
  clear h2
  generalize e3 : twoI t2 (IntKind.u64.wrap r.s.n) = t3 at *
  go_wp2_with fail
  refine (reftwo_any _ _ h3 _).mono ?_
  rintro e w' ⟨rfl, rfl⟩
  clear h3
  generalize e4 : twoI t3 (IntKind.u64.wrap r.kind) = t4
  go_wp2_with fail
  go_ret
  subst e4 e3 e2 e1 e0
  exact ⟨rfl, HK.out⟩
end Go.Proofs.YthgbdaladngpdaaGreat

/- The plain mathematics of a store: its records as a row, the one used last first, its floors; what Put, Get and Purge make of it; ranges and digests. No condition but those that are stated. -/
namespace Go.Proofs.YthgbdaladngpdaaGreat
set_option linter.unusedVariables false
set_option linter.unusedSimpArgs false

def rg (k : ByteArray) : Nat := (textI k.data.toList k.size / 288230376151711744).toNat
theorem rg_int (k : ByteArray) : textI k.data.toList k.size / 288230376151711744 = (rg k : Int) := by
  have := bounds_u64 (wf_textI k.data.toList k.size)
  unfold rg; omega
theorem rg_lt (k : ByteArray) : rg k < 64 := by
  have := bounds_u64 (wf_textI k.data.toList k.size)
  unfold rg; omega
def lenR (r : R) : Nat := r.key.size + r.body.size
def sizeL : List R → Nat
  | [] => 0
  | r :: l => lenR r + sizeL l
def dgN (r : R) : Nat := (digR r).toNat
theorem dgN_int (r : R) : digR r = (dgN r : Int) := by
  have := bounds_u64 (wf_twoI (twoI (twoI (twoI (textI r.key.data.toList r.key.size) r.s.p) (IntKind.u64.wrap r.s.l)) (IntKind.u64.wrap r.s.n)) (IntKind.u64.wrap r.kind))
  unfold dgN digR at *; omega
theorem dgN_lt (r : R) : dgN r < 18446744073709551616 := by
  have := bounds_u64 (wf_twoI (twoI (twoI (twoI (textI r.key.data.toList r.key.size) r.s.p) (IntKind.u64.wrap r.s.l)) (IntKind.u64.wrap r.s.n)) (IntKind.u64.wrap r.kind))
  unfold dgN digR at *; omega
def digL (k : Nat) : List R → Nat
  | [] => 0
  | r :: l => if rg r.key = k then dgN r ^^^ digL k l else digL k l
theorem xor_lt {a b : Nat} (ha : a < 18446744073709551616) (hb : b < 18446744073709551616) : a ^^^ b < 18446744073709551616 := Nat.xor_lt_two_pow (n := 64) ha hb
theorem digL_lt (k : Nat) : ∀ l, digL k l < 18446744073709551616
  | [] => by unfold digL; omega
  | r :: l => by
    unfold digL
    split
    · exact xor_lt (dgN_lt r) (digL_lt k l)
    · exact digL_lt k l
theorem sizeL_perm {a b : List R} (h : a.Perm b) : sizeL a = sizeL b := by
  induction h with
  | nil => rfl
  | cons x _ ih => simp only [sizeL]; omega
  | swap x y l => simp only [sizeL]; omega
  | trans _ _ h1 h2 => omega
theorem digL_perm (k : Nat) {a b : List R} (h : a.Perm b) : digL k a = digL k b := by
  induction h with
  | nil => rfl
  | cons x _ ih => simp only [digL, ih]
  | swap x y l =>
    simp only [digL]
    by_cases h1 : rg x.key = k
    · by_cases h2 : rg y.key = k
      · simp only [h1, h2, if_true]
        rw [← Nat.xor_assoc, ← Nat.xor_assoc, Nat.xor_comm (dgN y)]
      · simp only [h1, h2, if_true, if_false]
    · by_cases h2 : rg y.key = k
      · simp only [h1, h2, if_true, if_false]
      · simp only [h1, h2, if_false]
  | trans _ _ h1 h2 => rw [h1, h2]
theorem digL_out {k : Nat} {r : R} {l : List R} : digL k (r :: l) ^^^ (if rg r.key = k then dgN r else 0) = digL k l := by
  rw [digL]
  split
  · rw [Nat.xor_comm (dgN r), Nat.xor_assoc, Nat.xor_self, Nat.xor_zero]
  · rw [Nat.xor_zero]
theorem digL_filter (k : Nat) : ∀ l : List R, digL k l = digL k (l.filter (fun r => decide (rg r.key = k)))
  | [] => rfl
  | r :: l => by
    by_cases h : rg r.key = k
    · rw [List.filter_cons_of_pos (by simpa using h)]
      unfold digL
      rw [if_pos h, if_pos h, ← digL_filter k l]
    · rw [List.filter_cons_of_neg (by simpa using h), ← digL_filter k l]
      rw [digL, if_neg h]

def Keys (L : List R) : Prop := L.Pairwise (fun a b => a.key ≠ b.key)
def findK (L : List R) (k : ByteArray) : Option R := L.find? (fun r => decide (r.key = k))
def woK (L : List R) (k : ByteArray) : List R := L.filter (fun r => decide (r.key ≠ k))
theorem find_none {L : List R} {k : ByteArray} : findK L k = none ↔ ∀ r ∈ L, r.key ≠ k := by
  unfold findK
  rw [List.find?_eq_none]
  simp
theorem find_some {L : List R} {k : ByteArray} {q : R} (h : findK L k = some q) : q ∈ L ∧ q.key = k := by
  unfold findK at h
  exact ⟨List.mem_of_find?_eq_some h, by simpa using List.find?_some h⟩
theorem keys_eq {L : List R} (h : Keys L) {a b : R} (ha : a ∈ L) (hb : b ∈ L) (e : a.key = b.key) : a = b := by
  induction L with
  | nil => cases ha
  | cons x l ih =>
    obtain ⟨h1, h2⟩ := List.pairwise_cons.1 h
    rcases List.mem_cons.1 ha with ea | ha'
    · rcases List.mem_cons.1 hb with eb | hb'
      · rw [ea, eb]
      · rw [ea] at e; exact absurd e (h1 b hb')
    · rcases List.mem_cons.1 hb with eb | hb'
      · rw [eb] at e; exact absurd e.symm (h1 a ha')
      · exact ih h2 ha' hb'
theorem find_of {L : List R} (h : Keys L) {q : R} (hq : q ∈ L) : findK L q.key = some q := by
  cases e : findK L q.key with
  | none => exact absurd rfl (find_none.1 e q hq)
  | some p => rw [keys_eq h (find_some e).1 hq (find_some e).2]
theorem wo_none {L : List R} {k : ByteArray} (h : ∀ r ∈ L, r.key ≠ k) : woK L k = L := by
  unfold woK
  rw [List.filter_eq_self]
  intro a ha
  simpa using h a ha
theorem woK_mem {L : List R} {k : ByteArray} {r : R} : r ∈ woK L k ↔ r ∈ L ∧ r.key ≠ k := by unfold woK; simp
theorem woK_perm {L : List R} (h : Keys L) {q : R} (hq : q ∈ L) : L.Perm (q :: woK L q.key) := by
  induction L with
  | nil => cases hq
  | cons x l ih =>
    obtain ⟨h1, h2⟩ := List.pairwise_cons.1 h
    rcases List.mem_cons.1 hq with rfl | hq
    · unfold woK
      rw [List.filter_cons_of_neg (by simp)]
      rw [show l.filter (fun r => decide (r.key ≠ q.key)) = l from wo_none (fun r hr => Ne.symm (h1 r hr))]
    · unfold woK
      rw [List.filter_cons_of_pos (by simpa using h1 q hq)]
      exact ((ih h2 hq).cons x).trans (List.Perm.swap q x _)
theorem keys_wo {L : List R} (h : Keys L) (k : ByteArray) : Keys (woK L k) := h.filter _
theorem wo_len (L : List R) (k : ByteArray) : (woK L k).length ≤ L.length := List.length_filter_le _ _
theorem wo_size : ∀ (L : List R) (k : ByteArray), sizeL (woK L k) ≤ sizeL L
  | [], _ => Nat.le_refl _
  | r :: l, k => by
    have := wo_size l k
    unfold woK at *
    by_cases h : r.key ≠ k
    · rw [List.filter_cons_of_pos (by simpa using h)]; unfold sizeL; omega
    · rw [List.filter_cons_of_neg (by simpa using h)]; rw [sizeL]; omega

theorem may_len {r : R} (h : mayR r = true) : lenR r ≤ 1274 ∧ r.key.size ≤ 250 := by
  unfold mayR keyMay contentMay at h
  simp only [Bool.and_eq_true, decide_eq_true_iff] at h
  obtain ⟨⟨⟨_, h1⟩, _⟩, _, h2⟩ := h
  unfold lenR
  split at h2
  · simp only [Bool.and_eq_true, decide_eq_true_iff] at h2; omega
  · split at h2
    · simp only [Bool.and_eq_true, decide_eq_true_iff] at h2; omega
    · cases h2
theorem size_bound : ∀ (L : List R), (∀ r ∈ L, mayR r = true) → sizeL L ≤ L.length * 1274
  | [], _ => Nat.le_refl _
  | r :: l, h => by
    have h1 := size_bound l (fun x hx => h x (List.mem_cons_of_mem _ hx))
    have h2 := (may_len (h r List.mem_cons_self)).1
    simp only [sizeL, List.length_cons]
    omega
/- A store's bounds; a store. -/
structure Cf where
  n : Nat
  B : Nat
  K : Nat
def Cf.may (c : Cf) : Prop := 1 ≤ c.n ∧ c.n ≤ 1024 ∧ 1 ≤ c.B ∧ c.B ≤ 1048576 ∧ 1 ≤ c.K ∧ c.K ≤ 1000
structure MS where
  L : List R
  fl : Nat → Stp
  ev : Nat
def MS0 : MS := ⟨[], fun _ => zero, 0⟩
def raise (f : Nat → Stp) (r : R) : Nat → Stp := fun k => if k = rg r.key ∧ lt (f k) r.s = true then r.s else f k
def evictM (s : MS) : MS := if h : s.L = [] then s else ⟨s.L.dropLast, raise s.fl (s.L.getLast h), s.ev + 1⟩
theorem evictM_snoc (L : List R) (r : R) (f : Nat → Stp) (e : Nat) : evictM ⟨L ++ [r], f, e⟩ = ⟨L, raise f r, e + 1⟩ := by
  unfold evictM
  rw [dif_neg (by simp)]
  simp
abbrev over (c : Cf) (b : Nat) (L : List R) : Prop := c.n ≤ L.length ∨ c.B < sizeL L + b
def roomM (c : Cf) (b : Nat) : Nat → MS → MS
  | 0, s => s
  | f + 1, s => if over c b s.L then roomM c b f (evictM s) else s
def room (c : Cf) (b : Nat) (s : MS) : MS := roomM c b s.L.length s
theorem room_stop {c : Cf} {b : Nat} {s : MS} (h : ¬ over c b s.L) : room c b s = s := by
  unfold room
  cases s.L.length with
  | zero => rfl
  | succ n => unfold roomM; rw [if_neg h]
theorem room_on {c : Cf} {b : Nat} {L : List R} {r : R} {f : Nat → Stp} {e : Nat} (h : over c b (L ++ [r])) : room c b ⟨L ++ [r], f, e⟩ = room c b ⟨L, raise f r, e + 1⟩ := by
  unfold room
  have e1 : (L ++ [r]).length = L.length + 1 := by simp
  show roomM c b (L ++ [r]).length ⟨L ++ [r], f, e⟩ = roomM c b L.length ⟨L, raise f r, e + 1⟩
  rw [e1, roomM]
  show (if over c b (L ++ [r]) then _ else _) = _
  rw [if_pos h, evictM_snoc]
theorem over_none {c : Cf} (h : c.may) {b : Nat} (hb : b ≤ c.B) : ¬ over c b [] := by
  unfold over
  have := h.1
  simp only [List.length_nil, sizeL]
  omega
def putK (c : Cf) (s : MS) (r : R) (now : Int) : Int :=
  if mayR r = false then 1 else if r.s.p + (c.K : Int) ≤ now then 8 else
  match findK s.L r.key with
  | some q => if cmpR r q = 0 then 0 else if cmpR r q < 0 then 8 else if c.B < lenR r then 6 else 100
  | none => if lt (s.fl (rg r.key)) r.s = true then (if c.B < lenR r then 6 else 100) else 8
def newer (c : Cf) (s : MS) (r : R) : MS := ⟨r :: (room c (lenR r) ⟨woK s.L r.key, s.fl, s.ev⟩).L, (room c (lenR r) ⟨woK s.L r.key, s.fl, s.ev⟩).fl, (room c (lenR r) ⟨woK s.L r.key, s.fl, s.ev⟩).ev⟩
def putS (c : Cf) (s : MS) (r : R) (now : Int) : MS := if putK c s r now = 100 then newer c s r else s
def putE (c : Cf) (s : MS) (r : R) (now : Int) : Int := if putK c s r now = 100 then 0 else putK c s r now
def putB (c : Cf) (s : MS) (r : R) (now : Int) : Bool := decide (putK c s r now = 100)
def getS (s : MS) (k : ByteArray) : MS := match findK s.L k with
  | some q => ⟨q :: woK s.L k, s.fl, s.ev⟩
  | none => s
def purgeS (c : Cf) (s : MS) (now : Int) : MS := ⟨s.L.filter (fun r => decide (now < r.s.p + (c.K : Int))), s.fl, s.ev⟩
/- What is always so. -/
structure Fit (c : Cf) (s : MS) : Prop where
  keys : Keys s.L
  may : ∀ r ∈ s.L, mayR r = true
  ok : ∀ r ∈ s.L, r.ok
  len : s.L.length ≤ c.n
  size : sizeL s.L ≤ c.B
theorem fit_new {c : Cf} : Fit c MS0 := ⟨List.Pairwise.nil, by simp [MS0], by simp [MS0], by simp [MS0], by simp [MS0, sizeL]⟩
theorem size_app : ∀ (L : List R) (r : R), sizeL (L ++ [r]) = sizeL L + lenR r
  | [], r => by simp [sizeL]
  | x :: l, r => by
    rw [List.cons_append, sizeL, size_app l r, sizeL]; omega
/- A row of which some are taken off its end. -/
theorem room_ind {c : Cf} {b : Nat} (P : MS → Prop) (hP : ∀ L r f e, P ⟨L ++ [r], f, e⟩ → over c b (L ++ [r]) → P ⟨L, raise f r, e + 1⟩) (hc : c.may) (hb : b ≤ c.B) : ∀ (n : Nat) (s : MS), s.L.length = n → P s → P (room c b s) ∧ ¬ over c b (room c b s).L
  | 0, s, hn, h => by
    have h0 : s.L = [] := List.eq_nil_of_length_eq_zero hn
    have h1 : ¬ over c b s.L := by rw [h0]; exact over_none hc hb
    rw [room_stop h1]
    exact ⟨h, h1⟩
  | n + 1, s, hn, h => by
    by_cases ho : over c b s.L
    · obtain ⟨L, f, e⟩ := s
      have hne : L ≠ [] := by rintro rfl; simp at hn
      obtain ⟨L', r, rfl⟩ : ∃ L' r, L = L' ++ [r] := ⟨L.dropLast, L.getLast hne, (List.dropLast_concat_getLast hne).symm⟩
      rw [room_on ho]
      exact room_ind P hP hc hb n _ (by simpa using hn) (hP L' r f e h ho)
    · rw [room_stop ho]
      exact ⟨h, ho⟩
theorem room_pre {c : Cf} {b : Nat} (hc : c.may) (hb : b ≤ c.B) (s : MS) : ∃ t, s.L = (room c b s).L ++ t := by
  refine (room_ind (fun q => ∃ t, s.L = q.L ++ t) (fun L r f e h _ => ?_) hc hb _ s rfl ⟨[], by simp⟩).1
  obtain ⟨t, h⟩ := h
  exact ⟨r :: t, by simpa using h⟩
theorem room_fits {c : Cf} {b : Nat} (hc : c.may) (hb : b ≤ c.B) (s : MS) : ¬ over c b (room c b s).L := (room_ind (fun _ => True) (fun _ _ _ _ _ _ => trivial) hc hb _ s rfl trivial).2
theorem fit_newer {c : Cf} {s : MS} {r : R} (hc : c.may) (h : Fit c s) (hm : mayR r = true) (hk : r.ok) (hb : lenR r ≤ c.B) : Fit c (newer c s r) := by
  obtain ⟨t, ht⟩ := room_pre hc hb ⟨woK s.L r.key, s.fl, s.ev⟩
  have hf := room_fits hc hb ⟨woK s.L r.key, s.fl, s.ev⟩
  unfold newer
  generalize room c (lenR r) ⟨woK s.L r.key, s.fl, s.ev⟩ = q at *
  change woK s.L r.key = q.L ++ t at ht
  have hk1 : Keys (q.L ++ t) := ht ▸ keys_wo h.keys r.key
  have hm1 : ∀ x ∈ q.L, x ∈ s.L ∧ x.key ≠ r.key := fun x hx => woK_mem.1 (by rw [ht]; exact List.mem_append_left _ hx)
  unfold over at hf
  refine ⟨List.pairwise_cons.2 ⟨fun x hx => Ne.symm (hm1 x hx).2, (List.pairwise_append.1 hk1).1⟩, ?_, ?_, ?_, ?_⟩
  · intro x hx
    rcases List.mem_cons.1 hx with rfl | hx
    · exact hm
    · exact h.may x (hm1 x hx).1
  · intro x hx
    rcases List.mem_cons.1 hx with rfl | hx
    · exact hk
    · exact h.ok x (hm1 x hx).1
  · simp only [List.length_cons]; omega
  · simp only [sizeL]; omega
theorem putK_100 {c : Cf} {s : MS} {r : R} {now : Int} (h : putK c s r now = 100) : mayR r = true ∧ lenR r ≤ c.B ∧ now < r.s.p + (c.K : Int) := by
  unfold putK at h
  split at h
  · omega
  · rename_i h1
    split at h
    · omega
    · rename_i h2
      refine ⟨by simpa using h1, ?_, by omega⟩
      split at h
      · split at h
        · omega
        · split at h
          · omega
          · split at h
            · omega
            · omega
      · split at h
        · split at h
          · omega
          · omega
        · omega
theorem fit_put {c : Cf} {s : MS} {r : R} {now : Int} (hc : c.may) (h : Fit c s) (hk : r.ok) : Fit c (putS c s r now) := by
  unfold putS
  split
  · rename_i h1
    obtain ⟨h2, h3, _⟩ := putK_100 h1
    exact fit_newer hc h h2 hk h3
  · exact h
theorem fit_get {c : Cf} {s : MS} (h : Fit c s) (k : ByteArray) : Fit c (getS s k) := by
  unfold getS
  split
  · rename_i q hq
    obtain ⟨h1, rfl⟩ := find_some hq
    have hp := woK_perm h.keys h1
    refine ⟨List.pairwise_cons.2 ⟨fun x hx => Ne.symm (woK_mem.1 hx).2, keys_wo h.keys _⟩, fun x hx => h.may x (hp.mem_iff.2 hx), fun x hx => h.ok x (hp.mem_iff.2 hx), ?_, ?_⟩
    · have := hp.length_eq; have := h.len; simp only [List.length_cons] at *; omega
    · have := sizeL_perm hp; have := h.size; show sizeL (q :: woK s.L q.key) ≤ _; omega
  · exact h
theorem size_filter (p : R → Bool) : ∀ L : List R, sizeL (L.filter p) ≤ sizeL L
  | [] => Nat.le_refl _
  | r :: l => by
    have := size_filter p l
    by_cases h : p r = true
    · rw [List.filter_cons_of_pos h]; unfold sizeL; omega
    · rw [List.filter_cons_of_neg h]; rw [sizeL]; omega
theorem fit_purge {c : Cf} {s : MS} (h : Fit c s) (now : Int) : Fit c (purgeS c s now) :=
  ⟨h.keys.filter _, fun x hx => h.may x (List.mem_filter.1 hx).1, fun x hx => h.ok x (List.mem_filter.1 hx).1, Nat.le_trans (List.length_filter_le _ _) h.len, Nat.le_trans (size_filter _ _) h.size⟩
end Go.Proofs.YthgbdaladngpdaaGreat

/- A store's places, by their use, beside what its table and its wheel have (Coh); what becomes of it where a place is emptied, filled, used. No condition but those that are stated. -/
namespace Go.Proofs.YthgbdaladngpdaaGreat
set_option linter.unusedVariables false
set_option linter.unusedSimpArgs false

def updR (f : Nat → R) (a : Nat) (r : R) : Nat → R := fun i => if i = a then r else f i
theorem updR_at (f : Nat → R) (a : Nat) (r : R) : updR f a r a = r := by simp [updR]
theorem updR_ne (f : Nat → R) {a i : Nat} (r : R) (h : i ≠ a) : updR f a r i = f i := by simp [updR, h]
def less (l : List Nat) (i : Nat) : List Nat := l.filter (fun x => x != i)
theorem less_mem {l : List Nat} {i j : Nat} : j ∈ less l i ↔ j ∈ l ∧ j ≠ i := by unfold less; simp
structure Coh (c : Cf) (pl : Nat → R) (l : List Nat) (f : ByteArray → Option Int) (M : List (Int × Int)) (pend : Nat → Prop) : Prop where
  once : l.Nodup
  low : ∀ i ∈ l, i < c.n
  taken : ∀ i, i < c.n → (i ∈ l ↔ (pl i).kind ≠ 0)
  may : ∀ i ∈ l, mayR (pl i) = true
  ok : ∀ i, (pl i).ok
  keys : ∀ i ∈ l, ∀ j ∈ l, (pl i).key = (pl j).key → i = j
  map : ∀ k v, f k = some v ↔ ∃ i ∈ l, v = (i : Int) ∧ (pl i).key = k
  whl : ∀ z : Int × Int, z ∈ M ↔ ∃ i ∈ l, ¬ pend i ∧ z = ((pl i).s.p + (c.K : Int), (i : Int))
theorem zero_okR : zeroR.ok := by unfold zeroR R.ok; exact ⟨Nat.zero_le _, zero_ok, by decide, by decide, by decide, Nat.zero_le _⟩
section
variable {c : Cf} {pl : Nat → R} {l : List Nat} {f f' : ByteArray → Option Int} {M M' : List (Int × Int)} {pend pend' : Nat → Prop} {i : Nat} {r : R}
theorem may_kind (h : mayR r = true) : r.kind ≠ 0 := by
  unfold mayR contentMay at h
  intro e
  rw [e] at h
  simp at h
theorem coh_out (h : Coh c pl l f M pend) (hi : i ∈ l) (hp : ∀ j, j ≠ i → (pend' j ↔ pend j)) (hf : ∀ k, f' k = if k = (pl i).key then none else f k) (hM : ∀ z, z ∈ M' ↔ z ∈ M ∧ z.2 ≠ (i : Int)) :
    Coh c (updR pl i zeroR) (less l i) f' M' pend' := by
  refine ⟨h.once.filter _, fun j hj => h.low j (less_mem.1 hj).1, fun j hj => ?_, fun j hj => ?_, fun j => ?_, fun a ha b hb e => ?_, fun k v => ?_, fun z => ?_⟩
  · rw [less_mem]
    by_cases e : j = i
    · subst e; rw [updR_at]; simp [zeroR]
    · rw [updR_ne _ _ e, ← h.taken j hj]; simp [e]
  · have := less_mem.1 hj
    rw [updR_ne _ _ this.2]; exact h.may j this.1
  · unfold updR; split
    · exact zero_okR
    · exact h.ok j
  · have h1 := less_mem.1 ha
    have h2 := less_mem.1 hb
    rw [updR_ne _ _ h1.2, updR_ne _ _ h2.2] at e
    exact h.keys a h1.1 b h2.1 e
  · rw [hf]
    by_cases e : k = (pl i).key
    · rw [if_pos e]
      constructor
      · intro h'; cases h'
      · rintro ⟨j, hj, rfl, hk⟩
        have h1 := less_mem.1 hj
        rw [updR_ne _ _ h1.2] at hk
        exact absurd (h.keys j h1.1 i hi (hk.trans e)) h1.2
    · rw [if_neg e, h.map]
      constructor
      · rintro ⟨j, hj, rfl, hk⟩
        have hn : j ≠ i := by rintro rfl; exact e hk.symm
        exact ⟨j, less_mem.2 ⟨hj, hn⟩, rfl, by rw [updR_ne _ _ hn]; exact hk⟩
      · rintro ⟨j, hj, rfl, hk⟩
        have h1 := less_mem.1 hj
        rw [updR_ne _ _ h1.2] at hk
        exact ⟨j, h1.1, rfl, hk⟩
  · rw [hM, h.whl]
    constructor
    · rintro ⟨⟨j, hj, hpj, rfl⟩, hz⟩
      have hn : j ≠ i := by rintro rfl; exact hz rfl
      exact ⟨j, less_mem.2 ⟨hj, hn⟩, fun hq => hpj ((hp j hn).1 hq), by rw [updR_ne _ _ hn]⟩
    · rintro ⟨j, hj, hpj, rfl⟩
      have h1 := less_mem.1 hj
      rw [updR_ne _ _ h1.2]
      exact ⟨⟨j, h1.1, fun hq => hpj ((hp j h1.2).2 hq), rfl⟩, by have := h1.2; simp; omega⟩
theorem coh_in (h : Coh c pl l f M pend) (hi : i ∉ l) (hn : i < c.n) (hm : mayR r = true) (hok : r.ok) (hk : ∀ j ∈ l, (pl j).key ≠ r.key) (hpe : ¬ pend i) (hf : ∀ k, f' k = if k = r.key then some (i : Int) else f k) (hM : ∀ z : Int × Int, z ∈ M' ↔ z = (r.s.p + (c.K : Int), (i : Int)) ∨ (z ∈ M ∧ z.2 ≠ (i : Int))) :
    Coh c (updR pl i r) (i :: l) f' M' pend := by
  have hne : ∀ j ∈ l, j ≠ i := fun j hj e => hi (e ▸ hj)
  refine ⟨List.nodup_cons.2 ⟨hi, h.once⟩, fun j hj => ?_, fun j hj => ?_, fun j hj => ?_, fun j => ?_, fun a ha b hb e => ?_, fun k v => ?_, fun z => ?_⟩
  · rcases List.mem_cons.1 hj with rfl | hj
    · exact hn
    · exact h.low j hj
  · rw [List.mem_cons]
    by_cases e : j = i
    · subst e; rw [updR_at]; simp [may_kind hm]
    · rw [updR_ne _ _ e, ← h.taken j hj]; simp [e]
  · rcases List.mem_cons.1 hj with rfl | hj
    · rw [updR_at]; exact hm
    · rw [updR_ne _ _ (hne j hj)]; exact h.may j hj
  · unfold updR; split
    · exact hok
    · exact h.ok j
  · rcases List.mem_cons.1 ha with ea | ha'
    · rcases List.mem_cons.1 hb with eb | hb'
      · rw [ea, eb]
      · rw [ea, updR_at, updR_ne _ _ (hne b hb')] at e
        exact absurd e.symm (hk b hb')
    · rcases List.mem_cons.1 hb with eb | hb'
      · rw [eb, updR_at, updR_ne _ _ (hne a ha')] at e
        exact absurd e (hk a ha')
      · rw [updR_ne _ _ (hne a ha'), updR_ne _ _ (hne b hb')] at e
        exact h.keys a ha' b hb' e
  · rw [hf]
    by_cases e : k = r.key
    · rw [if_pos e]
      constructor
      · intro h'
        injection h' with h'
        exact ⟨i, List.mem_cons_self, h'.symm, by rw [updR_at]; exact e.symm⟩
      · rintro ⟨j, hj, rfl, hkj⟩
        rcases List.mem_cons.1 hj with rfl | hj
        · rfl
        · rw [updR_ne _ _ (hne j hj)] at hkj
          exact absurd (hkj.trans e) (hk j hj)
    · rw [if_neg e, h.map]
      constructor
      · rintro ⟨j, hj, rfl, hkj⟩
        exact ⟨j, List.mem_cons_of_mem _ hj, rfl, by rw [updR_ne _ _ (hne j hj)]; exact hkj⟩
      · rintro ⟨j, hj, rfl, hkj⟩
        rcases List.mem_cons.1 hj with rfl | hj
        · rw [updR_at] at hkj; exact absurd hkj.symm e
        · rw [updR_ne _ _ (hne j hj)] at hkj
          exact ⟨j, hj, rfl, hkj⟩
  · rw [hM, h.whl]
    constructor
    · rintro (rfl | ⟨⟨j, hj, hpj, rfl⟩, hz⟩)
      · exact ⟨i, List.mem_cons_self, hpe, by rw [updR_at]⟩
      · exact ⟨j, List.mem_cons_of_mem _ hj, hpj, by rw [updR_ne _ _ (hne j hj)]⟩
    · rintro ⟨j, hj, hpj, rfl⟩
      rcases List.mem_cons.1 hj with rfl | hj
      · left; rw [updR_at]
      · right
        rw [updR_ne _ _ (hne j hj)]
        exact ⟨⟨j, hj, hpj, rfl⟩, by have := hne j hj; simp; omega⟩
theorem use_mem (hi : i ∈ l) {j : Nat} : j ∈ i :: less l i ↔ j ∈ l := by
  rw [List.mem_cons, less_mem]
  constructor
  · rintro (rfl | h)
    · exact hi
    · exact h.1
  · intro h
    by_cases e : j = i
    · exact .inl e
    · exact .inr ⟨h, e⟩
theorem coh_use (h : Coh c pl l f M pend) (hi : i ∈ l) : Coh c pl (i :: less l i) f M pend := by
  refine ⟨List.nodup_cons.2 ⟨fun hx => (less_mem.1 hx).2 rfl, h.once.filter _⟩, fun j hj => h.low j ((use_mem hi).1 hj), fun j hj => (use_mem hi).trans (h.taken j hj), fun j hj => h.may j ((use_mem hi).1 hj), h.ok, fun a ha b hb e => h.keys a ((use_mem hi).1 ha) b ((use_mem hi).1 hb) e, fun k v => ?_, fun z => ?_⟩
  · rw [h.map]
    exact ⟨fun ⟨j, hj, q⟩ => ⟨j, (use_mem hi).2 hj, q⟩, fun ⟨j, hj, q⟩ => ⟨j, (use_mem hi).1 hj, q⟩⟩
  · rw [h.whl]
    exact ⟨fun ⟨j, hj, q⟩ => ⟨j, (use_mem hi).2 hj, q⟩, fun ⟨j, hj, q⟩ => ⟨j, (use_mem hi).1 hj, q⟩⟩
theorem coh_new : Coh c (fun _ => zeroR) [] (fun _ => none) [] (fun _ => False) := by
  refine ⟨List.nodup_nil, by simp, fun i _ => by simp [zeroR], by simp, fun _ => zero_okR, by simp, fun k v => by simp, fun z => by simp⟩
/- As rows of records. -/
theorem coh_rows (h : Coh c pl l f M pend) : Keys (l.map pl) := by
  have h1 := h.once
  have h2 := h.keys
  clear h
  induction l with
  | nil => exact List.Pairwise.nil
  | cons x t ih =>
    obtain ⟨g1, g2⟩ := List.nodup_cons.1 h1
    refine List.pairwise_cons.2 ⟨fun r hr => ?_, ih g2 (fun a ha b hb => h2 a (List.mem_cons_of_mem _ ha) b (List.mem_cons_of_mem _ hb))⟩
    obtain ⟨j, hj, rfl⟩ := List.mem_map.1 hr
    intro e
    have := h2 x List.mem_cons_self j (List.mem_cons_of_mem _ hj) e
    exact g1 (this ▸ hj)
theorem map_less (pl : Nat → R) (r : R) (l : List Nat) (i : Nat) : (less l i).map (updR pl i r) = (less l i).map pl := by
  refine List.map_congr_left (fun j hj => updR_ne _ _ (less_mem.1 hj).2)
theorem map_in (pl : Nat → R) (r : R) {l : List Nat} (hi : i ∉ l) : (i :: l).map (updR pl i r) = r :: l.map pl := by
  rw [List.map_cons, updR_at]
  congr 1
  exact List.map_congr_left (fun j hj => updR_ne _ _ (fun e => hi (e ▸ hj)))
theorem less_woK (h : Coh c pl l f M pend) (hi : i ∈ l) : (less l i).map pl = woK (l.map pl) (pl i).key := by
  unfold less woK
  rw [List.filter_map]
  congr 1
  refine List.filter_congr (fun j hj => ?_)
  show (j != i) = decide ((pl j).key ≠ (pl i).key)
  by_cases e : j = i
  · subst e; simp
  · have : (pl j).key ≠ (pl i).key := fun q => e (h.keys j hj i hi q)
    simp [e, this]
theorem find_in (h : Coh c pl l f M pend) (hi : i ∈ l) : findK (l.map pl) (pl i).key = some (pl i) := find_of (coh_rows h) (List.mem_map_of_mem hi)
theorem coh_none (h : Coh c pl l f M pend) {k : ByteArray} : f k = none ↔ findK (l.map pl) k = none := by
  rw [find_none]
  constructor
  · intro e r hr hk
    obtain ⟨j, hj, rfl⟩ := List.mem_map.1 hr
    have := (h.map k (j : Int)).2 ⟨j, hj, rfl, hk⟩
    rw [e] at this; cases this
  · intro e
    cases q : f k with
    | none => rfl
    | some v =>
      obtain ⟨j, hj, _, hk⟩ := (h.map k v).1 q
      exact absurd hk (e _ (List.mem_map_of_mem hj))
theorem coh_some (h : Coh c pl l f M pend) {k : ByteArray} {v : Int} (e : f k = some v) : ∃ i ∈ l, v = (i : Int) ∧ (pl i).key = k ∧ findK (l.map pl) k = some (pl i) := by
  obtain ⟨j, hj, e1, hk⟩ := (h.map k v).1 e
  exact ⟨j, hj, e1, hk, by rw [← hk]; exact find_in h hj⟩
theorem coh_perm (h : Coh c pl l f M pend) (hi : i ∈ l) : (l.map pl).Perm (pl i :: (less l i).map pl) := by
  rw [less_woK h hi]
  exact woK_perm (coh_rows h) (List.mem_map_of_mem hi)
theorem coh_size (h : Coh c pl l f M pend) (hi : i ∈ l) : sizeL (l.map pl) = lenR (pl i) + sizeL ((less l i).map pl) := (sizeL_perm (coh_perm h hi)).trans rfl
theorem coh_dig (h : Coh c pl l f M pend) (hi : i ∈ l) (k : Nat) : digL k (l.map pl) = if rg (pl i).key = k then dgN (pl i) ^^^ digL k ((less l i).map pl) else digL k ((less l i).map pl) := by
  rw [digL_perm k (coh_perm h hi)]
  rfl
end
theorem all_len : ∀ (n : Nat) (l : List Nat), (∀ i, i < n → i ∈ l) → n ≤ l.length
  | 0, _, _ => Nat.zero_le _
  | n + 1, l, h => by
    have h1 := all_len n (less l n) (fun i hi => less_mem.2 ⟨h i (by omega), by omega⟩)
    have h2 : (less l n).length < l.length := by
      unfold less
      rw [← List.countP_eq_length_filter]
      refine Nat.lt_of_le_of_ne List.countP_le_length (fun e => ?_)
      have := List.countP_eq_length.1 e n (h n (by omega))
      simp at this
    omega
theorem free_one {n : Nat} {l : List Nat} (h : l.length < n) : ∃ i, i < n ∧ i ∉ l := by
  refine Classical.byContradiction (fun hn => ?_)
  have := all_len n l (fun i hi => Classical.byContradiction (fun hx => hn ⟨i, hi, hx⟩))
  omega
end Go.Proofs.YthgbdaladngpdaaGreat

/- The contracts of the library's comparisons and of cmp.Or, of the reference's comparison of texts. They turn nothing. -/
namespace Go.Proofs.YthgbdaladngpdaaGreat
open Go.ChangeShapes Go.WideShapes Go.ChangeAt Go.RowKit
set_option linter.unusedVariables false
set_option maxRecDepth 100000
set_option linter.unusedSimpArgs false

theorem nan8 (a : Int) (w : World) : Calls Tryz.prog 98 #[.int .u8 a] w fun e w' => e = .returned (.bool false) ∧ w' = w := by
  go_enter Tryz.func98, Tryz.ntmps98
  go_wp2
  go_ret
  exact ⟨by simp, rfl⟩
theorem nan32 (a : Int) (w : World) : Calls Tryz.prog 99 #[.int .u32 a] w fun e w' => e = .returned (.bool false) ∧ w' = w := by
  go_enter Tryz.func99, Tryz.ntmps99
  go_wp2
  go_ret
  exact ⟨by simp, rfl⟩
theorem nan64 (a : Int) (w : World) : Calls Tryz.prog 100 #[.int .u64 a] w fun e w' => e = .returned (.bool false) ∧ w' = w := by
  go_enter Tryz.func100, Tryz.ntmps100
  go_wp2
  go_ret
  exact ⟨by simp, rfl⟩
theorem cmp8 (a b : Int) (w : World) : Calls Tryz.prog 71 #[.int .u8 a, .int .u8 b] w fun e w' => e = .returned (.int .i64 (cmpI a b)) ∧ w' = w := by
  rcases cmpI_cases a b with ⟨h, e⟩ | ⟨h, e⟩ | ⟨h, e⟩
  all_goals
    rw [e]
    clear e
    have h1 : decide (a < b) = decide (a < b) := rfl
    go_enter Tryz.func71, Tryz.ntmps71
    go_wp2_with (go_at_call 98; refine (nan8 _ _).mono ?_; rintro e w' ⟨rfl, rfl⟩)
    go_ret
    exact ⟨rfl, rfl⟩
theorem cmp32 (a b : Int) (w : World) : Calls Tryz.prog 72 #[.int .u32 a, .int .u32 b] w fun e w' => e = .returned (.int .i64 (cmpI a b)) ∧ w' = w := by
  rcases cmpI_cases a b with ⟨h, e⟩ | ⟨h, e⟩ | ⟨h, e⟩
  all_goals
    rw [e]
    clear e
    go_enter Tryz.func72, Tryz.ntmps72
    go_wp2_with (go_at_call 99; refine (nan32 _ _).mono ?_; rintro e w' ⟨rfl, rfl⟩)
    go_ret
    exact ⟨rfl, rfl⟩
theorem cmp64 (a b : Int) (w : World) : Calls Tryz.prog 73 #[.int .u64 a, .int .u64 b] w fun e w' => e = .returned (.int .i64 (cmpI a b)) ∧ w' = w := by
  rcases cmpI_cases a b with ⟨h, e⟩ | ⟨h, e⟩ | ⟨h, e⟩
  all_goals
    rw [e]
    clear e
    go_enter Tryz.func73, Tryz.ntmps73
    go_wp2_with (go_at_call 100; refine (nan64 _ _).mono ?_; rintro e w' ⟨rfl, rfl⟩)
    go_ret
    exact ⟨rfl, rfl⟩
set_option maxHeartbeats 1000000 in
set_option maxRecDepth 100000 in
theorem cmpInner (a b : ByteArray) (w : World) : Calls Tryz.prog 93 #[.string a, .string b] w fun e w' => e = .returned (.int .i64 (cmpB a b)) ∧ w' = w := by
  unfold cmpB
  go_enter Tryz.func93, Tryz.ntmps93
  go_wp2
  rw [run_callFunc_extern Tryz.func121 (by kernel_rfl) (by kernel_rfl) (by kernel_rfl) (e := Extern.BytealgCompare.compare) (by kernel_rfl), Lib.run_compareString]
  simp only [Result.andThen]
  rw [Oper.upon_value]
  go_wp2
  go_ret
  exact ⟨rfl, rfl⟩
theorem cmpText (a b : ByteArray) (w : World) : Calls Tryz.prog 59 #[.string a, .string b] w fun e w' => e = .returned (.int .i64 (cmpB a b)) ∧ w' = w := by
  go_enter Tryz.func59, Tryz.ntmps59
  go_wp2_with (go_at_call 93; refine (cmpInner _ _ _).mono ?_; rintro e w' ⟨rfl, rfl⟩)
  go_ret
  exact ⟨rfl, rfl⟩
/- The first that isn't 0. -/
def firstI : List Int → Int
  | [] => 0
  | x :: l => orI x (firstI l)
theorem first_drop (l : List Int) (k : Nat) (hk : k < l.length) : firstI (l.drop k) = orI l[k] (firstI (l.drop (k + 1))) := by
  rw [List.drop_eq_getElem_cons hk]; rfl
set_option maxHeartbeats 1600000 in
theorem or_any (l : List Int) (X : Nat) (w : World) (hl : l.length ≤ 5) (hc : ∀ k (hk : k < l.length), w.cell? ⟨X, k, none⟩ = some (.int .i64 l[k])) :
    Calls Tryz.prog 69 #[.slice (some ⟨X, 0, none⟩) l.length l.length] w fun e w' => e = .returned (.int .i64 (firstI l)) ∧ w' = w := by
  have HC : Hid (∀ k (hk : k < l.length), w.cell? ⟨X, k, none⟩ = some (.int .i64 l[k])) := hc
  clear hc
  obtain ⟨n, hn⟩ : ∃ n, n = l.length := ⟨_, rfl⟩
  have HL : Hid (l.length = n) := hn.symm
  rw [← hn] at hl ⊢
  clear hn
  go_enter Tryz.func69, Tryz.ntmps69
  go_wp2
  go_loop [5, 8] (fun i j => ∃ k : Nat, k ≤ n ∧ j = .int .i64 k ∧ Hid (firstI (l.drop k) = firstI l)) (fun _ j => n - (intOf j).toNat)
  case atStart => exact ⟨0, Nat.zero_le _, rfl, rfl⟩
  case round =>
    obtain ⟨k, hk, rfl, HF⟩ := hrel
    by_cases hlt : k < n
    · have hk' : k < l.length := by rw [HL.out]; exact hlt
      have hcell := HC.out k hk'
      have HN := first_drop l k hk'
      rw [HF.out] at HN
      have HN2 : Hid (firstI l = orI l[k] (firstI (l.drop (k + 1)))) := HN
      clear HN
      generalize l[k] = x at *
      by_cases hx : x = 0
      · have hx' : (x != 0) = false := by simpa using hx
        have HR : Hid (firstI (l.drop (k + 1)) = firstI l) := by show _ = _; rw [HN2.out, hx]; rfl
        clear hx
        go_wp2
        go_round
        case rel => exact ⟨k + 1, by omega, by go_num, HR⟩
        case measure => simp [intOf]; omega
      · have hx' : (x != 0) = true := by simpa using hx
        have HR : Hid (x = firstI l) := by show _ = _; rw [HN2.out]; unfold orI; rw [if_neg hx]
        clear hx
        go_wp2
        go_ret
        exact ⟨ret_int HR.out, rfl⟩
    · have HR : Hid (0 = firstI l) := by
        show _ = _
        have := HF.out
        rw [List.drop_of_length_le (by rw [HL.out]; omega)] at this
        exact this
      go_wp2
      go_ret
      exact ⟨ret_int HR.out, rfl⟩
end Go.Proofs.YthgbdaladngpdaaGreat
