/- The contracts of the functions on one record: which keys and records may be, which are live. Each answers what the plain function does and turns nothing that was there. The contracts of the functions on one record: which may be, which is live. Each answers what the plain function does and turns nothing that was there. The contracts of the reference's functions on one record, and of both that give a record's number. Each answers what the plain function does and turns nothing that was there. -/
import Derived.Test.YtioeidhblbfgmaaGreatY14
import Derived.Test.YtioeidhblbfgmaaGreatY3

namespace Go.Proofs.YtioeidhblbfgmaaGreat
open Go.ChangeShapes Go.WideShapes Go.ChangeAt Go.RowKit
set_option linter.unusedVariables false
set_option maxRecDepth 100000
set_option linter.unusedSimpArgs false

theorem key_bad (s : ByteArray) (k : Nat) (hk : k < s.size) (h : good s[k] = false) : keyMay s = false := by
  have hl : k < s.data.toList.length := by simpa using hk
  have : s.data.toList.all good = false := by
    rw [List.all_eq_false]
    exact ⟨s.data.toList[k], List.getElem_mem hl, by
      have : s.data.toList[k] = s[k] := rfl
      rw [this, h]; simp⟩
  unfold keyMay
  rw [this, Bool.and_false]
theorem key_short (s : ByteArray) (h : s.size < 1) : keyMay s = false := by
  unfold keyMay
  rw [show decide (1 ≤ s.size) = false from decide_eq_false (by omega)]; simp
theorem key_long (s : ByteArray) (h : 250 < s.size) : keyMay s = false := by
  unfold keyMay
  rw [show decide (s.size ≤ 250) = false from decide_eq_false (by omega)]; simp
theorem key_good (s : ByteArray) (h1 : 1 ≤ s.size) (h2 : s.size ≤ 250) (h : ∀ k (hk : k < s.size), good s[k] = true) : keyMay s = true := by
  have : s.data.toList.all good = true := by
    rw [List.all_eq_true]
    intro c hc
    obtain ⟨k, hk, rfl⟩ := List.getElem_of_mem hc
    exact h k (by simpa using hk)
  unfold keyMay
  rw [this]; simp [h1, h2]
theorem good_low (c : UInt8) (h : (c.toNat : Int) ≤ 32) : good c = false := by
  unfold good; simp; omega
theorem good_del (c : UInt8) (h : (c.toNat : Int) = 127) : good c = false := by
  unfold good; simp; omega
theorem good_not (c : UInt8) (h : ¬ (c.toNat : Int) ≤ 32) (k : ¬ (c.toNat : Int) = 127) : good c = true := by
  unfold good; simp; omega
set_option maxHeartbeats 1600000 in
theorem KeyMay_any (s : ByteArray) (hs : s.size ≤ maxLen) (w : World) :
    Calls Tryz.prog 43 #[.string s] w fun e w' => e = .returned (.bool (keyMay s)) ∧ w' = w := by
  unfold maxLen at hs
  by_cases h1 : (s.size : Int) < 1
  · have HE : Hid (false = keyMay s) := (key_short s (by omega)).symm
    go_enter Tryz.func43, Tryz.ntmps43
    go_wp2
    go_ret
    exact ⟨ret_bool HE.out, rfl⟩
  by_cases h2 : (250 : Int) < (s.size : Int)
  · have HE : Hid (false = keyMay s) := (key_long s (by omega)).symm
    go_enter Tryz.func43, Tryz.ntmps43
    go_wp2
    go_ret
    exact ⟨ret_bool HE.out, rfl⟩
  have H1 : Hid (1 ≤ s.size ∧ s.size ≤ 250) := ⟨by omega, by omega⟩
  have d1 : decide ((s.size : Int) < 1) = false := by simpa using h1
  have d2 : decide ((250 : Int) < (s.size : Int)) = false := by simpa using h2
  clear h1 h2
  go_enter Tryz.func43, Tryz.ntmps43
  go_wp2
  go_loop [3, 14] (fun i j => ∃ k : Nat, k ≤ s.size ∧ j = .int .i64 k ∧ Hid (∀ q (hq : q < s.size), q < k → good s[q] = true)) (fun _ j => s.size - (intOf j).toNat)
  case atStart => exact ⟨0, Nat.zero_le _, rfl, fun q _ hq => absurd hq (by omega)⟩
  case round =>
    obtain ⟨k, hk, rfl, HG⟩ := hrel
    by_cases hlt : k < s.size
    · by_cases c1 : (s[k].toNat : Int) ≤ 32
      · have HE : Hid (false = keyMay s) := (key_bad s k hlt (good_low _ c1)).symm
        go_wp2
        go_ret
        exact ⟨ret_bool HE.out, rfl⟩
      · by_cases c2 : (s[k].toNat : Int) = 127
        · have HE : Hid (false = keyMay s) := (key_bad s k hlt (good_del _ c2)).symm
          go_wp2
          go_ret
          exact ⟨ret_bool HE.out, rfl⟩
        · have HN : Hid (∀ q (hq : q < s.size), q < k + 1 → good s[q] = true) := fun q hq hl => by
            rcases (show q < k ∨ q = k by omega) with h | rfl
            · exact HG.out q hq h
            · exact good_not _ c1 c2
          go_wp2
          go_round
          case rel => exact ⟨k + 1, by omega, by go_num, HN⟩
          case measure => simp [intOf]; omega
    · have HE : Hid (true = keyMay s) := (key_good s H1.out.1 H1.out.2 (fun q hq => HG.out q hq (by omega))).symm
      go_wp2
      go_ret
      exact ⟨ret_bool HE.out, rfl⟩
set_option maxHeartbeats 1600000 in
theorem refKeyMay_any (s : ByteArray) (hs : s.size ≤ maxLen) (w : World) :
    Calls Tryz.prog 36 #[.string s] w fun e w' => e = .returned (.bool (keyMay s)) ∧ w' = w := by
  unfold maxLen at hs
  by_cases h1 : (s.size : Int) = 0
  · have HE : Hid (false = keyMay s) := (key_short s (by omega)).symm
    go_enter Tryz.func36, Tryz.ntmps36
    go_wp2
    go_ret
    exact ⟨ret_bool HE.out, rfl⟩
  have d1 : ((s.size : Int) == 0) = false := by simpa using h1
  by_cases h2 : (250 : Int) < (s.size : Int)
  · have HE : Hid (false = keyMay s) := (key_long s (by omega)).symm
    clear h1
    go_enter Tryz.func36, Tryz.ntmps36
    go_wp2
    go_ret
    exact ⟨ret_bool HE.out, rfl⟩
  have H1 : Hid (1 ≤ s.size ∧ s.size ≤ 250) := ⟨by omega, by omega⟩
  have d2 : decide ((250 : Int) < (s.size : Int)) = false := by simpa using h2
  clear h1 h2
  go_enter Tryz.func36, Tryz.ntmps36
  go_wp2
  go_loop [3] (fun j => ∃ k : Nat, k ≤ s.size ∧ j = .int .i64 k ∧ Hid (∀ q (hq : q < s.size), q < k → good s[q] = true)) (fun j => s.size - (intOf j).toNat)
  case atStart => exact ⟨0, Nat.zero_le _, rfl, fun q _ hq => absurd hq (by omega)⟩
  case round =>
    obtain ⟨k, hk, rfl, HG⟩ := hrel
    by_cases hlt : k < s.size
    · by_cases c1 : (s[k].toNat : Int) < 33
      · have HE : Hid (false = keyMay s) := (key_bad s k hlt (good_low _ (by omega))).symm
        go_wp2
        go_ret
        exact ⟨ret_bool HE.out, rfl⟩
      · by_cases c2 : (s[k].toNat : Int) = 127
        · have HE : Hid (false = keyMay s) := (key_bad s k hlt (good_del _ c2)).symm
          go_wp2
          go_ret
          exact ⟨ret_bool HE.out, rfl⟩
        · have HN : Hid (∀ q (hq : q < s.size), q < k + 1 → good s[q] = true) := fun q hq hl => by
            rcases (show q < k ∨ q = k by omega) with h | rfl
            · exact HG.out q hq h
            · exact good_not _ (by omega) c2
          go_wp2
          go_round
          case rel => exact ⟨k + 1, by omega, by go_num, HN⟩
          case measure => simp [intOf]; omega
    · have HE : Hid (true = keyMay s) := (key_good s H1.out.1 H1.out.2 (fun q hq => HG.out q hq (by omega))).symm
      go_wp2
      go_ret
      exact ⟨ret_bool HE.out, rfl⟩
theorem stampMay_any (s : Stp) (w : World) :
    Calls Tryz.prog 84 #[.agg #[.int .u64 s.p, .int .u32 s.l, .int .u8 s.n]] w fun e w' => e = .returned (.bool (stampMay s)) ∧ Kept w w' := by
  have HK : Hid (Kept w (w.alloc (.cells #[.int .u64 s.p, .int .u32 s.l, .int .u8 s.n] 55))) := kept_alloc (kept_refl w) _
  by_cases h1 : s.p ≤ 281474976710655
  · have HE : Hid (decide (s.n < 64) = stampMay s) := by show _ = _; unfold stampMay; simp [h1]
    go_enter Tryz.func84, Tryz.ntmps84
    go_wp2
    go_ret
    exact ⟨ret_bool HE.out, HK.out⟩
  · have HE : Hid (false = stampMay s) := by show _ = _; unfold stampMay; simp [h1]
    go_enter Tryz.func84, Tryz.ntmps84
    go_wp2
    go_ret
    exact ⟨ret_bool HE.out, HK.out⟩
end Go.Proofs.YtioeidhblbfgmaaGreat


namespace Go.Proofs.YtioeidhblbfgmaaGreat
open Go.ChangeShapes Go.WideShapes Go.ChangeAt Go.RowKit
set_option linter.unusedVariables false
set_option maxRecDepth 100000
set_option linter.unusedSimpArgs false

theorem at_cells8' {w : World} {X T : Nat} {r : R} (h : At w X #[.string r.key, .int .u64 r.s.p, .int .u32 r.s.l, .int .u8 r.s.n, .int .u8 r.kind, .int .u32 r.flags, .int .u64 r.exp, .string r.body] T) : w.cell? ⟨X, 0, none⟩ = some (.string r.key) ∧ w.cell? ⟨X, 1, none⟩ = some (.int .u64 r.s.p) ∧ w.cell? ⟨X, 2, none⟩ = some (.int .u32 r.s.l) ∧ w.cell? ⟨X, 3, none⟩ = some (.int .u8 r.s.n) ∧ w.cell? ⟨X, 4, none⟩ = some (.int .u8 r.kind) ∧ w.cell? ⟨X, 5, none⟩ = some (.int .u32 r.flags) ∧ w.cell? ⟨X, 6, none⟩ = some (.int .u64 r.exp) ∧ w.cell? ⟨X, 7, none⟩ = some (.string r.body) :=
  ⟨at_cell h 0, at_cell h 1, at_cell h 2, at_cell h 3, at_cell h 4, at_cell h 5, at_cell h 6, at_cell h 7⟩
theorem empty_iff (b : ByteArray) : b.toList.isEmpty = decide (b.size = 0) := by
  rw [ByteArray.toList_eq, Bool.eq_iff_iff]
  have : b.size = b.data.toList.length := by simp
  rw [this, List.isEmpty_iff, decide_eq_true_iff, List.length_eq_zero_iff]
set_option maxHeartbeats 1600000 in
theorem contentMay_any (r : R) (hb : r.body.size ≤ maxLen) (w : World) :
    Calls Tryz.prog 85 #[.agg #[.string r.key, .int .u64 r.s.p, .int .u32 r.s.l, .int .u8 r.s.n, .int .u8 r.kind, .int .u32 r.flags, .int .u64 r.exp, .string r.body]] w fun e w' => e = .returned (.bool (contentMay r)) ∧ Kept w w' := by
  have HK : Hid (Kept w (w.alloc (.cells #[.string r.key, .int .u64 r.s.p, .int .u32 r.s.l, .int .u8 r.s.n, .int .u8 r.kind, .int .u32 r.flags, .int .u64 r.exp, .string r.body] 57))) := kept_alloc (kept_refl w) _
  unfold maxLen at hb
  by_cases k1 : r.kind = 1 ∨ r.kind = 2
  · have k3 : (r.kind == 1) = true ∨ ((r.kind == 1) = false ∧ (r.kind == 2) = true) := by
      rcases k1 with h | h <;> simp [h]
    have HE : Hid (contentMay r = (decide (r.flags = 0) && (decide (r.exp = 0) && decide (r.body.size = 0)))) := by
      show _ = _
      unfold contentMay; rw [if_pos k1]
    clear k1
    rcases k3 with k1 | ⟨k1, k2⟩
    all_goals
      by_cases f1 : r.flags = 0
      · have g1 : (r.flags == 0) = true := by simpa using f1
        by_cases f2 : r.exp = 0
        · have g2 : (r.exp == 0) = true := by simpa using f2
          have HE2 : Hid (r.body.toList.isEmpty = contentMay r) := by
            show _ = _
            rw [HE.out, empty_iff, f1, f2]; simp
          clear f1 f2 HE
          go_enter Tryz.func85, Tryz.ntmps85
          go_wp2
          go_ret
          exact ⟨ret_bool HE2.out, HK.out⟩
        · have g2 : (r.exp == 0) = false := by simpa using f2
          have HE2 : Hid (false = contentMay r) := by
            show _ = _
            rw [HE.out, decide_eq_false f2]; simp
          clear f1 f2 HE
          go_enter Tryz.func85, Tryz.ntmps85
          go_wp2
          go_ret
          exact ⟨ret_bool HE2.out, HK.out⟩
      · have g1 : (r.flags == 0) = false := by simpa using f1
        have HE2 : Hid (false = contentMay r) := by
          show _ = _
          rw [HE.out, decide_eq_false f1]; simp
        clear f1 HE
        go_enter Tryz.func85, Tryz.ntmps85
        go_wp2
        go_ret
        exact ⟨ret_bool HE2.out, HK.out⟩
  · have g1 : (r.kind == 1) = false := by simp; omega
    have g2 : (r.kind == 2) = false := by simp; omega
    by_cases k3 : r.kind = 3
    · have g3 : (r.kind == 3) = true := by simpa using k3
      have HE : Hid (contentMay r = (decide (r.exp ≤ 281474976710655) && decide (r.body.size ≤ 1024))) := by
        show _ = _
        unfold contentMay; rw [if_neg k1, if_pos k3]
      clear k1 k3
      by_cases f1 : r.exp ≤ 281474976710655
      · have HE2 : Hid (decide ((r.body.size : Int) ≤ 1024) = contentMay r) := by
          show _ = _
          rw [HE.out, decide_eq_true f1, Bool.true_and]
          rw [Bool.eq_iff_iff, decide_eq_true_iff, decide_eq_true_iff]; omega
        clear HE
        go_enter Tryz.func85, Tryz.ntmps85
        go_wp2
        go_ret
        exact ⟨ret_bool HE2.out, HK.out⟩
      · have HE2 : Hid (false = contentMay r) := by
          show _ = _
          rw [HE.out, decide_eq_false f1]; simp
        clear HE
        go_enter Tryz.func85, Tryz.ntmps85
        go_wp2
        go_ret
        exact ⟨ret_bool HE2.out, HK.out⟩
    · have g3 : (r.kind == 3) = false := by simpa using k3
      have HE2 : Hid (false = contentMay r) := by
        show _ = _
        unfold contentMay; rw [if_neg k1, if_neg k3]
      clear k1 k3
      go_enter Tryz.func85, Tryz.ntmps85
      go_wp2
      go_ret
      exact ⟨ret_bool HE2.out, HK.out⟩
set_option maxHeartbeats 1600000 in
theorem May_any (r : R) (hk : r.key.size ≤ maxLen) (hb : r.body.size ≤ maxLen) (w : World) :
    Calls Tryz.prog 45 #[.agg #[.string r.key, .int .u64 r.s.p, .int .u32 r.s.l, .int .u8 r.s.n, .int .u8 r.kind, .int .u32 r.flags, .int .u64 r.exp, .string r.body]] w fun e w' => e = .returned (.bool (mayR r)) ∧ Kept w w' := by
  have HK : Hid (Kept w (w.alloc (.cells #[.string r.key, .int .u64 r.s.p, .int .u32 r.s.l, .int .u8 r.s.n, .int .u8 r.kind, .int .u32 r.flags, .int .u64 r.exp, .string r.body] 57))) := kept_alloc (kept_refl w) _
  have A1 : Hid (At (w.alloc (.cells #[.string r.key, .int .u64 r.s.p, .int .u32 r.s.l, .int .u8 r.s.n, .int .u8 r.kind, .int .u32 r.flags, .int .u64 r.exp, .string r.body] 57)) w.heap.size #[.string r.key, .int .u64 r.s.p, .int .u32 r.s.l, .int .u8 r.s.n, .int .u8 r.kind, .int .u32 r.flags, .int .u64 r.exp, .string r.body] 57) := at_new w _ _
  cases h1 : keyMay r.key with
  | false =>
    have HE : Hid (false = mayR r) := by show _ = _; unfold mayR; rw [h1]; rfl
    go_enter Tryz.func45, Tryz.ntmps45
    go_wp2_with fail
    refine (KeyMay_any r.key hk _).mono ?_
    rintro e w1 ⟨rfl, rfl⟩
    rw [h1]
    go_wp2_with fail
    go_ret
    exact ⟨ret_bool HE.out, HK.out⟩
  | true =>
    cases h2 : stampMay r.s with
    | false =>
      have HE : Hid (false = mayR r) := by show _ = _; unfold mayR; rw [h1, h2]; rfl
      go_enter Tryz.func45, Tryz.ntmps45
      go_wp2_with fail
      refine (KeyMay_any r.key hk _).mono ?_
      rintro e w1 ⟨rfl, rfl⟩
      rw [h1]
      go_wp2_with fail
      refine (stampMay_any r.s _).mono ?_
      rintro e w2 ⟨rfl, k2⟩
      rw [h2]
      have K2 := kept_trans HK.out k2
      clear k2
      go_wp2_with fail
      go_ret
      exact ⟨ret_bool HE.out, K2⟩
    | true =>
      have HE : Hid (contentMay r = mayR r) := by show _ = _; unfold mayR; rw [h1, h2]; rfl
      go_enter Tryz.func45, Tryz.ntmps45
      go_wp2_with fail
      refine (KeyMay_any r.key hk _).mono ?_
      rintro e w1 ⟨rfl, rfl⟩
      rw [h1]
      go_wp2_with fail
      refine (stampMay_any r.s _).mono ?_
      rintro e w2 ⟨rfl, k2⟩
      rw [h2]
      have K2 := kept_trans HK.out k2
      obtain ⟨c0, c1, c2, c3, c4, c5, c6, c7⟩ := at_cells8' (at_kept A1.out k2)
      clear k2
      go_wp2_with fail
      refine (contentMay_any r hb _).mono ?_
      rintro e w3 ⟨rfl, k3⟩
      have K3 := kept_trans K2 k3
      clear k3 c0 c1 c2 c3 c4 c5 c6 c7
      go_wp2_with fail
      go_ret
      exact ⟨ret_bool HE.out, K3⟩
end Go.Proofs.YtioeidhblbfgmaaGreat


namespace Go.Proofs.YtioeidhblbfgmaaGreat
open Go.ChangeShapes Go.WideShapes Go.ChangeAt Go.RowKit
set_option linter.unusedVariables false
set_option maxRecDepth 100000
set_option linter.unusedSimpArgs false

theorem may_false_body (r : R) (hr : r.ok) (h : 1024 < r.body.size) : mayR r = false := by
  have : contentMay r = false := by
    unfold contentMay
    split
    · rw [show decide (r.body.size = 0) = false from decide_eq_false (by omega)]; simp
    · split
      · rw [show decide (r.body.size ≤ 1024) = false from decide_eq_false (by omega)]; simp
      · rfl
  unfold mayR; rw [this]; simp
theorem may_false_exp (r : R) (h : 281474976710655 < r.exp) : mayR r = false := by
  have : contentMay r = false := by
    unfold contentMay
    split
    · rw [show decide (r.exp = 0) = false from decide_eq_false (by omega)]; simp
    · split
      · rw [show decide (r.exp ≤ 281474976710655) = false from decide_eq_false (by omega)]; simp
      · rfl
  unfold mayR; rw [this]; simp
theorem may_false_p (r : R) (h : 281474976710655 < r.s.p) : mayR r = false := by
  unfold mayR stampMay; rw [show decide (r.s.p ≤ 281474976710655) = false from decide_eq_false (by omega)]; simp
theorem may_false_n (r : R) (h : 63 < r.s.n) : mayR r = false := by
  unfold mayR stampMay; rw [show decide (r.s.n < 64) = false from decide_eq_false (by omega)]; simp
theorem may_rest (r : R) (h1 : keyMay r.key = true) (h2 : ¬ 281474976710655 < r.s.p) (h3 : ¬ 63 < r.s.n) : mayR r = contentMay r := by
  unfold mayR stampMay; rw [h1, decide_eq_true (by omega), decide_eq_true (by omega)]; simp
set_option maxHeartbeats 3200000 in
theorem refMay_any (r : R) (hr : r.ok) (w : World) :
    Calls Tryz.prog 37 #[.agg #[.string r.key, .int .u64 r.s.p, .int .u32 r.s.l, .int .u8 r.s.n, .int .u8 r.kind, .int .u32 r.flags, .int .u64 r.exp, .string r.body]] w fun e w' => e = .returned (.bool (mayR r)) ∧ Kept w w' := by
  have HK : Hid (Kept w (w.alloc (.cells #[.string r.key, .int .u64 r.s.p, .int .u32 r.s.l, .int .u8 r.s.n, .int .u8 r.kind, .int .u32 r.flags, .int .u64 r.exp, .string r.body] 57))) := kept_alloc (kept_refl w) _
  have hk := hr.1
  have hb : r.body.size ≤ 2 ^ 63 - 1 := hr.2.2.2.2.2
  cases h1 : keyMay r.key with
  | false =>
    have HE : Hid (false = mayR r) := by show _ = _; unfold mayR; rw [h1]; rfl
    clear hr
    go_enter Tryz.func37, Tryz.ntmps37
    go_wp2_with fail
    refine (refKeyMay_any r.key hk _).mono ?_
    rintro e w1 ⟨rfl, rfl⟩
    rw [h1]
    go_wp2_with fail
    go_ret
    exact ⟨ret_bool HE.out, HK.out⟩
  | true =>
    by_cases h2 : 281474976710655 < r.s.p
    · have HE : Hid (false = mayR r) := (may_false_p r h2).symm
      clear hr
      go_enter Tryz.func37, Tryz.ntmps37
      go_wp2_with fail
      refine (refKeyMay_any r.key hk _).mono ?_
      rintro e w1 ⟨rfl, rfl⟩
      rw [h1]
      go_wp2_with fail
      go_ret
      exact ⟨ret_bool HE.out, HK.out⟩
    by_cases h3 : 63 < r.s.n
    · have HE : Hid (false = mayR r) := (may_false_n r h3).symm
      clear hr
      go_enter Tryz.func37, Tryz.ntmps37
      go_wp2_with fail
      refine (refKeyMay_any r.key hk _).mono ?_
      rintro e w1 ⟨rfl, rfl⟩
      rw [h1]
      go_wp2_with fail
      go_ret
      exact ⟨ret_bool HE.out, HK.out⟩
    have HM : Hid (mayR r = contentMay r) := may_rest r h1 h2 h3
    by_cases h4 : 281474976710655 < r.exp
    · have HE : Hid (false = mayR r) := (may_false_exp r h4).symm
      clear hr
      go_enter Tryz.func37, Tryz.ntmps37
      go_wp2_with fail
      refine (refKeyMay_any r.key hk _).mono ?_
      rintro e w1 ⟨rfl, rfl⟩
      rw [h1]
      go_wp2_with fail
      go_ret
      exact ⟨ret_bool HE.out, HK.out⟩
    by_cases h5 : (1024 : Int) < (r.body.size : Int)
    · have HE : Hid (false = mayR r) := (may_false_body r hr (by omega)).symm
      clear hr
      go_enter Tryz.func37, Tryz.ntmps37
      go_wp2_with fail
      refine (refKeyMay_any r.key hk _).mono ?_
      rintro e w1 ⟨rfl, rfl⟩
      rw [h1]
      go_wp2_with fail
      go_ret
      exact ⟨ret_bool HE.out, HK.out⟩
    clear hr
    by_cases k1 : r.kind = 1 ∨ r.kind = 2
    · have k3 : (r.kind == 1) = true ∨ ((r.kind == 1) = false ∧ (r.kind == 2) = true) := by
        rcases k1 with h | h <;> simp [h]
      have HE : Hid (contentMay r = (decide (r.flags = 0) && (decide (r.exp = 0) && decide (r.body.size = 0)))) := by
        show _ = _
        unfold contentMay; rw [if_pos k1]
      clear k1
      rcases k3 with k1 | ⟨k1, k2⟩
      all_goals
        by_cases f1 : r.flags = 0
        · have g1 : (r.flags == 0) = true := by simpa using f1
          by_cases f2 : r.exp = 0
          · have g2 : (r.exp == 0) = true := by simpa using f2
            have HE2 : Hid (r.body.toList.isEmpty = mayR r) := by
              show _ = _
              rw [HM.out, HE.out, empty_iff, f1, f2]; simp
            clear f1 f2 HE
            go_enter Tryz.func37, Tryz.ntmps37
            go_wp2_with fail
            refine (refKeyMay_any r.key hk _).mono ?_
            rintro e w1 ⟨rfl, rfl⟩
            rw [h1]
            go_wp2_with fail
            go_ret
            exact ⟨ret_bool HE2.out, HK.out⟩
          · have g2 : (r.exp == 0) = false := by simpa using f2
            have HE2 : Hid (false = mayR r) := by
              show _ = _
              rw [HM.out, HE.out, decide_eq_false f2]; simp
            clear f1 f2 HE
            go_enter Tryz.func37, Tryz.ntmps37
            go_wp2_with fail
            refine (refKeyMay_any r.key hk _).mono ?_
            rintro e w1 ⟨rfl, rfl⟩
            rw [h1]
            go_wp2_with fail
            go_ret
            exact ⟨ret_bool HE2.out, HK.out⟩
        · have g1 : (r.flags == 0) = false := by simpa using f1
          have HE2 : Hid (false = mayR r) := by
            show _ = _
            rw [HM.out, HE.out, decide_eq_false f1]; simp
          clear f1 HE
          go_enter Tryz.func37, Tryz.ntmps37
          go_wp2_with fail
          refine (refKeyMay_any r.key hk _).mono ?_
          rintro e w1 ⟨rfl, rfl⟩
          rw [h1]
          go_wp2_with fail
          go_ret
          exact ⟨ret_bool HE2.out, HK.out⟩
    · have g1 : (r.kind == 1) = false := by simp; omega
      have g2 : (r.kind == 2) = false := by simp; omega
      have HE2 : Hid ((r.kind == 3) = mayR r) := by
        show _ = _
        rw [HM.out]
        unfold contentMay
        rw [if_neg k1]
        by_cases k3 : r.kind = 3
        · rw [if_pos k3, decide_eq_true (by omega), decide_eq_true (by omega)]; simp [k3]
        · rw [if_neg k3]; simp [k3]
      clear k1
      go_enter Tryz.func37, Tryz.ntmps37
      go_wp2_with fail
      refine (refKeyMay_any r.key hk _).mono ?_
      rintro e w1 ⟨rfl, rfl⟩
      rw [h1]
      go_wp2_with fail
      go_ret
      exact ⟨ret_bool HE2.out, HK.out⟩


end Go.Proofs.YtioeidhblbfgmaaGreat
