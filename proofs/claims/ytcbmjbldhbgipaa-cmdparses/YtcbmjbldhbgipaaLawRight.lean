/- The walk of the statement CmdRight: true, and nothing that was there is turned. No condition. -/
import Derived.Test.YtcbmjbldhbgipaaSame
namespace Go.Proofs.Ytcbmjbldhbgipaa
open Go.ChangeShapes Go.WideShapes Go.ChangeAt Go.RowKit
set_option linter.unusedVariables false
set_option linter.unusedSimpArgs false

theorem keys_open {w : World} {v : Value} {K : List ByteArray} (h : Keys w v K) : ∃ a cap, v = .slice a K.length cap ∧ ∀ i (h : i < K.length), ∃ A, a = some ⟨A, 0, none⟩ ∧ A < w.heap.size ∧ w.cell? ⟨A, i, none⟩ = some (.string K[i]) := by
  rcases h with ⟨h0, rfl⟩ | ⟨A, cap, rfl, hA, hc⟩
  · subst h0
    exact ⟨_, _, rfl, fun i hi => absurd hi (by simp)⟩
  · exact ⟨_, _, rfl, fun i hi => ⟨A, rfl, hA, hc i hi⟩⟩
theorem may_small (x : ByteArray) (h : keyMay x = true) : x.size ≤ maxLen := by
  unfold keyMay at h
  simp only [Bool.and_eq_true, decide_eq_true_eq] at h
  unfold maxLen
  omega
set_option maxHeartbeats 1600000 in
set_option maxRecDepth 100000 in
theorem right_bad (s : ByteArray) (hs : s.size ≤ 5000) (K : List ByteArray) (hK : K = []) (n : Int) (rp : ByteArray) (hr : 2 < rp.size ∧ rp.size ≤ 5000 ∧ (rp.extract (rp.size - 2) rp.size).toList = [13, 10]) (hn : -1 ≤ n) (hp : parseC (words s) = (⟨8, K, 0, 0, false, rp⟩, n)) (hm : ∀ k (h : k < K.length), keyMay K[k] = true) (h16 : K.length ≤ 16) (w : World) :
    Calls Try.prog 5 #[.string s] w fun e w' => e = .returned (.bool true) ∧ Kept w w' := by
  have hz := zero26
  have HP : Hid (∀ w, _) := fun w => Parse_any s (by omega) w
  rw [hp] at HP
  have h5 : ¬ (5000 : Int) < (s.size : Int) := by omega
  obtain ⟨m, hmK⟩ : ∃ m, m = K.length := ⟨_, rfl⟩
  have HL : Hid (K.length = m) := hmK.symm
  have H16 : Hid (m ≤ 16) := by show m ≤ 16; rw [hmK]; exact h16
  have HKM : Hid (∀ k (h : k < K.length), keyMay K[k] = true ∧ K[k].size ≤ maxLen) := fun k h => ⟨hm k h, may_small _ (hm k h)⟩
  have n1 : ¬ n < -1 := by omega
  have hr2 : (2 : Int) < (rp.size : Int) := by omega
  have hr5 : rp.size ≤ 5000 := hr.2.1
  have HR2 : Hid (((rp.extract (rp.size - 2) rp.size).toList == [13, 10]) = true) := by show _ = true; rw [hr.2.2]; rfl
  have HSM : Hid (∀ v w, Keys w v K → Calls Try.prog 11 #[.agg #[.int .i64 8, v, .int .u32 0, .int .i64 0, .string ⟨#[]⟩, .bool false, .string rp], .agg #[.int .i64 8, .slice none 0 0, .int .u32 0, .int .i64 0, .string ⟨#[]⟩, .bool false, .string rp]] w fun e w' => e = .returned (.bool true) ∧ Kept w w') := fun v w h => by
    rw [hK] at h
    exact same_any (bad rp) (Nat.zero_le _) v _ w h (keys_nil w)
  clear hr hn hK
  clear hp hs hm h16 hmK
  go_enter Try.func5, Try.ntmps5
  go_wp2_with fail
  refine (HP.out _).mono ?_
  rintro e w1 ⟨kv, rfl, hks, hk1⟩
  simp only at hks ⊢
  obtain ⟨a, cap, rfl, hcell⟩ := keys_open hks
  have HKS := hid hks
  have HC : Hid (∀ u, Kept w1 u → ∀ i (h : i < K.length), ∃ A, a = some ⟨A, 0, none⟩ ∧ u.cell? ⟨A, i, none⟩ = some (.string K[i])) := fun u hu i h => by
    obtain ⟨A, e, hA, hx⟩ := hcell i h
    exact ⟨A, e, (kept_cell hu hA).trans hx⟩
  rw [HL.out] at HKS ⊢
  have H1 := hid hk1
  have A1 := hid (at_new w1 #[.int .i64 8, .slice a m cap, .int .u32 0, .int .i64 0, .string ⟨#[]⟩, .bool false, .string rp] 26)
  have HK1 := hid (kept_alloc (kept_refl w1) (.cells #[.int .i64 8, .slice a m cap, .int .u32 0, .int .i64 0, .string ⟨#[]⟩, .bool false, .string rp] 26))
  clear hks hcell hk1
  go_wp2_with fail
  generalize w1.alloc (.cells #[.int .i64 8, .slice a m cap, .int .u32 0, .int .i64 0, .string ⟨#[]⟩, .bool false, .string rp] 26) = v1 at *
  generalize w1.heap.size = X1 at *
  go_loop [6, 19] (fun i j => ∃ k : Nat, k ≤ m ∧ j = .int .i64 k) (fun _ j => m - (intOf j).toNat)
  case atStart => exact ⟨0, Nat.zero_le _, rfl⟩
  case round =>
    obtain ⟨k, hk, rfl⟩ := hrel
    by_cases hlt : k < m
    · have hk16 : k < 16 := by have := H16.out; omega
      have hkK : Hid (k < K.length) := by show k < _; rw [HL.out]; exact hlt
      obtain ⟨A, rfl, hx⟩ := HC.out _ HK1.out k hkK.out
      have HMy : Hid (∀ w, Calls Try.prog 12 #[.string (K[k]'hkK.out)] w fun e w' => e = .returned (.bool true) ∧ w' = w) := fun w => by
        have := refKeyMay_any (K[k]'hkK.out) (HKM.out k hkK.out).2 w
        rw [(HKM.out k hkK.out).1] at this
        exact this
      generalize (K[k]'hkK.out) = x at *
      go_wp2_with fail
      refine (HMy.out _).mono ?_
      rintro e w2 ⟨rfl, hw2⟩
      rw [hw2]; clear hw2 w2
      go_wp2_with fail
      go_round
      case rel => exact ⟨k + 1, by omega, by go_num⟩
      case measure => simp [intOf]; omega
    · have he : k = m := by omega
      subst he
      obtain ⟨p0, p1, p2, p3, p4, p5, p6, -⟩ := at_cells7 A1.out
      go_wp2_with fail
      refine (fixed_any _).mono ?_
      rintro e w3 ⟨rfl, hk3⟩
      have HK3 := hid hk3
      obtain ⟨q0, q1, q2, q3, q4, q5, q6, -⟩ := at_cells7 (at_kept A1.out hk3)
      clear hk3 p0 p1 p2 p3 p4 p5 p6
      go_wp2_with fail
      refine (HSM.out _ _ (keys_kept HKS.out (kept_trans HK1.out HK3.out))).mono ?_
      rintro e w4 ⟨rfl, hk4⟩
      have HK4 := hid hk4
      obtain ⟨r0, r1, r2, r3, r4, r5, r6, -⟩ := at_cells7 (at_kept A1.out (kept_trans HK3.out hk4))
      clear hk4 q0 q1 q2 q3 q4 q5 q6
      go_wp2_with fail
      go_ret
      exact ⟨ret_bool HR2.out, kept_trans H1.out (kept_trans HK1.out (kept_trans HK3.out HK4.out))⟩
set_option maxHeartbeats 1600000 in
set_option maxRecDepth 100000 in
theorem right_set (s : ByteArray) (hs : s.size ≤ 5000) (K : List ByteArray) (fl ex n : Int) (qu : Bool) (hn : 0 ≤ n ∧ n ≤ 1024) (hp : parseC (words s) = (⟨2, K, fl, ex, qu, ⟨#[]⟩⟩, n)) (hm : ∀ k (h : k < K.length), keyMay K[k] = true) (h16 : K.length ≤ 16) (w : World) :
    Calls Try.prog 5 #[.string s] w fun e w' => e = .returned (.bool true) ∧ Kept w w' := by
  have hz := zero26
  have HP : Hid (∀ w, _) := fun w => Parse_any s (by omega) w
  rw [hp] at HP
  have h5 : ¬ (5000 : Int) < (s.size : Int) := by omega
  obtain ⟨m, hmK⟩ : ∃ m, m = K.length := ⟨_, rfl⟩
  have HL : Hid (K.length = m) := hmK.symm
  have H16 : Hid (m ≤ 16) := by show m ≤ 16; rw [hmK]; exact h16
  have HKM : Hid (∀ k (h : k < K.length), keyMay K[k] = true ∧ K[k].size ≤ maxLen) := fun k h => ⟨hm k h, may_small _ (hm k h)⟩
  have n1 : ¬ n < -1 := by omega
  have n2 : ¬ n < 0 := by omega
  have n3 : ¬ 1024 < n := by omega
  clear hn
  clear hp hs hm h16 hmK
  go_enter Try.func5, Try.ntmps5
  go_wp2_with fail
  refine (HP.out _).mono ?_
  rintro e w1 ⟨kv, rfl, hks, hk1⟩
  simp only at hks ⊢
  obtain ⟨a, cap, rfl, hcell⟩ := keys_open hks
  have HKS := hid hks
  have HC : Hid (∀ u, Kept w1 u → ∀ i (h : i < K.length), ∃ A, a = some ⟨A, 0, none⟩ ∧ u.cell? ⟨A, i, none⟩ = some (.string K[i])) := fun u hu i h => by
    obtain ⟨A, e, hA, hx⟩ := hcell i h
    exact ⟨A, e, (kept_cell hu hA).trans hx⟩
  rw [HL.out] at HKS ⊢
  have H1 := hid hk1
  have A1 := hid (at_new w1 #[.int .i64 2, .slice a m cap, .int .u32 fl, .int .i64 ex, .string ⟨#[]⟩, .bool qu, .string ⟨#[]⟩] 26)
  have HK1 := hid (kept_alloc (kept_refl w1) (.cells #[.int .i64 2, .slice a m cap, .int .u32 fl, .int .i64 ex, .string ⟨#[]⟩, .bool qu, .string ⟨#[]⟩] 26))
  clear hks hcell hk1
  go_wp2_with fail
  generalize w1.alloc (.cells #[.int .i64 2, .slice a m cap, .int .u32 fl, .int .i64 ex, .string ⟨#[]⟩, .bool qu, .string ⟨#[]⟩] 26) = v1 at *
  generalize w1.heap.size = X1 at *
  go_loop [6, 19] (fun i j => ∃ k : Nat, k ≤ m ∧ j = .int .i64 k) (fun _ j => m - (intOf j).toNat)
  case atStart => exact ⟨0, Nat.zero_le _, rfl⟩
  case round =>
    obtain ⟨k, hk, rfl⟩ := hrel
    by_cases hlt : k < m
    · have hk16 : k < 16 := by have := H16.out; omega
      have hkK : Hid (k < K.length) := by show k < _; rw [HL.out]; exact hlt
      obtain ⟨A, rfl, hx⟩ := HC.out _ HK1.out k hkK.out
      have HMy : Hid (∀ w, Calls Try.prog 12 #[.string (K[k]'hkK.out)] w fun e w' => e = .returned (.bool true) ∧ w' = w) := fun w => by
        have := refKeyMay_any (K[k]'hkK.out) (HKM.out k hkK.out).2 w
        rw [(HKM.out k hkK.out).1] at this
        exact this
      generalize (K[k]'hkK.out) = x at *
      go_wp2_with fail
      refine (HMy.out _).mono ?_
      rintro e w2 ⟨rfl, hw2⟩
      rw [hw2]; clear hw2 w2
      go_wp2_with fail
      go_round
      case rel => exact ⟨k + 1, by omega, by go_num⟩
      case measure => simp [intOf]; omega
    · have he : k = m := by omega
      subst he
      obtain ⟨p0, p1, p2, p3, p4, p5, p6, -⟩ := at_cells7 A1.out
      go_wp2_with fail
      refine (fixed_any _).mono ?_
      rintro e w3 ⟨rfl, hk3⟩
      have HK3 := hid hk3
      obtain ⟨q0, q1, q2, q3, q4, q5, q6, -⟩ := at_cells7 (at_kept A1.out hk3)
      clear hk3 p0 p1 p2 p3 p4 p5 p6
      go_wp2_with fail
      go_ret
      exact ⟨rfl, kept_trans H1.out (kept_trans HK1.out HK3.out)⟩
set_option maxHeartbeats 1600000 in
set_option maxRecDepth 100000 in
theorem right_other (s : ByteArray) (hs : s.size ≤ 5000) (K : List ByteArray) (ck fl ex : Int) (qu : Bool) (hc : 1 ≤ ck ∧ ck ≤ 7 ∧ ck ≠ 2) (hp : parseC (words s) = (⟨ck, K, fl, ex, qu, ⟨#[]⟩⟩, -1)) (hm : ∀ k (h : k < K.length), keyMay K[k] = true) (h16 : K.length ≤ 16) (w : World) :
    Calls Try.prog 5 #[.string s] w fun e w' => e = .returned (.bool true) ∧ Kept w w' := by
  have hz := zero26
  have HP : Hid (∀ w, _) := fun w => Parse_any s (by omega) w
  rw [hp] at HP
  have h5 : ¬ (5000 : Int) < (s.size : Int) := by omega
  obtain ⟨m, hmK⟩ : ∃ m, m = K.length := ⟨_, rfl⟩
  have HL : Hid (K.length = m) := hmK.symm
  have H16 : Hid (m ≤ 16) := by show m ≤ 16; rw [hmK]; exact h16
  have HKM : Hid (∀ k (h : k < K.length), keyMay K[k] = true ∧ K[k].size ≤ maxLen) := fun k h => ⟨hm k h, may_small _ (hm k h)⟩
  have k1 : ¬ ck < 1 := by omega
  have k2 : ¬ 8 < ck := by omega
  have k3 : (ck == 2) = false := by simp; omega
  have k4 : (ck != 2) = true := by simp; omega
  have k5 : (ck != 8) = true := by simp; omega
  have k6 : (ck == 8) = false := by simp; omega
  clear hc
  clear hp hs hm h16 hmK
  go_enter Try.func5, Try.ntmps5
  go_wp2_with fail
  refine (HP.out _).mono ?_
  rintro e w1 ⟨kv, rfl, hks, hk1⟩
  simp only at hks ⊢
  obtain ⟨a, cap, rfl, hcell⟩ := keys_open hks
  have HKS := hid hks
  have HC : Hid (∀ u, Kept w1 u → ∀ i (h : i < K.length), ∃ A, a = some ⟨A, 0, none⟩ ∧ u.cell? ⟨A, i, none⟩ = some (.string K[i])) := fun u hu i h => by
    obtain ⟨A, e, hA, hx⟩ := hcell i h
    exact ⟨A, e, (kept_cell hu hA).trans hx⟩
  rw [HL.out] at HKS ⊢
  have H1 := hid hk1
  have A1 := hid (at_new w1 #[.int .i64 ck, .slice a m cap, .int .u32 fl, .int .i64 ex, .string ⟨#[]⟩, .bool qu, .string ⟨#[]⟩] 26)
  have HK1 := hid (kept_alloc (kept_refl w1) (.cells #[.int .i64 ck, .slice a m cap, .int .u32 fl, .int .i64 ex, .string ⟨#[]⟩, .bool qu, .string ⟨#[]⟩] 26))
  clear hks hcell hk1
  go_wp2_with fail
  generalize w1.alloc (.cells #[.int .i64 ck, .slice a m cap, .int .u32 fl, .int .i64 ex, .string ⟨#[]⟩, .bool qu, .string ⟨#[]⟩] 26) = v1 at *
  generalize w1.heap.size = X1 at *
  go_loop [6, 19] (fun i j => ∃ k : Nat, k ≤ m ∧ j = .int .i64 k) (fun _ j => m - (intOf j).toNat)
  case atStart => exact ⟨0, Nat.zero_le _, rfl⟩
  case round =>
    obtain ⟨k, hk, rfl⟩ := hrel
    by_cases hlt : k < m
    · have hk16 : k < 16 := by have := H16.out; omega
      have hkK : Hid (k < K.length) := by show k < _; rw [HL.out]; exact hlt
      obtain ⟨A, rfl, hx⟩ := HC.out _ HK1.out k hkK.out
      have HMy : Hid (∀ w, Calls Try.prog 12 #[.string (K[k]'hkK.out)] w fun e w' => e = .returned (.bool true) ∧ w' = w) := fun w => by
        have := refKeyMay_any (K[k]'hkK.out) (HKM.out k hkK.out).2 w
        rw [(HKM.out k hkK.out).1] at this
        exact this
      generalize (K[k]'hkK.out) = x at *
      go_wp2_with fail
      refine (HMy.out _).mono ?_
      rintro e w2 ⟨rfl, hw2⟩
      rw [hw2]; clear hw2 w2
      go_wp2_with fail
      go_round
      case rel => exact ⟨k + 1, by omega, by go_num⟩
      case measure => simp [intOf]; omega
    · have he : k = m := by omega
      subst he
      obtain ⟨p0, p1, p2, p3, p4, p5, p6, -⟩ := at_cells7 A1.out
      go_wp2_with fail
      refine (fixed_any _).mono ?_
      rintro e w3 ⟨rfl, hk3⟩
      have HK3 := hid hk3
      obtain ⟨q0, q1, q2, q3, q4, q5, q6, -⟩ := at_cells7 (at_kept A1.out hk3)
      clear hk3 p0 p1 p2 p3 p4 p5 p6
      go_wp2_with fail
      go_ret
      exact ⟨rfl, kept_trans H1.out (kept_trans HK1.out HK3.out)⟩
end Go.Proofs.Ytcbmjbldhbgipaa
