/- Contract of the reference's Get: the same number, place and error as the program's. It turns nothing that was there. The text has at most 2^47 bytes. Contract of the reference's GetText, and of the chapter's examples. They turn nothing that was there. The text has at most 2^47 bytes. -/
import Derived.Test.YtioeidhblbfgmaaGreatY2
import Derived.Test.YtioeidhblbfgmaaGreatY25
import Derived.Test.YtioeidhblbfgmaaGreatY3

namespace Go.Proofs.YtioeidhblbfgmaaGreat
open Go.ChangeShapes Go.WideShapes Go.ChangeAt Go.RowKit
set_option linter.unusedVariables false
set_option maxRecDepth 100000

theorem mod_step (V m b : Nat) (hm : 0 < m) (hb : b < 256) : (V * 256 + b) % (m * 256) = V % m * 256 + b := by
  have h := Nat.div_add_mod V m
  have hr := Nat.mod_lt V hm
  have e : V * 256 + b = m * 256 * (V / m) + (V % m * 256 + b) := by
    have : V * 256 = (m * (V / m) + V % m) * 256 := by rw [h]
    rw [this, Nat.add_mul, Nat.mul_right_comm]
    omega
  rw [e, Nat.mul_add_mod]
  exact Nat.mod_eq_of_lt (by omega)
/- What the first i bytes at a say, but for the kind. -/
def part (s : ByteArray) (a i : Nat) : Nat := val (s.extract a (a + i)).data.toList % (64 * 256 ^ (i - 1))
theorem extract_snoc (s : ByteArray) (a i : Nat) (h : a + i < s.size) : (s.extract a (a + (i + 1))).data.toList = (s.extract a (a + i)).data.toList ++ [s[a + i]] := by
  rw [extract_list, extract_list, Nat.add_sub_cancel_left, Nat.add_sub_cancel_left]
  have hl : i < (s.data.toList.drop a).length := by rw [List.length_drop]; simp; omega
  rw [List.take_succ_eq_append_getElem hl, List.getElem_drop]
  rfl
theorem part_one (s : ByteArray) (a : Nat) (h : a < s.size) : part s a 1 = s[a].toNat % 64 := by
  unfold part
  rw [extract_snoc s a 0 (by omega), val_snoc]
  have : (s.extract a (a + 0)).data.toList = [] := by rw [extract_list, Nat.add_sub_cancel_left]; rfl
  rw [this]
  simp [val]
theorem part_step (s : ByteArray) (a i : Nat) (hi : 1 ≤ i) (h : a + i < s.size) : part s a (i + 1) = part s a i * 256 + s[a + i].toNat := by
  unfold part
  rw [extract_snoc s a i h, val_snoc]
  have e : 64 * 256 ^ (i + 1 - 1) = 64 * 256 ^ (i - 1) * 256 := by
    rw [show i + 1 - 1 = (i - 1) + 1 by omega, Nat.pow_succ, Nat.mul_assoc]
  rw [e, mod_step _ _ _ (Nat.mul_pos (by omega) (Nat.pow_pos (by omega))) (s[a + i].toNat_lt)]
theorem part_lt (s : ByteArray) (a i : Nat) (hi : 1 ≤ i) (h8 : i ≤ 8) : part s a i < 4611686018427387904 := by
  unfold part
  have h1 := Nat.mod_lt (val (s.extract a (a + i)).data.toList) (show 0 < 64 * 256 ^ (i - 1) from Nat.mul_pos (by omega) (Nat.pow_pos (by omega)))
  have h2 : 256 ^ (i - 1) ≤ 256 ^ 7 := Nat.pow_le_pow_right (by omega) (by omega)
  rw [show (256 : Nat) ^ 7 = 72057594037927936 by rfl] at h2
  omega
theorem part_all (s : ByteArray) (a k : Nat) (hk : k ≤ 3) : val (s.extract a (a + wide k)).data.toList % lim k = part s a (wide k) := by
  unfold part
  have h := wide_lim k hk
  have hw := wide_pos k
  obtain ⟨v, hv⟩ : ∃ v, wide k = v + 1 := ⟨wide k - 1, by omega⟩
  rw [hv, Nat.pow_succ] at h
  rw [hv, show v + 1 - 1 = v by omega, show lim k = 64 * 256 ^ v by omega]
theorem wide_inj (j k : Nat) (hj : j ≤ 3) (hk : k ≤ 3) : (wide j = wide k) ↔ j = k := by
  rcases (show j = 0 ∨ j = 1 ∨ j = 2 ∨ j = 3 by omega) with rfl | rfl | rfl | rfl <;>
    rcases (show k = 0 ∨ k = 1 ∨ k = 2 ∨ k = 3 by omega) with rfl | rfl | rfl | rfl <;> simp [wide]
set_option maxHeartbeats 1600000 in
theorem refGet_out (s : ByteArray) (p : Int) (hs : s.size ≤ 140737488355328) (h : p < 0 ∨ (s.size : Int) < p) (w : World) : Calls Tryz.prog 75 #[.string s, .int .i64 p] w fun e w' => e = .returned (trip (getN s p)) ∧ Below w.heap.size w w' := by
  rw [getN_out s p h]
  rcases (show p < 0 ∨ (¬ p < 0 ∧ (s.size : Int) < p) by omega) with h1 | ⟨h1, h2⟩
  all_goals
    go_enter Tryz.func75, Tryz.ntmps75
    go_wp2
    go_ret3
    exact ⟨rfl, Below.refl _ _⟩
set_option maxHeartbeats 1600000 in
theorem refGet_end (s : ByteArray) (hs : s.size ≤ 140737488355328) (w : World) : Calls Tryz.prog 75 #[.string s, .int .i64 (s.size : Int)] w fun e w' => e = .returned (trip (0, 0, 2)) ∧ Below w.heap.size w w' := by
  go_enter Tryz.func75, Tryz.ntmps75
  go_wp2
  go_ret3
  exact ⟨rfl, Below.refl _ _⟩
set_option maxRecDepth 100000 in
set_option maxHeartbeats 3200000 in
theorem refGet_at (s : ByteArray) (a : Nat) (ha : a < s.size) (hs : s.size ≤ 140737488355328) (w : World) : Calls Tryz.prog 75 #[.string s, .int .i64 (a : Int)] w fun e w' => e = .returned (trip (getN s a)) ∧ Below w.heap.size w w' := by
  have hk : s[a].toNat / 64 ≤ 3 := by have := s[a].toNat_lt; omega
  have hai : (a : Int) < (s.size : Int) := by omega
  have hgt : Hid (getN s a = _) := getN_at s a ha
  obtain ⟨k, hkd⟩ : ∃ k, k = s[a].toNat / 64 := ⟨_, rfl⟩
  rw [← hkd] at hk hgt
  have hki : (s[a].toNat : Int) / 64 = (k : Int) := by omega
  clear hkd
  have hP1 : Hid (part s a 1 = s[a].toNat % 64) := part_one s a ha
  have hPa : Hid (val (s.extract a (a + wide k)).data.toList % lim k = part s a (wide k)) := part_all s a k hk
  by_cases h1 : s.size - a < wide k
  · have h1i : (s.size : Int) - (a : Int) < (wide k : Int) := by omega
    have hgt2 := hgt.out
    rw [if_pos h1] at hgt2
    rw [hgt2]
    clear hgt hgt2 hP1 hPa h1
    rcases (show k = 0 ∨ k = 1 ∨ k = 2 ∨ k = 3 by omega) with rfl | rfl | rfl | rfl <;> simp only [wide] at h1i <;> simp at h1i
    · exfalso; omega
    all_goals
      go_enter Tryz.func75, Tryz.ntmps75
      go_wp2
      go_ret3
      exact ⟨rfl, Below.refl _ _⟩
  · have hgt2 := hgt.out
    rw [if_neg h1, hPa.out] at hgt2
    generalize getN s (a : Int) = g at *
    have h1i : (wide k : Int) ≤ (s.size : Int) - (a : Int) := by omega
    have HKW : Hid (∀ n, (wide (kindOf n) = wide k) ↔ kindOf n = k) := fun n => wide_inj _ _ (kind_le n) hk
    have hW1 : Hid (1 ≤ wide k ∧ wide k ≤ 8) := wide_pos k
    have HG : Hid (g = if kindOf (part s a (wide k)) = k then (part s a (wide k), a + wide k, 0) else (0, 0, 3)) := hgt2
    clear hgt hgt2 hPa h1
    rcases (show k = 0 ∨ k = 1 ∨ k = 2 ∨ k = 3 by omega) with rfl | rfl | rfl | rfl
    · obtain ⟨W, hW⟩ : ∃ W, W = wide 0 := ⟨_, rfl⟩
      have HW : Hid (W = 1) := hW
      rw [← hW] at h1i HKW hW1 HG
      clear hW
      have h2i : (1 : Int) ≤ (s.size : Int) - (a : Int) := by have := HW.out; omega
      have hd1 : decide ((a : Int) < 0) = false := by simp
      have hd2 : decide (s.size < a) = false := by simp; omega
      have hd3 : ((a : Int) == (s.size : Int)) = false := by simp; omega
      have hd4 : decide ((s.size : Int) - (a : Int) < 1) = false := by simp; omega
      go_enter Tryz.func75, Tryz.ntmps75
      go_wp2
      clear h2i
      go_loop [8, 9] (fun x j => ∃ q : Nat, 1 ≤ q ∧ q ≤ W ∧ j = .int .i64 (q : Int) ∧ x = .int .u64 (part s a q : Int)) (fun _ j => W - (intOf j).toNat)
      case atStart => exact ⟨1, Nat.le_refl _, hW1.out.1, rfl, by rw [hP1.out]; go_num⟩
      case round =>
        obtain ⟨q, hq1, hq, rfl, rfl⟩ := hrel
        by_cases hlt : q < W
        · exfalso; have := HW.out; omega
        · obtain rfl : q = W := by omega
          have hqi : ¬ (q : Int) < 1 := by have := HW.out; omega
          have hqe : (q : Int) = 1 := by have := HW.out; omega
          have HPL : Hid (part s a q < 4611686018427387904) := part_lt s a q hq1 hW1.out.2
          generalize part s a q = x at *
          have hrp := refPut_small x HPL.out
          have HEl : Hid ((⟨(enc x).toArray⟩ : ByteArray).size = wide (kindOf x)) := enc_length x
          generalize (⟨(enc x).toArray⟩ : ByteArray) = E at *
          by_cases h2 : kindOf x = 0
          · have HG2 := HG.out
            rw [if_pos h2] at HG2
            subst HG2
            have h3 : (E.size : Int) = 1 := by have := (HKW.out x).2 h2; have := HEl.out; have := HW.out; omega
            clear h2 hqe
            go_wp2_with (go_at_call 94; refine (hrp _).mono ?_; rintro e w1 ⟨rfl, hb1⟩)
            go_ret3
            have := HW.out
            subst this
            exact ⟨rfl, hb1⟩
          · have HG2 := HG.out
            rw [if_neg h2] at HG2
            subst HG2
            have h3 : ¬ (E.size : Int) = 1 := fun h => h2 ((HKW.out x).1 (by have := HEl.out; have := HW.out; omega))
            clear h2 hqe
            go_wp2_with (go_at_call 94; refine (hrp _).mono ?_; rintro e w1 ⟨rfl, hb1⟩)
            go_ret3
            exact ⟨rfl, hb1⟩
    · obtain ⟨W, hW⟩ : ∃ W, W = wide 1 := ⟨_, rfl⟩
      have HW : Hid (W = 2) := hW
      rw [← hW] at h1i HKW hW1 HG
      clear hW
      have h2i : (2 : Int) ≤ (s.size : Int) - (a : Int) := by have := HW.out; omega
      have hd1 : decide ((a : Int) < 0) = false := by simp
      have hd2 : decide (s.size < a) = false := by simp; omega
      have hd3 : ((a : Int) == (s.size : Int)) = false := by simp; omega
      have hd4 : decide ((s.size : Int) - (a : Int) < 2) = false := by simp; omega
      go_enter Tryz.func75, Tryz.ntmps75
      go_wp2
      clear h2i
      go_loop [8, 9] (fun x j => ∃ q : Nat, 1 ≤ q ∧ q ≤ W ∧ j = .int .i64 (q : Int) ∧ x = .int .u64 (part s a q : Int)) (fun _ j => W - (intOf j).toNat)
      case atStart => exact ⟨1, Nat.le_refl _, hW1.out.1, rfl, by rw [hP1.out]; go_num⟩
      case round =>
        obtain ⟨q, hq1, hq, rfl, rfl⟩ := hrel
        by_cases hlt : q < W
        · have hqi : (q : Int) < 2 := by have := HW.out; omega
          have hsi : (a : Int) + (q : Int) < (s.size : Int) := by omega
          have hsn : a + q < s.size := by omega
          have HS : Hid (part s a (q + 1) = part s a q * 256 + s[a + q].toNat) := part_step s a q hq1 hsn
          have hpl : part s a q < 72057594037927936 := by
            have h1 := part_lt s a (q + 1) (by omega) (by have := hW1.out; omega)
            have h2 := HS.out
            omega
          have hc8 : (s[a + q].toNat : Int) < 256 := by have := s[a + q].toNat_lt; omega
          generalize part s a q = x at *
          go_wp2
          go_round
          case rel => exact ⟨q + 1, by omega, by omega, by go_num, by rw [HS.out]; go_num⟩
          case measure => simp [intOf]; omega
        · obtain rfl : q = W := by omega
          have hqi : ¬ (q : Int) < 2 := by have := HW.out; omega
          have hqe : (q : Int) = 2 := by have := HW.out; omega
          have HPL : Hid (part s a q < 4611686018427387904) := part_lt s a q hq1 hW1.out.2
          generalize part s a q = x at *
          have hrp := refPut_small x HPL.out
          have HEl : Hid ((⟨(enc x).toArray⟩ : ByteArray).size = wide (kindOf x)) := enc_length x
          generalize (⟨(enc x).toArray⟩ : ByteArray) = E at *
          by_cases h2 : kindOf x = 1
          · have HG2 := HG.out
            rw [if_pos h2] at HG2
            subst HG2
            have h3 : (E.size : Int) = 2 := by have := (HKW.out x).2 h2; have := HEl.out; have := HW.out; omega
            clear h2 hqe
            go_wp2_with (go_at_call 94; refine (hrp _).mono ?_; rintro e w1 ⟨rfl, hb1⟩)
            go_ret3
            have := HW.out
            subst this
            exact ⟨rfl, hb1⟩
          · have HG2 := HG.out
            rw [if_neg h2] at HG2
            subst HG2
            have h3 : ¬ (E.size : Int) = 2 := fun h => h2 ((HKW.out x).1 (by have := HEl.out; have := HW.out; omega))
            clear h2 hqe
            go_wp2_with (go_at_call 94; refine (hrp _).mono ?_; rintro e w1 ⟨rfl, hb1⟩)
            go_ret3
            exact ⟨rfl, hb1⟩
    · obtain ⟨W, hW⟩ : ∃ W, W = wide 2 := ⟨_, rfl⟩
      have HW : Hid (W = 4) := hW
      rw [← hW] at h1i HKW hW1 HG
      clear hW
      have h2i : (4 : Int) ≤ (s.size : Int) - (a : Int) := by have := HW.out; omega
      have hd1 : decide ((a : Int) < 0) = false := by simp
      have hd2 : decide (s.size < a) = false := by simp; omega
      have hd3 : ((a : Int) == (s.size : Int)) = false := by simp; omega
      have hd4 : decide ((s.size : Int) - (a : Int) < 4) = false := by simp; omega
      go_enter Tryz.func75, Tryz.ntmps75
      go_wp2
      clear h2i
      go_loop [8, 9] (fun x j => ∃ q : Nat, 1 ≤ q ∧ q ≤ W ∧ j = .int .i64 (q : Int) ∧ x = .int .u64 (part s a q : Int)) (fun _ j => W - (intOf j).toNat)
      case atStart => exact ⟨1, Nat.le_refl _, hW1.out.1, rfl, by rw [hP1.out]; go_num⟩
      case round =>
        obtain ⟨q, hq1, hq, rfl, rfl⟩ := hrel
        by_cases hlt : q < W
        · have hqi : (q : Int) < 4 := by have := HW.out; omega
          have hsi : (a : Int) + (q : Int) < (s.size : Int) := by omega
          have hsn : a + q < s.size := by omega
          have HS : Hid (part s a (q + 1) = part s a q * 256 + s[a + q].toNat) := part_step s a q hq1 hsn
          have hpl : part s a q < 72057594037927936 := by
            have h1 := part_lt s a (q + 1) (by omega) (by have := hW1.out; omega)
            have h2 := HS.out
            omega
          have hc8 : (s[a + q].toNat : Int) < 256 := by have := s[a + q].toNat_lt; omega
          generalize part s a q = x at *
          go_wp2
          go_round
          case rel => exact ⟨q + 1, by omega, by omega, by go_num, by rw [HS.out]; go_num⟩
          case measure => simp [intOf]; omega
        · obtain rfl : q = W := by omega
          have hqi : ¬ (q : Int) < 4 := by have := HW.out; omega
          have hqe : (q : Int) = 4 := by have := HW.out; omega
          have HPL : Hid (part s a q < 4611686018427387904) := part_lt s a q hq1 hW1.out.2
          generalize part s a q = x at *
          have hrp := refPut_small x HPL.out
          have HEl : Hid ((⟨(enc x).toArray⟩ : ByteArray).size = wide (kindOf x)) := enc_length x
          generalize (⟨(enc x).toArray⟩ : ByteArray) = E at *
          by_cases h2 : kindOf x = 2
          · have HG2 := HG.out
            rw [if_pos h2] at HG2
            subst HG2
            have h3 : (E.size : Int) = 4 := by have := (HKW.out x).2 h2; have := HEl.out; have := HW.out; omega
            clear h2 hqe
            go_wp2_with (go_at_call 94; refine (hrp _).mono ?_; rintro e w1 ⟨rfl, hb1⟩)
            go_ret3
            have := HW.out
            subst this
            exact ⟨rfl, hb1⟩
          · have HG2 := HG.out
            rw [if_neg h2] at HG2
            subst HG2
            have h3 : ¬ (E.size : Int) = 4 := fun h => h2 ((HKW.out x).1 (by have := HEl.out; have := HW.out; omega))
            clear h2 hqe
            go_wp2_with (go_at_call 94; refine (hrp _).mono ?_; rintro e w1 ⟨rfl, hb1⟩)
            go_ret3
            exact ⟨rfl, hb1⟩
    · obtain ⟨W, hW⟩ : ∃ W, W = wide 3 := ⟨_, rfl⟩
      have HW : Hid (W = 8) := hW
      rw [← hW] at h1i HKW hW1 HG
      clear hW
      have h2i : (8 : Int) ≤ (s.size : Int) - (a : Int) := by have := HW.out; omega
      have hd1 : decide ((a : Int) < 0) = false := by simp
      have hd2 : decide (s.size < a) = false := by simp; omega
      have hd3 : ((a : Int) == (s.size : Int)) = false := by simp; omega
      have hd4 : decide ((s.size : Int) - (a : Int) < 8) = false := by simp; omega
      go_enter Tryz.func75, Tryz.ntmps75
      go_wp2
      clear h2i
      go_loop [8, 9] (fun x j => ∃ q : Nat, 1 ≤ q ∧ q ≤ W ∧ j = .int .i64 (q : Int) ∧ x = .int .u64 (part s a q : Int)) (fun _ j => W - (intOf j).toNat)
      case atStart => exact ⟨1, Nat.le_refl _, hW1.out.1, rfl, by rw [hP1.out]; go_num⟩
      case round =>
        obtain ⟨q, hq1, hq, rfl, rfl⟩ := hrel
        by_cases hlt : q < W
        · have hqi : (q : Int) < 8 := by have := HW.out; omega
          have hsi : (a : Int) + (q : Int) < (s.size : Int) := by omega
          have hsn : a + q < s.size := by omega
          have HS : Hid (part s a (q + 1) = part s a q * 256 + s[a + q].toNat) := part_step s a q hq1 hsn
          have hpl : part s a q < 72057594037927936 := by
            have h1 := part_lt s a (q + 1) (by omega) (by have := hW1.out; omega)
            have h2 := HS.out
            omega
          have hc8 : (s[a + q].toNat : Int) < 256 := by have := s[a + q].toNat_lt; omega
          generalize part s a q = x at *
          go_wp2
          go_round
          case rel => exact ⟨q + 1, by omega, by omega, by go_num, by rw [HS.out]; go_num⟩
          case measure => simp [intOf]; omega
        · obtain rfl : q = W := by omega
          have hqi : ¬ (q : Int) < 8 := by have := HW.out; omega
          have hqe : (q : Int) = 8 := by have := HW.out; omega
          have HPL : Hid (part s a q < 4611686018427387904) := part_lt s a q hq1 hW1.out.2
          generalize part s a q = x at *
          have hrp := refPut_small x HPL.out
          have HEl : Hid ((⟨(enc x).toArray⟩ : ByteArray).size = wide (kindOf x)) := enc_length x
          generalize (⟨(enc x).toArray⟩ : ByteArray) = E at *
          by_cases h2 : kindOf x = 3
          · have HG2 := HG.out
            rw [if_pos h2] at HG2
            subst HG2
            have h3 : (E.size : Int) = 8 := by have := (HKW.out x).2 h2; have := HEl.out; have := HW.out; omega
            clear h2 hqe
            go_wp2_with (go_at_call 94; refine (hrp _).mono ?_; rintro e w1 ⟨rfl, hb1⟩)
            go_ret3
            have := HW.out
            subst this
            exact ⟨rfl, hb1⟩
          · have HG2 := HG.out
            rw [if_neg h2] at HG2
            subst HG2
            have h3 : ¬ (E.size : Int) = 8 := fun h => h2 ((HKW.out x).1 (by have := HEl.out; have := HW.out; omega))
            clear h2 hqe
            go_wp2_with (go_at_call 94; refine (hrp _).mono ?_; rintro e w1 ⟨rfl, hb1⟩)
            go_ret3
            exact ⟨rfl, hb1⟩

theorem refGet_any (s : ByteArray) (p : Int) (hs : s.size ≤ 140737488355328) (w : World) : Calls Tryz.prog 75 #[.string s, .int .i64 p] w fun e w' => e = .returned (trip (getN s p)) ∧ Below w.heap.size w w' := by
  by_cases h : p < 0 ∨ (s.size : Int) < p
  · exact refGet_out s p hs h w
  · obtain ⟨a, rfl⟩ : ∃ a : Nat, p = a := ⟨p.toNat, by omega⟩
    by_cases h2 : a = s.size
    · subst h2
      rw [getN_end]
      exact refGet_end s hs w
    · exact refGet_at s a (by omega) hs w
end Go.Proofs.YtioeidhblbfgmaaGreat


namespace Go.Proofs.YtioeidhblbfgmaaGreat
open Go.ChangeShapes Go.WideShapes Go.ChangeAt Go.RowKit
set_option linter.unusedVariables false
set_option maxRecDepth 100000

set_option maxHeartbeats 1600000 in
set_option maxRecDepth 100000 in
theorem refGetText_any (s : ByteArray) (p most : Int) (hs : s.size ≤ 140737488355328) (hm : -9223372036854775808 ≤ most ∧ most ≤ 9223372036854775807) (w : World) : Calls Tryz.prog 76 #[.string s, .int .i64 p, .int .i64 most] w fun e w' => e = .returned (tripT (getT s p most)) ∧ Below w.heap.size w w' := by
  have hG := refGet_any s p hs
  obtain ⟨r, hr⟩ : ∃ r, r = getT s p most := ⟨_, rfl⟩
  rw [← hr]
  unfold getT at hr
  have HO : Hid (∀ n t, getN s p = (n, t, 0) → t ≤ s.size ∧ n < 4611686018427387904) := fun n t h => by
    obtain ⟨a, _, h2, _, h4, _⟩ := getN_ok s p n t h
    exact ⟨h4, h2⟩
  generalize getN s p = g at *
  obtain ⟨n, t, e⟩ := g
  simp only at hr
  unfold trip at hG
  by_cases he : e = 0
  · subst he
    rw [if_pos rfl] at hr
    obtain ⟨hts, hn⟩ := HO.out n t rfl
    clear HO
    have hti : (t : Int) ≤ (s.size : Int) := by omega
    by_cases h1 : most < 0
    · rw [if_pos (.inl h1)] at hr
      subst hr
      clear hn
      go_enter Tryz.func76, Tryz.ntmps76
      go_wp2_with (go_at_call 75; refine (hG _).mono ?_; rintro e w1 ⟨rfl, hb1⟩)
      go_ret3
      exact ⟨rfl, hb1⟩
    · have hmw : IntKind.u64.wrap most = most := by rw [IntKind.wrap_u64]; omega
      by_cases h2 : most < n
      · rw [if_pos (.inr h2)] at hr
        subst hr
        clear hn hm
        go_enter Tryz.func76, Tryz.ntmps76
        go_wp2_with (go_at_call 75; refine (hG _).mono ?_; rintro e w1 ⟨rfl, hb1⟩)
        go_ret3
        exact ⟨rfl, hb1⟩
      · rw [if_neg (by omega)] at hr
        have hsw : IntKind.u64.wrap ((s.size : Int) - (t : Int)) = (s.size : Int) - (t : Int) := by rw [IntKind.wrap_u64]; omega
        by_cases h3 : s.size - t < n
        · rw [if_pos h3] at hr
          subst hr
          have h3i : (s.size : Int) - (t : Int) < (n : Int) := by omega
          clear hn hm h3
          go_enter Tryz.func76, Tryz.ntmps76
          go_wp2_with (go_at_call 75; refine (hG _).mono ?_; rintro e w1 ⟨rfl, hb1⟩)
          go_ret3
          exact ⟨rfl, hb1⟩
        · rw [if_neg h3] at hr
          subst hr
          have hsl := slice_at s t n (by omega)
          generalize s.extract t (t + n) = T at *
          have h3i : ¬ (s.size : Int) - (t : Int) < (n : Int) := by omega
          have hnw : IntKind.i64.wrap (n : Int) = (n : Int) := by rw [IntKind.wrap_i64]; omega
          have htw : IntKind.i64.wrap ((t : Int) + (n : Int)) = (t : Int) + (n : Int) := by rw [IntKind.wrap_i64]; omega
          clear hn hm h3
          go_enter Tryz.func76, Tryz.ntmps76
          go_wp2_with (go_at_call 75; refine (hG _).mono ?_; rintro e w1 ⟨rfl, hb1⟩)
          go_ret3
          exact ⟨rfl, hb1⟩
  · rw [if_neg he] at hr
    subst hr
    have hei : ¬ (e : Int) = 0 := by omega
    clear HO he
    go_enter Tryz.func76, Tryz.ntmps76
    go_wp2_with (go_at_call 75; refine (hG _).mono ?_; rintro e w1 ⟨rfl, hb1⟩)
    go_ret3
    exact ⟨rfl, hb1⟩




end Go.Proofs.YtioeidhblbfgmaaGreat
