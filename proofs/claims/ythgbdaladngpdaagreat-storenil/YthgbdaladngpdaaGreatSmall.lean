/- The contracts of the functions on one record: which keys and records may be, which are live. Each answers what the plain function does and turns nothing that was there. -/
import Derived.Test.YthgbdaladngpdaaGreatStWalks
import Derived.Test.YthgbdaladngpdaaGreatRec
namespace Go.Proofs.YthgbdaladngpdaaGreat
open Go.ChangeShapes Go.WideShapes Go.ChangeAt Go.RowKit
set_option linter.unusedVariables false
set_option maxRecDepth 100000
set_option linter.unusedSimpArgs false

theorem key_bad (s : ByteArray) (k : Nat) (hk : k < s.size) (h : good s[k] = false) : keyMay s = false := by
  have hl : k < s.data.toList.length := by simpa using hk
  have : s.data.toList.all good = false := by
    rw [List.all_eq_false]
    exact ⟨s.data.toList[k], List.getElem_mem hl, by
      have : s.data.toList[k] = s[k] := rfl
      rw [this, h]; simp⟩
  unfold keyMay
  rw [this, Bool.and_false]
theorem key_short (s : ByteArray) (h : s.size < 1) : keyMay s = false := by
  unfold keyMay
  rw [show decide (1 ≤ s.size) = false from decide_eq_false (by omega)]; simp
theorem key_long (s : ByteArray) (h : 250 < s.size) : keyMay s = false := by
  unfold keyMay
  rw [show decide (s.size ≤ 250) = false from decide_eq_false (by omega)]; simp
theorem key_good (s : ByteArray) (h1 : 1 ≤ s.size) (h2 : s.size ≤ 250) (h : ∀ k (hk : k < s.size), good s[k] = true) : keyMay s = true := by
  have : s.data.toList.all good = true := by
    rw [List.all_eq_true]
    intro c hc
    obtain ⟨k, hk, rfl⟩ := List.getElem_of_mem hc
    exact h k (by simpa using hk)
  unfold keyMay
  rw [this]; simp [h1, h2]
theorem good_low (c : UInt8) (h : (c.toNat : Int) ≤ 32) : good c = false := by
  unfold good; simp; omega
theorem good_del (c : UInt8) (h : (c.toNat : Int) = 127) : good c = false := by
  unfold good; simp; omega
theorem good_not (c : UInt8) (h : ¬ (c.toNat : Int) ≤ 32) (k : ¬ (c.toNat : Int) = 127) : good c = true := by
  unfold good; simp; omega
set_option maxHeartbeats 1600000 in
theorem KeyMay_any (s : ByteArray) (hs : s.size ≤ maxLen) (w : World) :
    Calls Tryz.prog 65 #[.string s] w fun e w' => e = .returned (.bool (keyMay s)) ∧ w' = w := by
  unfold maxLen at hs
  by_cases h1 : (s.size : Int) < 1
  · have HE : Hid (false = keyMay s) := (key_short s (by omega)).symm
    go_enter Tryz.func65, Tryz.ntmps65
    go_wp2
    go_ret
    exact ⟨ret_bool HE.out, rfl⟩
  by_cases h2 : (250 : Int) < (s.size : Int)
  · have HE : Hid (false = keyMay s) := (key_long s (by omega)).symm
    go_enter Tryz.func65, Tryz.ntmps65
    go_wp2
    go_ret
    exact ⟨ret_bool HE.out, rfl⟩
  have H1 : Hid (1 ≤ s.size ∧ s.size ≤ 250) := ⟨by omega, by omega⟩
  have d1 : decide ((s.size : Int) < 1) = false := by simpa using h1
  have d2 : decide ((250 : Int) < (s.size : Int)) = false := by simpa using h2
  clear h1 h2
  go_enter Tryz.func65, Tryz.ntmps65
  go_wp2
  go_loop [3, 14] (fun i j => ∃ k : Nat, k ≤ s.size ∧ j = .int .i64 k ∧ Hid (∀ q (hq : q < s.size), q < k → good s[q] = true)) (fun _ j => s.size - (intOf j).toNat)
  case atStart => exact ⟨0, Nat.zero_le _, rfl, fun q _ hq => absurd hq (by omega)⟩
  case round =>
    obtain ⟨k, hk, rfl, HG⟩ := hrel
    by_cases hlt : k < s.size
    · by_cases c1 : (s[k].toNat : Int) ≤ 32
      · have HE : Hid (false = keyMay s) := (key_bad s k hlt (good_low _ c1)).symm
        go_wp2
        go_ret
        exact ⟨ret_bool HE.out, rfl⟩
      · by_cases c2 : (s[k].toNat : Int) = 127
        · have HE : Hid (false = keyMay s) := (key_bad s k hlt (good_del _ c2)).symm
          go_wp2
          go_ret
          exact ⟨ret_bool HE.out, rfl⟩
        · have HN : Hid (∀ q (hq : q < s.size), q < k + 1 → good s[q] = true) := fun q hq hl => by
            rcases (show q < k ∨ q = k by omega) with h | rfl
            · exact HG.out q hq h
            · exact good_not _ c1 c2
          go_wp2
          go_round
          case rel => exact ⟨k + 1, by omega, by go_num, HN⟩
          case measure => simp [intOf]; omega
    · have HE : Hid (true = keyMay s) := (key_good s H1.out.1 H1.out.2 (fun q hq => HG.out q hq (by omega))).symm
      go_wp2
      go_ret
      exact ⟨ret_bool HE.out, rfl⟩
set_option maxHeartbeats 1600000 in
theorem refKeyMay_any (s : ByteArray) (hs : s.size ≤ maxLen) (w : World) :
    Calls Tryz.prog 81 #[.string s] w fun e w' => e = .returned (.bool (keyMay s)) ∧ w' = w := by
  unfold maxLen at hs
  by_cases h1 : (s.size : Int) = 0
  · have HE : Hid (false = keyMay s) := (key_short s (by omega)).symm
    go_enter Tryz.func81, Tryz.ntmps81
    go_wp2
    go_ret
    exact ⟨ret_bool HE.out, rfl⟩
  have d1 : ((s.size : Int) == 0) = false := by simpa using h1
  by_cases h2 : (250 : Int) < (s.size : Int)
  · have HE : Hid (false = keyMay s) := (key_long s (by omega)).symm
    clear h1
    go_enter Tryz.func81, Tryz.ntmps81
    go_wp2
    go_ret
    exact ⟨ret_bool HE.out, rfl⟩
  have H1 : Hid (1 ≤ s.size ∧ s.size ≤ 250) := ⟨by omega, by omega⟩
  have d2 : decide ((250 : Int) < (s.size : Int)) = false := by simpa using h2
  clear h1 h2
  go_enter Tryz.func81, Tryz.ntmps81
  go_wp2
  go_loop [3] (fun j => ∃ k : Nat, k ≤ s.size ∧ j = .int .i64 k ∧ Hid (∀ q (hq : q < s.size), q < k → good s[q] = true)) (fun j => s.size - (intOf j).toNat)
  case atStart => exact ⟨0, Nat.zero_le _, rfl, fun q _ hq => absurd hq (by omega)⟩
  case round =>
    obtain ⟨k, hk, rfl, HG⟩ := hrel
    by_cases hlt : k < s.size
    · by_cases c1 : (s[k].toNat : Int) < 33
      · have HE : Hid (false = keyMay s) := (key_bad s k hlt (good_low _ (by omega))).symm
        go_wp2
        go_ret
        exact ⟨ret_bool HE.out, rfl⟩
      · by_cases c2 : (s[k].toNat : Int) = 127
        · have HE : Hid (false = keyMay s) := (key_bad s k hlt (good_del _ c2)).symm
          go_wp2
          go_ret
          exact ⟨ret_bool HE.out, rfl⟩
        · have HN : Hid (∀ q (hq : q < s.size), q < k + 1 → good s[q] = true) := fun q hq hl => by
            rcases (show q < k ∨ q = k by omega) with h | rfl
            · exact HG.out q hq h
            · exact good_not _ (by omega) c2
          go_wp2
          go_round
          case rel => exact ⟨k + 1, by omega, by go_num, HN⟩
          case measure => simp [intOf]; omega
    · have HE : Hid (true = keyMay s) := (key_good s H1.out.1 H1.out.2 (fun q hq => HG.out q hq (by omega))).symm
      go_wp2
      go_ret
      exact ⟨ret_bool HE.out, rfl⟩
theorem stampMay_any (s : Stp) (w : World) :
    Calls Tryz.prog 66 #[.agg #[.int .u64 s.p, .int .u32 s.l, .int .u8 s.n]] w fun e w' => e = .returned (.bool (stampMay s)) ∧ Kept w w' := by
  have HK : Hid (Kept w (w.alloc (.cells #[.int .u64 s.p, .int .u32 s.l, .int .u8 s.n] 33))) := kept_alloc (kept_refl w) _
  by_cases h1 : s.p ≤ 281474976710655
  · have HE : Hid (decide (s.n < 64) = stampMay s) := by show _ = _; unfold stampMay; simp [h1]
    go_enter Tryz.func66, Tryz.ntmps66
    go_wp2
    go_ret
    exact ⟨ret_bool HE.out, HK.out⟩
  · have HE : Hid (false = stampMay s) := by show _ = _; unfold stampMay; simp [h1]
    go_enter Tryz.func66, Tryz.ntmps66
    go_wp2
    go_ret
    exact ⟨ret_bool HE.out, HK.out⟩
end Go.Proofs.YthgbdaladngpdaaGreat
