/- The contracts of the reference's Number, Amount and Time. The text has at most 2^47 bytes. They turn nothing. -/
import Derived.Test.YtjlojkcdglocbaaSame
namespace Go.Proofs.Ytjlojkcdglocbaa
open Go.ChangeShapes Go.WideShapes Go.ChangeAt Go.RowKit
set_option linter.unusedVariables false
set_option linter.unusedSimpArgs false

set_option maxHeartbeats 1600000 in
theorem refNumber_any (s : ByteArray) (hs : s.size ≤ 140737488355328) (w : World) :
    Calls Try.prog 30 #[.string s] w fun e w' => e = .returned (.int .i64 (dv (numL s.data.toList))) ∧ w' = w := by
  have HL : Hid (s.data.toList.length = s.size) := (Lib.size_eq s).symm
  by_cases h1 : (s.size : Int) = 0
  · have HE : Hid ((-1 : Int) = dv (numL s.data.toList)) := by
      have := numL_short s.data.toList (by rw [HL.out]; omega)
      show _ = _; rw [this]; rfl
    go_enter Try.func30, Try.ntmps30
    go_wp2
    go_ret
    exact ⟨ret_int HE.out, rfl⟩
  have d1 : ((s.size : Int) == 0) = false := by simpa using h1
  by_cases h2 : (10 : Int) < (s.size : Int)
  · have HE : Hid ((-1 : Int) = dv (numL s.data.toList)) := by
      have := numL_long s.data.toList (by rw [HL.out]; omega)
      show _ = _; rw [this]; rfl
    clear h1
    go_enter Try.func30, Try.ntmps30
    go_wp2
    go_ret
    exact ⟨ret_int HE.out, rfl⟩
  have H1 : Hid (1 ≤ s.size ∧ s.size ≤ 10) := ⟨by omega, by omega⟩
  have d2 : decide ((10 : Int) < (s.size : Int)) = false := by simpa using h2
  clear h1 h2
  go_enter Try.func30, Try.ntmps30
  go_wp2
  go_loop [3, 4] (fun n j => ∃ k : Nat, k ≤ s.size ∧ j = .int .i64 k ∧ n = .int .i64 (val (s.data.toList.take k) : Nat) ∧ Hid (∀ q (hq : q < s.data.toList.length), q < k → digit s.data.toList[q] = true)) (fun _ j => s.size - (intOf j).toNat)
  case atStart => exact ⟨0, Nat.zero_le _, rfl, by simp [val], fun q _ hq => absurd hq (by omega)⟩
  case round =>
    obtain ⟨k, hk, rfl, rfl, HG⟩ := hrel
    by_cases hlt : k < s.size
    · have hkl : Hid (k < s.data.toList.length) := by show k < _; rw [HL.out]; exact hlt
      by_cases c1 : (s[k].toNat : Int) < 48
      · have HE : Hid ((-1 : Int) = dv (numL s.data.toList)) := by
          have := numL_bad s.data.toList k hkl.out (digit_low _ c1)
          show _ = _; rw [this]; rfl
        go_wp2
        go_ret
        exact ⟨ret_int HE.out, rfl⟩
      · by_cases c2 : (57 : Int) < (s[k].toNat : Int)
        · have HE : Hid ((-1 : Int) = dv (numL s.data.toList)) := by
            have := numL_bad s.data.toList k hkl.out (digit_high _ c2)
            show _ = _; rw [this]; rfl
          go_wp2
          go_ret
          exact ⟨ret_int HE.out, rfl⟩
        · have hd := digit_is _ c1 c2
          have HN : Hid (∀ q (hq : q < s.data.toList.length), q < k + 1 → digit s.data.toList[q] = true) := fun q hq hl => by
            rcases (show q < k ∨ q = k by omega) with h | rfl
            · exact HG.out q hq h
            · exact hd
          have hv := val_small s.data.toList k (by rw [HL.out]; omega) (by have := H1.out; omega) HG.out
          have HS : Hid (val (s.data.toList.take (k + 1)) = val (s.data.toList.take k) * 10 + (s[k].toNat - 48)) := val_step _ k hkl.out
          clear hd
          generalize val (s.data.toList.take k) = v at *
          go_wp2
          go_round
          case rel => exact ⟨k + 1, by omega, by go_num, by rw [HS.out]; congr 1; omega, HN⟩
          case measure => simp [intOf]; omega
    · have HE : Hid ((val (s.data.toList.take k) : Int) = dv (numL s.data.toList)) := by
        have he : k = s.data.toList.length := by rw [HL.out]; omega
        have := numL_good s.data.toList (by rw [HL.out]; exact H1.out.1) (by rw [HL.out]; exact H1.out.2) (fun q hq => HG.out q hq (by omega))
        show _ = _; rw [this, he, List.take_length]; rfl
      go_wp2
      go_ret
      exact ⟨ret_int HE.out, rfl⟩
theorem refAmount_any (s : ByteArray) (hs : s.size ≤ 140737488355328) (w : World) :
    Calls Try.prog 31 #[.string s] w fun e w' => e = .returned (.int .i64 (dv (amt s))) ∧ w' = w := by
  have hN := refNumber_any s hs
  by_cases h : (4294967295 : Int) < dv (numL s.data.toList)
  · have HE : Hid ((-1 : Int) = dv (amt s)) := by
      show _ = _
      unfold amt
      cases hn : numL s.data.toList with
      | none => rfl
      | some n => rw [hn] at h; unfold dv at h; simp only at h; simp only; rw [if_neg (by omega)]; rfl
    generalize dv (numL s.data.toList) = x at *
    go_enter Try.func31, Try.ntmps31
    go_wp2_with (go_at_call 30; refine (hN _).mono ?_; rintro e w ⟨rfl, rfl⟩)
    go_ret
    exact ⟨ret_int HE.out, rfl⟩
  · have HE : Hid (dv (numL s.data.toList) = dv (amt s)) := by
      show _ = _
      unfold amt
      cases hn : numL s.data.toList with
      | none => rfl
      | some n => rw [hn] at h; unfold dv at h; simp only at h; simp only; rw [if_pos (by omega)]
    generalize dv (numL s.data.toList) = x at *
    go_enter Try.func31, Try.ntmps31
    go_wp2_with (go_at_call 30; refine (hN _).mono ?_; rintro e w ⟨rfl, rfl⟩)
    go_ret
    exact ⟨ret_int HE.out, rfl⟩
theorem dv_facts (o : Option Nat) (h : ∀ n, o = some n → n < 10000000000) : -1 ≤ dv o ∧ dv o < 10000000000 ∧ (decide (0 ≤ dv o) = o.isSome) := by
  cases o with
  | none => simp [dv]
  | some n => have := h n rfl; simp [dv]; omega
theorem refTime_any (s : ByteArray) (hs : s.size ≤ 140737488355328) :
    ∃ x : Int, (∀ t, tim s = some t → x = t) ∧ ∀ w, Calls Try.prog 23 #[.string s] w fun e w' => e = .returned (.tuple #[.int .i64 x, .bool (tim s).isSome]) ∧ w' = w := by
  by_cases h0 : (0 : Int) < (s.size : Int)
  · have hh := head_some s (by omega)
    by_cases h : (s[0].toNat : Int) = 45
    · have h45 : s[0] = 45 := UInt8.toNat_inj.1 (by have : (45 : UInt8).toNat = 45 := rfl; omega)
      rw [h45] at hh
      have hN := refNumber_any (s.extract 1 s.size) (by rw [ByteArray.size_extract]; omega)
      rw [cutM_list s hh] at hN
      obtain ⟨d1, d2, d3⟩ := dv_facts (numL s.data.toList.tail) (fun n h => numL_lt _ n h)
      have HE : Hid ((numL s.data.toList.tail).isSome = (tim s).isSome ∧ ∀ t, tim s = some t → -dv (numL s.data.toList.tail) = t) := by
        show _ ∧ _
        unfold tim
        rw [if_pos hh]
        cases numL s.data.toList.tail with
        | none => exact ⟨rfl, fun t h => by cases h⟩
        | some n => exact ⟨rfl, fun t h => by simp at h; exact h⟩
      rw [← d3] at HE
      generalize dv (numL s.data.toList.tail) = x at *
      clear hh h45 d3
      refine ⟨_, HE.out.2, fun w => ?_⟩
      go_enter Try.func23, Try.ntmps23
      go_wp2_with (go_at_call 30; refine (hN _).mono ?_; rintro e w ⟨rfl, rfl⟩)
      go_ret2
      exact ⟨ret_pair ⟨rfl, HE.out.1⟩, rfl⟩
    · have hne : ¬ s.data.toList.head? = some 45 := fun e => by
        rw [hh] at e
        injection e with e
        rw [e] at h
        exact h rfl
      have hN := refNumber_any s hs
      obtain ⟨d1, d2, d3⟩ := dv_facts (numL s.data.toList) (fun n h => numL_lt _ n h)
      have HE : Hid ((numL s.data.toList).isSome = (tim s).isSome ∧ ∀ t, tim s = some t → dv (numL s.data.toList) = t) := by
        show _ ∧ _
        unfold tim
        rw [if_neg hne]
        cases numL s.data.toList with
        | none => exact ⟨rfl, fun t h => by cases h⟩
        | some n => exact ⟨rfl, fun t h => by simp at h; exact h⟩
      rw [← d3] at HE
      generalize dv (numL s.data.toList) = x at *
      clear hh hne d3
      refine ⟨_, HE.out.2, fun w => ?_⟩
      go_enter Try.func23, Try.ntmps23
      go_wp2_with (go_at_call 30; refine (hN _).mono ?_; rintro e w ⟨rfl, rfl⟩)
      go_ret2
      exact ⟨ret_pair ⟨rfl, HE.out.1⟩, rfl⟩
  · have hh := head_none s (by omega)
    have hN := refNumber_any s hs
    have HE : Hid (false = (tim s).isSome ∧ ∀ t, tim s = some t → -1 = t) := by
      show _ ∧ _
      unfold tim
      rw [if_neg (by rw [hh]; simp), numL_short s.data.toList (by rw [← Lib.size_eq]; omega)]
      exact ⟨rfl, fun t h => by cases h⟩
    rw [numL_short s.data.toList (by rw [← Lib.size_eq]; omega)] at hN
    have hN' : ∀ w, Calls Try.prog 30 #[.string s] w fun e w' => e = .returned (.int .i64 (-1)) ∧ w' = w := hN
    clear hh hN
    refine ⟨_, HE.out.2, fun w => ?_⟩
    go_enter Try.func23, Try.ntmps23
    go_wp2_with (go_at_call 30; refine (hN' _).mono ?_; rintro e w ⟨rfl, rfl⟩)
    go_ret2
    exact ⟨ret_pair ⟨rfl, HE.out.1⟩, rfl⟩
end Go.Proofs.Ytjlojkcdglocbaa
