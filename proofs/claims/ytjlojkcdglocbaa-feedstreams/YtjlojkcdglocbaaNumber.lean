/- The contracts of the program's number, amount and time, and of the library's CutPrefix. The text has at most 2^47 bytes. They turn nothing. -/
import Derived.Test.YtjlojkcdglocbaaFields
namespace Go.Proofs.Ytjlojkcdglocbaa
open Go.ChangeShapes Go.WideShapes Go.ChangeAt Go.RowKit
set_option linter.unusedVariables false
set_option linter.unusedSimpArgs false

theorem numL_short (l : List UInt8) (h : l.length < 1) : numL l = none := by
  unfold numL; rw [show decide (1 ≤ l.length) = false from decide_eq_false (by omega)]; simp
theorem numL_long (l : List UInt8) (h : 10 < l.length) : numL l = none := by
  unfold numL; rw [show decide (l.length ≤ 10) = false from decide_eq_false (by omega)]; simp
theorem numL_bad (l : List UInt8) (k : Nat) (hk : k < l.length) (h : digit l[k] = false) : numL l = none := by
  have : l.all digit = false := by
    rw [List.all_eq_false]
    exact ⟨l[k], List.getElem_mem hk, by rw [h]; simp⟩
  unfold numL; rw [this]; simp
theorem numL_good (l : List UInt8) (h1 : 1 ≤ l.length) (h2 : l.length ≤ 10) (h : ∀ k (hk : k < l.length), digit l[k] = true) : numL l = some (val l) := by
  have : l.all digit = true := by
    rw [List.all_eq_true]
    intro c hc
    obtain ⟨k, hk, rfl⟩ := List.getElem_of_mem hc
    exact h k hk
  unfold numL; rw [this]; simp [h1, h2]
theorem val_step (l : List UInt8) (k : Nat) (hk : k < l.length) : val (l.take (k + 1)) = val (l.take k) * 10 + (l[k].toNat - 48) := by
  unfold val
  rw [List.take_succ_eq_append_getElem hk, List.foldl_append]
  rfl
theorem digit_facts (c : UInt8) (h : digit c = true) : 48 ≤ c.toNat ∧ c.toNat ≤ 57 := by
  unfold digit at h; simpa using h
theorem digit_low (c : UInt8) (h : (c.toNat : Int) < 48) : digit c = false := by unfold digit; simp; omega
theorem digit_high (c : UInt8) (h : (57 : Int) < (c.toNat : Int)) : digit c = false := by unfold digit; simp; omega
theorem digit_is (c : UInt8) (h : ¬ (c.toNat : Int) < 48) (k : ¬ (57 : Int) < (c.toNat : Int)) : digit c = true := by unfold digit; simp; omega
theorem val_lt (l : List UInt8) : ∀ k, k ≤ l.length → (∀ q (hq : q < l.length), q < k → digit l[q] = true) → val (l.take k) < 10 ^ k
  | 0, _, _ => by simp [val]
  | k + 1, hk, h => by
    have ih := val_lt l k (by omega) (fun q hq hl => h q hq (by omega))
    have hd := digit_facts _ (h k (by omega) (by omega))
    rw [val_step l k (by omega), Nat.pow_succ]
    omega
theorem val_small (l : List UInt8) (k : Nat) (hk : k ≤ l.length) (h10 : k ≤ 10) (h : ∀ q (hq : q < l.length), q < k → digit l[q] = true) : val (l.take k) < 10000000000 := by
  have h1 := val_lt l k hk h
  have h2 : 10 ^ k ≤ 10 ^ 10 := Nat.pow_le_pow_right (by omega) h10
  omega
theorem numL_lt (l : List UInt8) (n : Nat) (h : numL l = some n) : n < 10000000000 := by
  unfold numL at h
  split at h
  · rename_i hc
    simp only [Bool.and_eq_true, decide_eq_true_eq] at hc
    have := val_small l l.length (Nat.le_refl _) hc.1.2 (fun q hq _ => by
      have := List.all_eq_true.1 hc.2 l[q] (List.getElem_mem hq)
      exact this)
    rw [List.take_length] at this
    injection h with h
    omega
  · cases h
theorem ret_pair {a b : Int} {c d : Bool} {k : IntKind} (h : a = b ∧ c = d) : Ending.returned (.tuple #[.int k a, .bool c]) = .returned (.tuple #[.int k b, .bool d]) := by rw [h.1, h.2]
def nv (o : Option Nat) : Int := match o with | some n => (n : Int) | none => 0
set_option maxHeartbeats 1600000 in
theorem number_any (s : ByteArray) (hs : s.size ≤ 140737488355328) (w : World) :
    Calls Try.prog 62 #[.string s] w fun e w' => e = .returned (.tuple #[.int .i64 (nv (numL s.data.toList)), .bool (numL s.data.toList).isSome]) ∧ w' = w := by
  have HL : Hid (s.data.toList.length = s.size) := (Lib.size_eq s).symm
  by_cases h1 : (s.size : Int) < 1
  · have HE : Hid ((0 : Int) = nv (numL s.data.toList) ∧ false = (numL s.data.toList).isSome) := by
      have := numL_short s.data.toList (by rw [HL.out]; omega)
      show _ ∧ _; rw [this]; exact ⟨rfl, rfl⟩
    go_enter Try.func62, Try.ntmps62
    go_wp2
    go_ret2
    exact ⟨ret_pair HE.out, rfl⟩
  by_cases h2 : (10 : Int) < (s.size : Int)
  · have HE : Hid ((0 : Int) = nv (numL s.data.toList) ∧ false = (numL s.data.toList).isSome) := by
      have := numL_long s.data.toList (by rw [HL.out]; omega)
      show _ ∧ _; rw [this]; exact ⟨rfl, rfl⟩
    go_enter Try.func62, Try.ntmps62
    go_wp2
    go_ret2
    exact ⟨ret_pair HE.out, rfl⟩
  have H1 : Hid (1 ≤ s.size ∧ s.size ≤ 10) := ⟨by omega, by omega⟩
  have d1 : decide ((s.size : Int) < 1) = false := by simpa using h1
  have d2 : decide ((10 : Int) < (s.size : Int)) = false := by simpa using h2
  clear h1 h2
  go_enter Try.func62, Try.ntmps62
  go_wp2
  go_loop [4, 5, 16] (fun n i j => ∃ k : Nat, k ≤ s.size ∧ j = .int .i64 k ∧ n = .int .i64 (val (s.data.toList.take k) : Nat) ∧ Hid (∀ q (hq : q < s.data.toList.length), q < k → digit s.data.toList[q] = true)) (fun _ _ j => s.size - (intOf j).toNat)
  case atStart => exact ⟨0, Nat.zero_le _, rfl, by simp [val], fun q _ hq => absurd hq (by omega)⟩
  case round =>
    obtain ⟨k, hk, rfl, rfl, HG⟩ := hrel
    by_cases hlt : k < s.size
    · have hkl : Hid (k < s.data.toList.length) := by show k < _; rw [HL.out]; exact hlt
      by_cases c1 : (s[k].toNat : Int) < 48
      · have HE : Hid ((0 : Int) = nv (numL s.data.toList) ∧ false = (numL s.data.toList).isSome) := by
          have := numL_bad s.data.toList k hkl.out (digit_low _ c1)
          show _ ∧ _; rw [this]; exact ⟨rfl, rfl⟩
        go_wp2
        go_ret2
        exact ⟨ret_pair HE.out, rfl⟩
      · by_cases c2 : (57 : Int) < (s[k].toNat : Int)
        · have HE : Hid ((0 : Int) = nv (numL s.data.toList) ∧ false = (numL s.data.toList).isSome) := by
            have := numL_bad s.data.toList k hkl.out (digit_high _ c2)
            show _ ∧ _; rw [this]; exact ⟨rfl, rfl⟩
          go_wp2
          go_ret2
          exact ⟨ret_pair HE.out, rfl⟩
        · have hd := digit_is _ c1 c2
          have HN : Hid (∀ q (hq : q < s.data.toList.length), q < k + 1 → digit s.data.toList[q] = true) := fun q hq hl => by
            rcases (show q < k ∨ q = k by omega) with h | rfl
            · exact HG.out q hq h
            · exact hd
          have hv := val_small s.data.toList k (by rw [HL.out]; omega) (by have := H1.out; omega) HG.out
          have HS : Hid (val (s.data.toList.take (k + 1)) = val (s.data.toList.take k) * 10 + (s[k].toNat - 48)) := val_step _ k hkl.out
          clear hd
          generalize val (s.data.toList.take k) = v at *
          go_wp2
          go_round
          case rel => exact ⟨k + 1, by omega, by go_num, by rw [HS.out]; congr 1; omega, HN⟩
          case measure => simp [intOf]; omega
    · have HE : Hid ((val (s.data.toList.take k) : Int) = nv (numL s.data.toList) ∧ true = (numL s.data.toList).isSome) := by
        have he : k = s.data.toList.length := by rw [HL.out]; omega
        have := numL_good s.data.toList (by rw [HL.out]; exact H1.out.1) (by rw [HL.out]; exact H1.out.2) (fun q hq => HG.out q hq (by omega))
        show _ ∧ _; rw [this, he, List.take_length]; exact ⟨rfl, rfl⟩
      go_wp2
      go_ret2
      exact ⟨ret_pair HE.out, rfl⟩
theorem head_none (s : ByteArray) (h : s.size < 1) : s.data.toList.head? = none := by
  have : s.data.toList.length = s.size := (Lib.size_eq s).symm
  cases hl : s.data.toList with
  | nil => rfl
  | cons a t => rw [hl] at this; simp at this; omega
theorem head_some (s : ByteArray) (h : 1 ≤ s.size) : s.data.toList.head? = some s[0] := by
  have hl : s.data.toList.length = s.size := (Lib.size_eq s).symm
  have : 0 < s.data.toList.length := by omega
  rw [List.head?_eq_getElem?, List.getElem?_eq_getElem this]
  rfl
theorem cut_eq (s : ByteArray) (h : 1 ≤ s.size) : ((s.extract 0 1).toList == [45]) = decide (s.data.toList.head? = some 45) := by
  rw [Lib.extract_toList, head_some s h]
  have hl : s.data.toList.length = s.size := (Lib.size_eq s).symm
  have h0 : 0 < s.data.toList.length := by omega
  have : s.data.toList = s[0] :: s.data.toList.tail := by
    cases hs : s.data.toList with
    | nil => rw [hs] at h0; simp at h0
    | cons a t =>
      have : s.data.toList[0] = a := by simp [hs]
      show a :: t = s.data.toList[0] :: _
      rw [this]; rfl
  rw [this, Bool.eq_iff_iff]
  simp
theorem HasPrefix_any (s : ByteArray) (hs : s.size ≤ 140737488355328) (w : World) :
    Calls Try.prog 70 #[.string s, .string ⟨#[45]⟩] w fun e w' => e = .returned (.bool (decide (s.data.toList.head? = some 45))) ∧ w' = w := by
  by_cases h : (1 : Int) ≤ (s.size : Int)
  · have HE : Hid (((s.extract 0 1).toList == [45]) = decide (s.data.toList.head? = some 45)) := cut_eq s (by omega)
    go_enter Try.func70, Try.ntmps70
    go_wp2
    go_ret
    exact ⟨ret_bool HE.out, rfl⟩
  · have HE : Hid (false = decide (s.data.toList.head? = some 45)) := by show _ = _; rw [head_none s (by omega)]; simp
    go_enter Try.func70, Try.ntmps70
    go_wp2
    go_ret
    exact ⟨ret_bool HE.out, rfl⟩
def cutM (s : ByteArray) : ByteArray := if s.data.toList.head? = some 45 then s.extract 1 s.size else s
theorem cutM_list (s : ByteArray) (h : s.data.toList.head? = some 45) : (s.extract 1 s.size).data.toList = s.data.toList.tail := by
  have hl : s.data.toList.length = s.size := (Lib.size_eq s).symm
  have h1 := Lib.extract_toList s 1 s.size
  rw [Lib.toList_data] at h1
  rw [h1, ← hl]
  cases hs : s.data.toList with
  | nil => simp
  | cons a t => simp
theorem CutIn_any (s : ByteArray) (hs : s.size ≤ 140737488355328) (w : World) :
    Calls Try.prog 68 #[.string s, .string ⟨#[45]⟩] w fun e w' => e = .returned (.tuple #[.string (cutM s), .bool (decide (s.data.toList.head? = some 45))]) ∧ w' = w := by
  have hP := HasPrefix_any s hs
  unfold cutM
  by_cases h : s.data.toList.head? = some 45
  · have hsz : (1 : Int) ≤ (s.size : Int) := by
      by_cases h1 : s.size < 1
      · rw [head_none s h1] at h; cases h
      · omega
    rw [if_pos h]
    rw [show decide (s.data.toList.head? = some 45) = true from decide_eq_true h] at hP ⊢
    clear h
    go_enter Try.func68, Try.ntmps68
    go_wp2_with (go_at_call 70; refine (hP _).mono ?_; rintro e w ⟨rfl, rfl⟩)
    go_ret2
    exact ⟨rfl, rfl⟩
  · rw [if_neg h]
    rw [show decide (s.data.toList.head? = some 45) = false from decide_eq_false h] at hP ⊢
    clear h
    go_enter Try.func68, Try.ntmps68
    go_wp2_with (go_at_call 70; refine (hP _).mono ?_; rintro e w ⟨rfl, rfl⟩)
    go_ret2
    exact ⟨rfl, rfl⟩
theorem Cut_any (s : ByteArray) (hs : s.size ≤ 140737488355328) (w : World) :
    Calls Try.prog 63 #[.string s, .string ⟨#[45]⟩] w fun e w' => e = .returned (.tuple #[.string (cutM s), .bool (decide (s.data.toList.head? = some 45))]) ∧ w' = w := by
  go_enter Try.func63, Try.ntmps63
  go_wp2_with (go_at_call 68; refine (CutIn_any s hs _).mono ?_; rintro e w ⟨rfl, rfl⟩)
  go_ret2
  exact ⟨rfl, rfl⟩
def tv (o : Option Int) : Int := o.getD 0
theorem time_any (s : ByteArray) (hs : s.size ≤ 140737488355328) (w : World) :
    Calls Try.prog 56 #[.string s] w fun e w' => e = .returned (.tuple #[.int .i64 (tv (tim s)), .bool (tim s).isSome]) ∧ w' = w := by
  have hC := Cut_any s hs
  have hl : (cutM s).size ≤ 140737488355328 := by
    unfold cutM
    split
    · rw [ByteArray.size_extract]; omega
    · exact hs
  have hN := number_any (cutM s) hl
  have HB : Hid (∀ n, numL (cutM s).data.toList = some n → n < 10000000000) := fun n h => numL_lt _ n h
  by_cases h : s.data.toList.head? = some 45
  · have HE : Hid (-(nv (numL (cutM s).data.toList)) = tv (tim s) ∧ (numL (cutM s).data.toList).isSome = (tim s).isSome) := by
      show _ ∧ _
      unfold tim cutM
      rw [if_pos h, if_pos h, cutM_list s h]
      cases numL s.data.toList.tail <;> simp [nv, tv]
    rw [show decide (s.data.toList.head? = some 45) = true from decide_eq_true h] at hC
    clear h hl
    generalize numL (cutM s).data.toList = o at *
    have hb : -10000000000 < nv o ∧ nv o < 10000000000 := by
      cases o with
      | none => simp [nv]
      | some n => have := HB.out n rfl; simp [nv]; omega
    generalize nv o = x at *
    generalize o.isSome = b at *
    go_enter Try.func56, Try.ntmps56
    go_wp2_with (first | (go_at_call 63; refine (hC _).mono ?_; rintro e w ⟨rfl, rfl⟩) | (go_at_call 62; refine (hN _).mono ?_; rintro e w ⟨rfl, rfl⟩))
    go_ret2
    exact ⟨ret_pair HE.out, rfl⟩
  · have HE : Hid (nv (numL (cutM s).data.toList) = tv (tim s) ∧ (numL (cutM s).data.toList).isSome = (tim s).isSome) := by
      show _ ∧ _
      unfold tim cutM
      rw [if_neg h, if_neg h]
      cases numL s.data.toList <;> simp [nv, tv]
    rw [show decide (s.data.toList.head? = some 45) = false from decide_eq_false h] at hC
    clear h hl
    go_enter Try.func56, Try.ntmps56
    go_wp2_with (first | (go_at_call 63; refine (hC _).mono ?_; rintro e w ⟨rfl, rfl⟩) | (go_at_call 62; refine (hN _).mono ?_; rintro e w ⟨rfl, rfl⟩))
    go_ret2
    exact ⟨ret_pair HE.out, rfl⟩
theorem amt_lt (s : ByteArray) (n : Nat) (h : amt s = some n) : n ≤ 4294967295 := by
  unfold amt at h
  split at h
  · split at h
    · injection h with h; omega
    · cases h
  · cases h
theorem amount_any (s : ByteArray) (hs : s.size ≤ 140737488355328) (w : World) :
    Calls Try.prog 55 #[.string s] w fun e w' => e = .returned (.tuple #[.int .u32 (nv (amt s)), .bool (amt s).isSome]) ∧ w' = w := by
  have hN := number_any s hs
  have HB : Hid (∀ n, numL s.data.toList = some n → n < 10000000000) := fun n h => numL_lt _ n h
  obtain ⟨o, ho⟩ : ∃ o, o = amt s := ⟨_, rfl⟩
  rw [← ho]
  unfold amt at ho
  cases hn : numL s.data.toList with
  | none =>
    rw [hn] at ho hN
    subst ho
    show Calls Try.prog 55 #[.string s] w fun e w' => e = .returned (.tuple #[.int .u32 0, .bool false]) ∧ w' = w
    have hN' : ∀ w, Calls Try.prog 62 #[.string s] w fun e w' => e = .returned (.tuple #[.int .i64 0, .bool false]) ∧ w' = w := hN
    clear hN hn
    go_enter Try.func55, Try.ntmps55
    go_wp2_with (go_at_call 62; refine (hN' _).mono ?_; rintro e w ⟨rfl, rfl⟩)
    go_ret2
    exact ⟨rfl, rfl⟩
  | some n =>
    rw [hn] at ho hN
    simp only at ho
    have hN' : ∀ w, Calls Try.prog 62 #[.string s] w fun e w' => e = .returned (.tuple #[.int .i64 (n : Int), .bool true]) ∧ w' = w := hN
    clear hN hn
    by_cases h : n ≤ 4294967295
    · rw [if_pos h] at ho
      subst ho
      show Calls Try.prog 55 #[.string s] w fun e w' => e = .returned (.tuple #[.int .u32 (n : Int), .bool true]) ∧ w' = w
      have hi : ¬ (4294967295 : Int) < (n : Int) := by omega
      go_enter Try.func55, Try.ntmps55
      go_wp2_with (go_at_call 62; refine (hN' _).mono ?_; rintro e w ⟨rfl, rfl⟩)
      go_ret2
      exact ⟨rfl, rfl⟩
    · rw [if_neg h] at ho
      subst ho
      show Calls Try.prog 55 #[.string s] w fun e w' => e = .returned (.tuple #[.int .u32 0, .bool false]) ∧ w' = w
      have hi : (4294967295 : Int) < (n : Int) := by omega
      go_enter Try.func55, Try.ntmps55
      go_wp2_with (go_at_call 62; refine (hN' _).mono ?_; rintro e w ⟨rfl, rfl⟩)
      go_ret2
      exact ⟨rfl, rfl⟩
end Go.Proofs.Ytjlojkcdglocbaa
