/- The contracts of the functions that cut a line and a body off a text. They turn nothing. -/
import Derived.Test.YtlbpmehlfihpbaaDoorSay
import Derived.BigQuiet
namespace Go.Proofs.YtlbpmehlfihpbaaDoor
open Go.ChangeShapes Go.WideShapes Go.ChangeAt Go.RowKit
set_option linter.unusedVariables false
set_option linter.unusedSimpArgs false

theorem idx_pre : ∀ (t : List UInt8) (c : UInt8), Lib.indexByte t c = if (pre t c).length < t.length then ((pre t c).length : Int) else -1
  | [], c => rfl
  | x :: t, c => by
    have ih := idx_pre t c
    unfold Lib.indexByte
    rw [pre_cons]
    by_cases h : x = c
    · subst h; simp
    · rw [if_neg (by simpa using h), ih, if_neg h]
      by_cases h2 : (pre t c).length < t.length
      · rw [if_pos h2, if_neg (by simp), if_pos (by simpa using h2)]; simp
      · rw [if_neg h2, if_pos (by simp), if_neg (by simpa using h2)]
theorem pre_take : ∀ (t : List UInt8) (c : UInt8) (m : Nat), (pre (t.take m) c).length = min (pre t c).length m
  | [], c, m => by simp [pre]
  | x :: t, c, 0 => by simp [pre]
  | x :: t, c, m + 1 => by
    have ih := pre_take t c m
    rw [List.take_succ_cons, pre_cons, pre_cons]
    split
    · simp
    · simp only [List.length_cons, ih]; omega
theorem ext_list (s : ByteArray) (i j : Nat) : (s.extract i j).data.toList = (s.data.toList.drop i).take (j - i) := by
  simp [ByteArray.data_extract, List.take_drop]
  try omega
theorem ext_to (s : ByteArray) (j : Nat) : (s.extract 0 j).data.toList = s.data.toList.take j := by rw [ext_list]; simp
theorem ext_from (s : ByteArray) (i : Nat) : (s.extract i s.size).data.toList = s.data.toList.drop i := by
  rw [ext_list, List.take_of_length_le (by rw [List.length_drop, size_list]; omega)]
theorem cutLine_hit (s : ByteArray) (i : Nat) (hs : s.size ≤ maxLen) (hi : (pre s.data.toList 10).length = i) (h3 : i ≤ 300) (hl : i < s.size) (w : World) :
    Calls Tryd.prog 24 #[.string s] w fun e w' => e = .returned (.tuple #[.string (s.extract 0 (i + 1)), .string (s.extract (i + 1) s.size), .int .i64 0]) ∧ Kept w w' := by
  obtain ⟨m, hm⟩ : ∃ m : Nat, min (s.size : Int) 301 = (m : Int) := ⟨(min (s.size : Int) 301).toNat, by omega⟩
  have hmi : i < m := by omega
  have hI : Calls Tryd.prog 32 #[.string (s.extract 0 m), .int .u8 10] w fun e w' => e = .returned (.int .i64 (i : Int)) ∧ w' = w := by
    have := lib_IndexByte (s.extract 0 m) 10 w
    rw [ext_to, idx_pre, pre_take, show (10 : Int).toNat.toUInt8 = 10 from rfl, hi, if_pos (by rw [List.length_take, size_list]; omega), show min i m = i by omega] at this
    exact this
  unfold maxLen at hs
  have hm1 : (m : Int) ≤ (s.size : Int) := by omega
  have hl1 : (i : Int) + 1 ≤ (s.size : Int) := by omega
  have hi0 : (i : Int) ≥ 0 := by omega
  clear hi hmi
  go_enter Tryd.func24, Tryd.ntmps24
  go_wp2_with fail
  refine hI.mono ?_
  rintro e w1 ⟨rfl, hw⟩
  rw [hw]; clear hw w1 hI
  go_wp2_with fail
  go_quiet (fail)
  go_wp2
  go_ret3
  exact ⟨rfl, kept_drew (kept_refl w)⟩
theorem cutLine_none (s : ByteArray) (hs : s.size ≤ maxLen) (h : ¬ ((pre s.data.toList 10).length ≤ 300 ∧ (pre s.data.toList 10).length < s.size)) (w : World) :
    Calls Tryd.prog 24 #[.string s] w fun e w' => e = .returned (.tuple #[.string ⟨#[]⟩, .string ⟨#[]⟩, .int .i64 (if 300 < s.size then 3 else 2)]) ∧ w' = w := by
  obtain ⟨m, hm⟩ : ∃ m : Nat, min (s.size : Int) 301 = (m : Int) := ⟨(min (s.size : Int) 301).toNat, by omega⟩
  have hle := pre_le s.data.toList 10
  rw [size_list] at hle
  have hI : Calls Tryd.prog 32 #[.string (s.extract 0 m), .int .u8 10] w fun e w' => e = .returned (.int .i64 (-1)) ∧ w' = w := by
    have := lib_IndexByte (s.extract 0 m) 10 w
    rw [ext_to, idx_pre, pre_take, show (10 : Int).toNat.toUInt8 = 10 from rfl, if_neg (by rw [List.length_take, size_list]; omega)] at this
    exact this
  unfold maxLen at hs
  have hm1 : (m : Int) ≤ (s.size : Int) := by omega
  clear h hle
  by_cases h3 : 300 < s.size
  · rw [if_pos h3]
    have h4 : (300 : Int) < (s.size : Int) := by omega
    clear h3
    go_enter Tryd.func24, Tryd.ntmps24
    go_wp2_with fail
    refine hI.mono ?_
    rintro e w1 ⟨rfl, hw⟩
    rw [hw]; clear hw w1 hI
    go_wp2
    go_ret3
    exact ⟨rfl, rfl⟩
  · rw [if_neg h3]
    have h4 : ¬ (300 : Int) < (s.size : Int) := by omega
    clear h3
    go_enter Tryd.func24, Tryd.ntmps24
    go_wp2_with fail
    refine hI.mono ?_
    rintro e w1 ⟨rfl, hw⟩
    rw [hw]; clear hw w1 hI
    go_wp2
    go_ret3
    exact ⟨rfl, rfl⟩
theorem prefix_yes {t : List UInt8} (h : ([13, 10] : List UInt8) <+: t) : Lib.hasPrefix t [13, 10] = true := by
  unfold Lib.hasPrefix; rw [List.isPrefixOf_iff_prefix]; exact h
theorem prefix_no {t : List UInt8} (h : ¬ ([13, 10] : List UInt8) <+: t) : Lib.hasPrefix t [13, 10] = false := by
  unfold Lib.hasPrefix
  rw [Bool.eq_false_iff, ne_eq, List.isPrefixOf_iff_prefix]; exact h
theorem cutBody_hit (s : ByteArray) (n : Nat) (hs : s.size ≤ maxLen) (h : ([13, 10] : List UInt8) <+: s.data.toList.drop n) (w : World) :
    Calls Tryd.prog 34 #[.string s, .int .i64 (n : Int)] w fun e w' => e = .returned (.tuple #[.string (s.extract 0 n), .string ⟨(s.data.toList.drop (n + 2)).toArray⟩, .int .i64 0]) ∧ w' = w := by
  have hn : n + 2 ≤ s.size := by
    have := h.length_le
    rw [List.length_drop, size_list] at this
    simp only [List.length_cons, List.length_nil] at this
    omega
  have hmin : min (s.size : Int) (n : Int) = (n : Int) := by omega
  have hn1 : (n : Int) ≤ (s.size : Int) := by omega
  have hC : Calls Tryd.prog 44 #[.string (s.extract n s.size), .string ⟨#[13, 10]⟩] w fun e w' => e = .returned (.tuple #[.string ⟨(s.data.toList.drop (n + 2)).toArray⟩, .bool true]) ∧ w' = w := by
    have := lib_CutPrefix (s.extract n s.size) ⟨#[13, 10]⟩ w
    rw [ext_from] at this
    have e1 : Lib.hasPrefix (s.data.toList.drop n) (⟨#[13, 10]⟩ : ByteArray).data.toList = true := prefix_yes h
    rw [e1] at this
    unfold Lib.trimPrefix at this
    rw [e1, if_pos rfl, show (⟨#[13, 10]⟩ : ByteArray).data.toList.length = 2 from rfl, List.drop_drop] at this
    exact this
  unfold maxLen at hs
  clear h hn
  generalize (⟨(s.data.toList.drop (n + 2)).toArray⟩ : ByteArray) = q at *
  go_enter Tryd.func34, Tryd.ntmps34
  go_wp2_with fail
  refine hC.mono ?_
  rintro e w1 ⟨rfl, hw⟩
  rw [hw]; clear hw w1 hC
  go_wp2
  go_ret3
  exact ⟨rfl, rfl⟩
theorem cutBody_none (s : ByteArray) (n : Nat) (hs : s.size ≤ maxLen) (hn : n ≤ 1024) (h : ¬ ([13, 10] : List UInt8) <+: s.data.toList.drop n) (w : World) :
    Calls Tryd.prog 34 #[.string s, .int .i64 (n : Int)] w fun e w' => e = .returned (.tuple #[.string ⟨#[]⟩, .string ⟨#[]⟩, .int .i64 (if s.data.toList.drop n <+: [13, 10] then 2 else 3)]) ∧ w' = w := by
  obtain ⟨m, hm⟩ : ∃ m : Nat, min (s.size : Int) (n : Int) = (m : Int) := ⟨(min (s.size : Int) (n : Int)).toNat, by omega⟩
  have hm1 : (m : Int) ≤ (s.size : Int) := by omega
  have hd : s.data.toList.drop m = s.data.toList.drop n := by
    by_cases hle : n ≤ s.size
    · rw [show m = n by omega]
    · rw [List.drop_of_length_le (by rw [size_list]; omega), List.drop_of_length_le (by rw [size_list]; omega)]
  have hC : Calls Tryd.prog 44 #[.string (s.extract m s.size), .string ⟨#[13, 10]⟩] w fun e w' => e = .returned (.tuple #[.string ⟨(s.data.toList.drop n).toArray⟩, .bool false]) ∧ w' = w := by
    have := lib_CutPrefix (s.extract m s.size) ⟨#[13, 10]⟩ w
    rw [ext_from, hd] at this
    have e1 : Lib.hasPrefix (s.data.toList.drop n) (⟨#[13, 10]⟩ : ByteArray).data.toList = false := prefix_no h
    rw [e1] at this
    unfold Lib.trimPrefix at this
    rw [e1, if_neg (by simp)] at this
    exact this
  have hP : Calls Tryd.prog 45 #[.string ⟨#[13, 10]⟩, .string (s.extract m s.size)] w fun e w' => e = .returned (.bool (decide (s.data.toList.drop n <+: [13, 10]))) ∧ w' = w := by
    have := lib_HasPrefix ⟨#[13, 10]⟩ (s.extract m s.size) w
    rw [ext_from, hd] at this
    have e1 : Lib.hasPrefix (⟨#[13, 10]⟩ : ByteArray).data.toList (s.data.toList.drop n) = decide (s.data.toList.drop n <+: [13, 10]) := by
      unfold Lib.hasPrefix
      rw [Bool.eq_iff_iff, List.isPrefixOf_iff_prefix, decide_eq_true_iff]
    rw [e1] at this
    exact this
  unfold maxLen at hs
  clear h hd
  generalize (⟨(s.data.toList.drop n).toArray⟩ : ByteArray) = q at *
  by_cases hc : s.data.toList.drop n <+: [13, 10]
  · rw [if_pos hc]
    rw [decide_eq_true hc] at hP
    clear hc
    go_enter Tryd.func34, Tryd.ntmps34
    go_wp2_with fail
    refine hC.mono ?_
    rintro e w1 ⟨rfl, hw⟩
    rw [hw]; clear hw w1 hC
    go_wp2_with fail
    refine hP.mono ?_
    rintro e w1 ⟨rfl, hw⟩
    rw [hw]; clear hw w1 hP
    go_wp2
    go_ret3
    exact ⟨rfl, rfl⟩
  · rw [if_neg hc]
    rw [decide_eq_false hc] at hP
    clear hc
    go_enter Tryd.func34, Tryd.ntmps34
    go_wp2_with fail
    refine hC.mono ?_
    rintro e w1 ⟨rfl, hw⟩
    rw [hw]; clear hw w1 hC
    go_wp2_with fail
    refine hP.mono ?_
    rintro e w1 ⟨rfl, hw⟩
    rw [hw]; clear hw w1 hP
    go_wp2
    go_ret3
    exact ⟨rfl, rfl⟩
end Go.Proofs.YtlbpmehlfihpbaaDoor
