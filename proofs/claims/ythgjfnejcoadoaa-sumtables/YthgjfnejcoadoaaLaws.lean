/- Two of the laws on sums, walked: sums from a new table and from one that was asked already; entries, and a table that is none. Each answers true and turns nothing that was there. A text has at most as many bytes as a text may have. -/
import Derived.Test.YthgjfnejcoadoaaState
namespace Go.Proofs.Ythgjfnejcoadoaa
open Go.ChangeShapes Go.WideShapes Go.ChangeAt Go.RowKit
set_option linter.unusedVariables false

theorem sums_walk (s a : ByteArray) (hs : s.size ≤ maxLen) (ha : a.size ≤ maxLen) (w : World) :
    Calls Try.prog 3 #[.string s, .string a] w fun e w' => e = .returned (.bool true) ∧ Kept w w' := by
  unfold maxLen at hs ha
  by_cases h1 : 5000 < s.size
  · have h1' : (5000 : Int) < (s.size : Int) := by omega
    go_enter Try.func3, Try.ntmps3
    go_wp2_with (go_at_call 8; refine (fixed_any _).mono ?_; rintro e w' ⟨rfl, hG⟩)
    go_ret
    exact ⟨rfl, kept_grown hG⟩
  by_cases h2 : 5000 < a.size
  · have h1' : ¬ (5000 : Int) < (s.size : Int) := by omega
    have h2' : (5000 : Int) < (a.size : Int) := by omega
    go_enter Try.func3, Try.ntmps3
    go_wp2_with (go_at_call 8; refine (fixed_any _).mono ?_; rintro e w' ⟨rfl, hG⟩)
    go_ret
    exact ⟨rfl, kept_grown hG⟩
  have h1' : ¬ (5000 : Int) < (s.size : Int) := by omega
  have h2' : ¬ (5000 : Int) < (a.size : Int) := by omega
  have hs' : Hid (s.size ≤ maxLen) := by show _ ≤ _; unfold maxLen; omega
  have ha' : Hid (a.size ≤ maxLen) := by show _ ≤ _; unfold maxLen; omega
  clear hs ha h1 h2
  have S0 : St w [] w := St.start w
  generalize HX : more 0 s.data.toList = X
  have HX : Hid (more 0 s.data.toList = X) := HX
  go_enter Try.func3, Try.ntmps3
  go_wp2_with fail
  refine (new_in w [] _ S0).mono ?_
  rintro e w1 ⟨b, rfl, -, S1, -, -⟩
  go_wp2_with fail
  refine (new_in w [b] _ S1).mono ?_
  rintro e w2 ⟨c, rfl, -, S2, -, -⟩
  go_wp2_with fail
  refine (sum_in w [c, b] c (by simp) a ha'.out _ S2).mono ?_
  rintro e w3 ⟨rfl, S3, -⟩
  go_wp2_with fail
  refine (fixed_in w [c, b] _ S3).mono ?_
  rintro e w4 ⟨rfl, S4, -⟩
  go_wp2_with fail
  refine (sum_in w [c, b] b (by simp) s hs'.out _ S4).mono ?_
  rintro e w5 ⟨rfl, S5, -⟩
  rw [HX.out]
  go_wp2_with fail
  refine (refsum_any s hs'.out _).mono ?_
  rintro e w' ⟨rfl, rfl⟩
  rw [HX.out]
  go_wp2_with fail
  refine (sum_in w [c, b] c (by simp) s hs'.out _ S5).mono ?_
  rintro e w6 ⟨rfl, S6, -⟩
  rw [HX.out]
  go_wp2_with fail
  refine (refsum_any s hs'.out _).mono ?_
  rintro e w' ⟨rfl, rfl⟩
  rw [HX.out]
  go_wp2_with fail
  refine (sum_in w [c, b] b (by simp) s hs'.out _ S6).mono ?_
  rintro e w7 ⟨rfl, S7, -⟩
  rw [HX.out]
  go_wp2_with fail
  refine (refsum_any s hs'.out _).mono ?_
  rintro e w' ⟨rfl, rfl⟩
  rw [HX.out]
  go_wp2_with fail
  go_ret
  exact ⟨rfl, S7.1⟩

theorem tables_walk (i k : Int) (s : ByteArray) (hi : (Lit.int .i64 i).wf = true) (hk : (Lit.int .i64 k).wf = true) (hs : s.size ≤ maxLen) (w : World) :
    Calls Try.prog 4 #[.int .i64 i, .int .i64 k, .string s] w fun e w' => e = .returned (.bool true) ∧ Kept w w' := by
  have S0 : St w [] w := St.start w
  clear hs hi hk
  go_enter Try.func4, Try.ntmps4
  go_wp2_with fail
  refine (new_in w [] _ S0).mono ?_
  rintro e w1 ⟨b, rfl, -, S1, -, -⟩
  go_wp2_with fail
  refine (fixed_in w [b] _ S1).mono ?_
  rintro e w2 ⟨rfl, S2, -⟩
  go_wp2_with fail
  refine (entry_in w [b] b (by simp) i _ S2).mono ?_
  rintro e w3 ⟨rfl, S3, -⟩
  go_wp2_with fail
  refine (refentry_any i _).mono ?_
  rintro e w' ⟨rfl, rfl⟩
  go_wp2_with fail
  refine (entry_in w [b] b (by simp) k _ S3).mono ?_
  rintro e w4 ⟨rfl, S4, -⟩
  go_wp2_with fail
  refine (refentry_any k _).mono ?_
  rintro e w' ⟨rfl, rfl⟩
  go_wp2_with (first | (go_at_call 12; refine (entry_nil _ _).mono ?_; rintro e w' ⟨rfl, rfl⟩) | (go_at_call 10; refine (sum_nil _ _).mono ?_; rintro e w' ⟨rfl, rfl⟩) | (go_at_call 14; refine (more_nil _ _ _).mono ?_; rintro e w' ⟨rfl, rfl⟩))
  go_ret
  exact ⟨rfl, S4.1⟩
end Go.Proofs.Ythgjfnejcoadoaa
