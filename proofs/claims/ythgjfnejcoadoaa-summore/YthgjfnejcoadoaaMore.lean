/- The law that a sum goes on with another text behind it, walked: it answers true and turns nothing that was there. Texts have at most as many bytes as a text may have. -/
import Derived.Test.YthgjfnejcoadoaaState
namespace Go.Proofs.Ythgjfnejcoadoaa
open Go.ChangeShapes Go.WideShapes Go.ChangeAt Go.RowKit
set_option linter.unusedVariables false

theorem wf_u32 {x : Int} (h : (Lit.int .u32 x).wf = true) : ∃ n : Nat, x = (n : Int) ∧ n < 4294967296 := by
  have h' : 0 ≤ x ∧ x < 4294967296 := by
    have := bounds_u32 h; omega
  exact ⟨x.toNat, by omega, by omega⟩
theorem toList_append (a b : ByteArray) : (a ++ b).data.toList = a.data.toList ++ b.data.toList := by
  rw [ByteArray.data_append, Array.toList_append]
theorem more_walk (a b : ByteArray) (x : Int) (ha : a.size ≤ maxLen) (hb : b.size ≤ maxLen) (hx : (Lit.int .u32 x).wf = true) (w : World) :
    Calls Try.prog 5 #[.string a, .string b, .int .u32 x] w fun e w' => e = .returned (.bool true) ∧ Kept w w' := by
  unfold maxLen at ha hb
  obtain ⟨n, rfl, hn⟩ := wf_u32 hx
  clear hx
  by_cases h1 : 5000 < a.size
  · have h1' : (5000 : Int) < (a.size : Int) := by omega
    go_enter Try.func5, Try.ntmps5
    go_wp2_with (go_at_call 8; refine (fixed_any _).mono ?_; rintro e w' ⟨rfl, hG⟩)
    go_ret
    exact ⟨rfl, kept_grown hG⟩
  by_cases h2 : 5000 < b.size
  · have h1' : ¬ (5000 : Int) < (a.size : Int) := by omega
    have h2' : (5000 : Int) < (b.size : Int) := by omega
    go_enter Try.func5, Try.ntmps5
    go_wp2_with (go_at_call 8; refine (fixed_any _).mono ?_; rintro e w' ⟨rfl, hG⟩)
    go_ret
    exact ⟨rfl, kept_grown hG⟩
  have h1' : ¬ (5000 : Int) < (a.size : Int) := by omega
  have h2' : ¬ (5000 : Int) < (b.size : Int) := by omega
  have ha' : Hid (a.size ≤ maxLen) := by show _ ≤ _; unfold maxLen; omega
  have hb' : Hid (b.size ≤ maxLen) := by show _ ≤ _; unfold maxLen; omega
  have hab : Hid ((a ++ b).size ≤ maxLen) := by show _ ≤ _; rw [ByteArray.size_append]; unfold maxLen; omega
  have S0 : St w [] w := St.start w
  have hl := more_lt 0 (by omega) a.data.toList
  have HX : Hid (more (more 0 a.data.toList) b.data.toList = more 0 (a ++ b).data.toList) := by
    show _ = _
    rw [toList_append, more_append]
  generalize hy : more 0 a.data.toList = Y at *
  generalize hz : more 0 (a ++ b).data.toList = Z at *
  generalize hv : more n b.data.toList = V at *
  have HY : Hid (more 0 a.data.toList = Y) := hy
  have HZ : Hid (more 0 (a ++ b).data.toList = Z) := hz
  have HV : Hid (more n b.data.toList = V) := hv
  clear hy hz hv
  go_enter Try.func5, Try.ntmps5
  go_wp2_with fail
  refine (new_in w [] _ S0).mono ?_
  rintro e w1 ⟨t, rfl, -, S1, -, -⟩
  go_wp2_with fail
  refine (fixed_in w [t] _ S1).mono ?_
  rintro e w2 ⟨rfl, S2, -⟩
  go_wp2_with fail
  refine (sum_in w [t] t (by simp) a ha'.out _ S2).mono ?_
  rintro e w3 ⟨rfl, S3, -⟩
  rw [HY.out]
  go_wp2_with fail
  refine (more_in w [t] t (by simp) Y hl b hb'.out _ S3).mono ?_
  rintro e w4 ⟨rfl, S4, -⟩
  rw [HX.out]
  go_wp2_with fail
  refine (sum_in w [t] t (by simp) (a ++ b) hab.out _ S4).mono ?_
  rintro e w5 ⟨rfl, S5, -⟩
  rw [HZ.out]
  go_wp2_with fail
  refine (more_in w [t] t (by simp) n hn b hb'.out _ S5).mono ?_
  rintro e w6 ⟨rfl, S6, -⟩
  rw [HV.out]
  go_wp2_with fail
  refine (refmore_any n hn b hb'.out _).mono ?_
  rintro e w' ⟨rfl, rfl⟩
  rw [HV.out]
  go_wp2_with fail
  go_ret
  exact ⟨rfl, S6.1⟩
end Go.Proofs.Ythgjfnejcoadoaa
