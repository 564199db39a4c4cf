/- The law that any row of calls of a table of any size is answered, and lies in its slots, as the document says, for tables of every size, also such as there are none of. -/
import Derived.Test.YtibdnhnomjcclaaLawPlays
namespace Go.Proofs.Ytibdnhnomjcclaa
open Go.ChangeShapes Go.WideShapes Go.ChangeAt Go.RowKit
set_option linter.unusedVariables false
set_option linter.unusedSimpArgs false

set_option maxHeartbeats 1600000 in
theorem plays_bad (n : Int) (h : ¬ mayN n) (oa : Option Addr) (len cap : Nat) (w : World) :
    Calls Try.prog 3 #[.int .i64 n, .slice oa len cap] w fun e w' => e = .returned (.bool true) ∧ Kept w w' := by
  have hz29 := zero29
  have HB := hid h
  clear h
  go_enter Try.func3, Try.ntmps3
  go_wp2_with fail
  refine (new_bad n HB.out _).mono ?_
  rintro e w1 ⟨rfl, rfl⟩
  go_wp2_with fail
  refine (refnew_bad n HB.out _).mono ?_
  rintro e w2 ⟨rfl, k2⟩
  have HK := hid (kept_alloc k2 (.cells #[.slice none 0 0, .int .i64 0] 29))
  clear k2
  go_wp2_with fail
  generalize w2.alloc (.cells #[.slice none 0 0, .int .i64 0] 29) = w3 at *
  refine (fixed_any _).mono ?_
  rintro e w4 ⟨rfl, k4⟩
  have HK4 := hid (kept_trans HK.out k4)
  clear k4
  go_wp2_with fail
  go_ret
  exact ⟨rfl, HK4.out⟩
theorem plays_walk (n : Int) (oa : Option Addr) (len cap b o : Nat) (S : Nat → Opx) (w : World) (hn : (Lit.int .i64 n).wf = true) (hr : Row w oa len cap b o S) :
    Calls Try.prog 3 #[.int .i64 n, .slice oa len cap] w fun e w' => e = .returned (.bool true) ∧ Kept w w' := by
  by_cases h : mayN n
  · obtain ⟨N, rfl⟩ := Int.eq_ofNat_of_zero_le (show 0 ≤ n by have := h.1; omega)
    have := h.1
    have := h.2
    exact plays_good N (by omega) (by omega) oa len cap b o S w hr
  · exact plays_bad n h oa len cap w
end Go.Proofs.Ytibdnhnomjcclaa
