/- The statement FeedOn's walk, at texts and rows of any length. -/
import Derived.Test.YtjlojkcdglocbaaLawOn
namespace Go.Proofs.Ytjlojkcdglocbaa
open Go.ChangeShapes Go.WideShapes Go.ChangeAt Go.RowKit
set_option linter.unusedVariables false
set_option linter.unusedSimpArgs false

theorem on_law (oa : Option Addr) (len cap b o : Nat) (S : Nat → ByteArray) (s : ByteArray) (w : World) (hr : Row w oa len b o (fun i => .string (S i))) (hs : ∀ i, (S i).size ≤ maxLen) (h1 : s.size ≤ maxLen) :
    Calls Try.prog 5 #[.slice oa len cap, .string s] w fun e w' => e = .returned (.bool true) ∧ Kept w w' := by
  by_cases h5 : 5000 < s.size
  · have hb : (5000 : Int) < (s.size : Int) := by omega
    clear hr hs h1 h5
    go_enter Try.func5, Try.ntmps5
    go_wp2_with fail
    refine (fixed_any _).mono ?_
    rintro e w5 ⟨rfl, hk5⟩
    have HK5 := hid hk5
    clear hk5
    go_wp2_with fail
    go_ret
    exact ⟨rfl, HK5.out⟩
  by_cases h20 : 20 < len
  · have hb : ¬ (5000 : Int) < (s.size : Int) := by omega
    have hb2 : (20 : Int) < (len : Int) := by omega
    clear hr hs h1 h5 h20
    go_enter Try.func5, Try.ntmps5
    go_wp2_with fail
    refine (fixed_any _).mono ?_
    rintro e w5 ⟨rfl, hk5⟩
    have HK5 := hid hk5
    clear hk5
    go_wp2_with fail
    go_ret
    exact ⟨rfl, HK5.out⟩
  exact on_main oa len cap b o S s w hr (by omega) (by omega)
end Go.Proofs.Ytjlojkcdglocbaa
