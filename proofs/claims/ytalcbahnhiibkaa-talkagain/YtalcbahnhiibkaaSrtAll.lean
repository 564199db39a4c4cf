/- The library's symmetric merge, all its ways together. The row has at most 64 members. -/
import Derived.Test.YtalcbahnhiibkaaSrtLow
import Derived.Test.YtalcbahnhiibkaaSrtHigh
namespace Go.Proofs.Ytalcbahnhiibkaa
open Go.ChangeShapes Go.WideShapes Go.ChangeAt Go.RowKit
set_option linter.unusedVariables false
set_option linter.unusedSimpArgs false
set_option maxRecDepth 100000

theorem sym_all {key : Nat → Nat} {R n cap : Nat} {T : Value} {w0 : World} (hc : CmpOk key n R T w0) (hn : n ≤ 64) : ∀ N, SymIs key R n cap T w0 N
  | 0 => fun a m b D w _ _ _ _ _ _ _ h => by omega
  | N + 1 => fun a m b D w hP hT hD hH h1 h2 h3 hN => by
    have ih : SymIs key R n cap T w0 (b - a) := fun a' m' b' D' w' g1 g2 g3 g4 g5 g6 g7 g8 => sym_all hc hn N a' m' b' D' w' g1 g2 g3 g4 g5 g6 g7 (by omega)
    by_cases c1 : m = a + 1
    · subst c1
      exact sym_first w0 w hc hP hT hn hD hH h2 h3
    · by_cases c2 : b = m + 1
      · subst c2
        exact sym_last w0 w hc hP hT hn hD hH (by omega) h3
      · obtain ⟨mid, hm1, hm2⟩ : ∃ mid, 2 * mid ≤ a + b ∧ a + b ≤ 2 * mid + 1 := ⟨(a + b) / 2, by omega, by omega⟩
        by_cases c3 : m ≤ mid
        · exact sym_low w0 w hc hP hT hn hD hH (by omega) (by omega) h3 hm1 hm2 c3 ih
        · exact sym_high w0 w hc hP hT hn hD hH (by omega) (by omega) h3 hm1 hm2 (by omega) ih
theorem sym_any {key : Nat → Nat} {R n cap a m b : Nat} {D : Nat → Nat} {T : Value} (w0 w : World) (hc : CmpOk key n R T w0) (h : Pl w R n D) (ht : Turn R w0 w) (hn : n ≤ 64) (hD : ∀ p, p < n → D p < n) (hH : Halves key D a m b) (h1 : a < m) (h2 : m < b) (h3 : b ≤ n) :
    Calls Try.prog 31 #[.slice (some ⟨R, 0, none⟩) n cap, .int .i64 (a : Int), .int .i64 (m : Int), .int .i64 (b : Int), .func (.func 22) #[] #[T]] w (SymC key R n a b D w0) := sym_all hc hn (b - a + 1) a m b D w h ht hD hH h1 h2 h3 (by omega)
end Go.Proofs.Ytalcbahnhiibkaa
