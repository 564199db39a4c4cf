/- The arguments opened: rows of nodes, rows of keys; the six laws out of what the landed code must answer. -/
import Derived.Test.YtfdnfnnagchjcaaGOpen
import Derived.Test.YtfdnfnnagchjcaaRgLaw1
import Derived.Test.YtfdnfnnagchjcaaRgLaw3
import Derived.Test.YtfdnfnnagchjcaaRgLaw4
namespace Go.Proofs.Ytfdnfnnagchjcaa
open Go.ChangeShapes Go.WideShapes Go.ChangeAt Go.RowKit Go.Joins Go.Deep
set_option linter.unusedVariables false
set_option linter.unusedSimpArgs false
set_option maxRecDepth 100000

theorem laidOut : laidOutB Try.prog = true := by kernel_rfl
theorem cells9 : Try.prog.cellsOf 9 = 1 := by kernel_rfl
theorem cells5 : Try.prog.cellsOf 5 = 1 := by kernel_rfl
section
variable {H : Type} {enc : TypeId × Value → H} {w : World} {base : Nat} {spare : Nat → Bool} {held : Bool} {r : Reach} {b0 : Nat} {v : Value} {d : DataW H} {p : List MemPlace}
theorem trod_u8 {fuel : Nat} {cs : List Value} {x : DataW H × List MemPlace} (hl : cs.length = 1) (h : DataW.trod enc Try.prog w base spare held fuel 5 cs = some x) : ∃ n : Int, cs = encU n ∧ (0 ≤ n ∧ n < 256) := by
  match cs, hl with
  | [c0], _ =>
    obtain ⟨a, e, -, wa⟩ := DataW.trod_int Try.underlying5 h
    simp at e
    subst e
    have := bounds_u8 wa
    exact ⟨a, rfl, by omega⟩
theorem trod_key {fuel : Nat} {cs : List Value} {x : DataW H × List MemPlace} (hl : cs.length = 1) (h : DataW.trod enc Try.prog w base spare held fuel 9 cs = some x) : ∃ k : ByteArray, cs = encK k ∧ k.size ≤ maxLen := by
  match cs, hl with
  | [c0], _ =>
    obtain ⟨k, e, -, wk⟩ := DataW.trod_string Try.underlying9 h
    simp at e
    subst e
    exact ⟨k, rfl, wk⟩
theorem open_ty22 (hv : Value.okWide Try.prog w r b0 22 v) (h : DataW.Trod enc Try.prog w base spare held 22 v d p) : ∃ xs : List Int, Rg encU 1 w v xs ∧ U8 xs :=
  open_rows (ok := fun n => 0 ≤ n ∧ n < 256) encU_ok Try.underlying22 cells5 0 (fun fuel cs x hl ht => trod_u8 hl ht) hv h
theorem open_ty30 (hv : Value.okWide Try.prog w r b0 30 v) (h : DataW.Trod enc Try.prog w base spare held 30 v d p) : ∃ xs : List ByteArray, Rg encK 1 w v xs ∧ ∀ k ∈ xs, k.size ≤ maxLen :=
  open_rows (ok := fun k => k.size ≤ maxLen) encK_ok Try.underlying30 cells9 ⟨#[]⟩ (fun fuel cs x hl ht => trod_key hl ht) hv h
end
theorem owners_of (hW : WeightIs) (hO : OwnersIs) (hI : OwnsIs) {v : Value} (key : ByteArray) (l : List Int) (n : Int) (w : World) (wk : key.size ≤ maxLen) (h : Rg encU 1 w v l) (hu : U8 l) (wn : (Lit.int .u8 n).wf = true) : Calls Try.prog 3 #[.string key, v, .int .u8 n] w fun e w' => e = .returned (.bool true) ∧ Kept w w' :=
  owners_walk hW hO hI key l n hu (by have := bounds_u8 wn; omega) (by have := bounds_u8 wn; omega) v w h
theorem moved_of (hO : OwnersIs) (hM : MovedIs) {v u z : Value} (l : List ByteArray) (p q : List Int) (w : World) (h : Rg encK 1 w v l) (hk : ∀ k ∈ l, k.size ≤ maxLen) (hu : Rg encU 1 w u p) (hp : U8 p) (hz : Rg encU 1 w z q) (hq : U8 q) : Calls Try.prog 4 #[v, u, z] w fun e w' => e = .returned (.bool true) ∧ Kept w w' :=
  moved_walk hO hM l p q hp hq v u z w h hu hz
theorem less_of (hO : OwnersIs) (hI : OwnsIs) {v : Value} (key : ByteArray) (l : List Int) (n : Int) (w : World) (wk : key.size ≤ maxLen) (h : Rg encU 1 w v l) (hu : U8 l) (wn : (Lit.int .u8 n).wf = true) : Calls Try.prog 5 #[.string key, v, .int .u8 n] w fun e w' => e = .returned (.bool true) ∧ Kept w w' :=
  less_walk hO hI key l n hu (by have := bounds_u8 wn; omega) (by have := bounds_u8 wn; omega) v w h
theorem more_of (hO : OwnersIs) (hI : OwnsIs) {v : Value} (key : ByteArray) (l : List Int) (n : Int) (w : World) (wk : key.size ≤ maxLen) (h : Rg encU 1 w v l) (hu : U8 l) (wn : (Lit.int .u8 n).wf = true) : Calls Try.prog 6 #[.string key, v, .int .u8 n] w fun e w' => e = .returned (.bool true) ∧ Kept w w' :=
  more_walk hO hI key l n hu (by have := bounds_u8 wn; omega) (by have := bounds_u8 wn; omega) v w h
theorem any_of (hO : OwnersIs) {v : Value} (key : ByteArray) (l : List Int) (n : Int) (w : World) (wk : key.size ≤ maxLen) (h : Rg encU 1 w v l) (hu : U8 l) (wn : (Lit.int .u8 n).wf = true) : Calls Try.prog 7 #[.string key, v, .int .u8 n] w fun e w' => e = .returned (.bool true) ∧ Kept w w' :=
  any_walk hO key l n hu (by have := bounds_u8 wn; omega) (by have := bounds_u8 wn; omega) v w h
theorem first_of (hW : WeightIs) (hO : OwnersIs) {v : Value} (key : ByteArray) (l : List Int) (w : World) (wk : key.size ≤ maxLen) (h : Rg encU 1 w v l) (hu : U8 l) : Calls Try.prog 8 #[.string key, v] w fun e w' => e = .returned (.bool true) ∧ Kept w w' :=
  first_walk hW hO key l hu v w h
end Go.Proofs.Ytfdnfnnagchjcaa
