/- What is said of records and of counts, and the lines of it, each as a call. What is made has at most 2^46 bytes. -/
import Derived.Test.YtlbpmehlfihpbaaDoorLine
import Derived.Test.YtlbpmehlfihpbaaDoorRec
import Derived.Test.YtlbpmehlfihpbaaDoorWordsMath
namespace Go.Proofs.YtlbpmehlfihpbaaDoor
open Go.ChangeShapes Go.WideShapes Go.ChangeAt Go.RowKit
set_option linter.unusedVariables false
set_option linter.unusedSimpArgs false
open Go.Lib

def itemR (r : R) : List UInt8 := itemL r.key.data.toList r.flags r.body.data.toList
def itemsR (L : List R) : List UInt8 := L.flatMap itemR ++ endL
theorem flat_succ {α : Type} (f : α → List UInt8) (L : List α) (k : Nat) (hk : k < L.length) : (L.take (k + 1)).flatMap f = (L.take k).flatMap f ++ f L[k] := by
  rw [List.take_succ_eq_append_getElem hk, List.flatMap_append]; simp
theorem flat_le {α : Type} (f : α → List UInt8) (L : List α) (k : Nat) : ((L.take k).flatMap f).length ≤ (L.flatMap f).length := by
  have := congrArg List.length (congrArg (List.flatMap f) (List.take_append_drop k L))
  rw [List.flatMap_append, List.length_append] at this
  omega
theorem words_at {w : World} {Z : Nat} {xs : List ByteArray} (h : At w Z (xs.map Value.string).toArray 9) : ∀ (j : Nat) x, xs[j]? = some x → w.cell? ⟨Z, 0 + j, none⟩ = some (.string x) := by
  intro j x hx
  rw [Nat.zero_add, at_cell h j]
  simp [hx]
theorem made_new (w : World) : Made w.heap.size w.heap.size [] (w.alloc (.cells #[.pointer none, .slice none 0 0] 53)) := by
  refine ⟨.inl ⟨Nat.le_refl _, .slice none 0 0, at_new w _ _, World.ownsRowF_nil _ _ _ _, by simp [Value.ownBlock]⟩, ?_⟩
  have := (kept_alloc (kept_refl w) (.cells #[.pointer none, .slice none 0 0] 53)).2
  exact this
theorem kept_said {B b : Nat} {W w w' : World} (h : Kept W w) (s : Said B b w w') (hB : W.heap.size ≤ B) : Kept W w' :=
  kept_of (s.1.os.trans (kept_os h)) (s.1.output.trans (kept_output h)) (Nat.le_trans h.2 s.1.size) (fun i hi => (s.1.block i (by omega)).trans (kept_block h hi))
section
variable {B b : Nat} {l : List UInt8} {w : World}
theorem say4 (r : R) (Z : Nat) (hM : Made B b l w) (hA : At w Z #[.string ⟨#[86, 65, 76, 85, 69]⟩, .string r.key, .string ⟨(Lib.decDigits r.flags).toArray⟩, .string ⟨(Lib.decDigits r.body.size).toArray⟩] 9) (hl : l.length + (itemR r).length ≤ 70368744177664) :
    Calls Tryd.prog 18 #[.pointer (some ⟨b, 0, none⟩), .slice (some ⟨Z, 0, none⟩) 4 4] w fun e w' => e = .returned (.tuple #[]) ∧ Made B b (l ++ firstL r.key.data.toList r.flags r.body.data.toList.length) w' ∧ Said B b w w' := by
  have e : Lib.join ([⟨#[86, 65, 76, 85, 69]⟩, r.key, ⟨(Lib.decDigits r.flags).toArray⟩, ⟨(Lib.decDigits r.body.size).toArray⟩].map (·.data.toList)) [32] ++ [13, 10] = firstL r.key.data.toList r.flags r.body.data.toList.length := by
    rw [firstL_eq, size_list]
    simp [Lib.join, List.intercalate, dec]
  have hlen := congrArg List.length e
  rw [List.length_append] at hlen
  have := sayLine_any Z [⟨#[86, 65, 76, 85, 69]⟩, r.key, ⟨(Lib.decDigits r.flags).toArray⟩, ⟨(Lib.decDigits r.body.size).toArray⟩] w hM (words_at hA) (at_lt hA) (by simp) (by
    unfold itemR itemL at hl
    rw [List.length_append] at hl
    simp only [List.length_cons, List.length_nil] at hlen
    omega)
  rw [e] at this
  exact this
theorem say1 (s : ByteArray) (Z : Nat) (hM : Made B b l w) (hA : At w Z #[.string s] 9) (hl : l.length + (s.size + 2) ≤ 70368744177664) :
    Calls Tryd.prog 18 #[.pointer (some ⟨b, 0, none⟩), .slice (some ⟨Z, 0, none⟩) 1 1] w fun e w' => e = .returned (.tuple #[]) ∧ Made B b (l ++ (s.data.toList ++ [13, 10])) w' ∧ Said B b w w' := by
  have e : Lib.join ([s].map (·.data.toList)) [32] = s.data.toList := by simp [Lib.join, List.intercalate]
  have := sayLine_any Z [s] w hM (words_at hA) (at_lt hA) (by simp) (by rw [e, size_list]; omega)
  rw [e] at this
  exact this
end
end Go.Proofs.YtlbpmehlfihpbaaDoor
