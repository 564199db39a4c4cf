/- More on rows: a row that is made, a store of what is there already. Rows have at most 4096 members where they are made. -/
import Derived.Test.YtibidhmahjbciaaGMap
import Derived.Laws.OwnMore
import Derived.Laws.MakeOwn
namespace Go.Proofs.Ytibidhmahjbciaa
open Go.ChangeShapes Go.WideShapes Go.ChangeAt Go.RowKit
set_option linter.unusedVariables false
set_option linter.unusedSimpArgs false

section
variable {P : Program} {α : Type} {enc : α → List Value} {c bytes : Nat} {t e : TypeId} {w w' : World} {B : Nat} {v x : Value} {xs ys : List α}
theorem og_make (he : Enc enc c) (hT : TyG P t e c bytes) (hby : bytes ≤ 1024) (n : Nat) (hn : n ≤ 4096) (w : World) :
    ∃ w', (Instr.makeSlice t (.int .i64 0) (.int .i64 (n : Int))).run P w = .ok (.slice (some ⟨w.heap.size, 0, none⟩) 0 n) w' ∧ Og enc c e w' w.heap.size (.slice (some ⟨w.heap.size, 0, none⟩) 0 n) [] ∧ Kept w w' := by
  obtain ⟨hu, i, z, hi, hz, hs, hb, hc⟩ := hT
  obtain ⟨w', h1, h2, h3⟩ := run_make_own (P := P) w w.heap.size t e i z c hu hi hz hs .i64 .i64 n (by
    rw [hb]
    have : bytes * n ≤ 1024 * 4096 := Nat.mul_le_mul hby hn
    omega) (by unfold maxLen; omega) (Nat.le_refl _)
  exact ⟨w', h1, h2, kept_of h3.os h3.output h3.size (fun i hi => h3.block i hi (by simp))⟩
end
/- A store of what is there already turns nothing. -/
theorem same_store {w : World} {X T o : Nat} {cs : Array Value} {v : Value} (h : At w X cs T) (hv : cs[o]? = some v) : ∀ k : Nat, (w.setCell ⟨X, o, none⟩ v).heap[k]? = w.heap[k]? := by
  intro k
  by_cases e : k = X
  · subst e
    have h2 := at_set h o v
    have : cs.setIfInBounds o v = cs := by
      obtain ⟨h3, h4⟩ := Array.getElem?_eq_some_iff.1 hv
      apply Array.ext
      · simp
      · intro j hj1 hj2
        by_cases ej : j = o
        · subst ej; simp [h4]
        · exact Array.getElem_setIfInBounds_ne _ (fun q => ej q.symm)
    rw [this] at h2
    exact h2.trans h.symm
  · exact Below.heap_setCell _ _ _ _ e
theorem og_at {α : Type} {enc : α → List Value} {c T B q n cap : Nat} {w : World} {xs : List α} (he : Enc enc c) (h : Og enc c T w B (.slice (some ⟨q, 0, none⟩) n cap) xs) : ∃ cs, At w q cs T ∧ ∀ i x j u, xs[i]? = some x → (enc x)[j]? = some u → cs[i * c + j]? = some u := by
  have hh := h
  rcases h.2 with ⟨h1, _⟩ | ⟨g, c2, cur, h1, hb, hg, hc, hm, hs, ht⟩
  · cases h1
  · injection h1 with h1 h2 h3
    injection h1 with h1
    injection h1 with h1
    subst h1
    refine ⟨cur, hg, fun i x j u hx hu => ?_⟩
    have := World.ownsRow.cells hh (g := q) rfl (i * c + j) u (flatE_get he hx hu)
    rw [addr_plus, Nat.zero_add, at_cell hg] at this
    exact this
end Go.Proofs.Ytibidhmahjbciaa
