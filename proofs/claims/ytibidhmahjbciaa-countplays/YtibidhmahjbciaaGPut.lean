/- A store into a row of one's own: one cell of one member. No condition. -/
import Derived.Test.YtibidhmahjbciaaGRows
namespace Go.Proofs.Ytibidhmahjbciaa
open Go.ChangeShapes Go.WideShapes Go.ChangeAt Go.RowKit
set_option linter.unusedVariables false
set_option linter.unusedSimpArgs false

section
variable {α : Type} {enc : α → List Value} {c : Nat}
theorem flatE_set (he : Enc enc c) : ∀ {xs : List α} {i j : Nat} {x x' : α} {u : Value}, xs[i]? = some x → j < c → enc x' = (enc x).set j u → (flatE enc xs).set (i * c + j) u = flatE enc (xs.set i x')
  | [], i, j, x, x', u, h, _, _ => by simp at h
  | y :: xs, 0, j, x, x', u, h, hj, hx => by
    simp at h
    subst h
    rw [flatE_cons, Nat.zero_mul, Nat.zero_add, List.set_append_left _ _ (by rw [he.len]; exact hj), ← hx]
    rfl
  | y :: xs, i + 1, j, x, x', u, h, hj, hx => by
    simp at h
    rw [flatE_cons, show (i + 1) * c + j = (enc y).length + (i * c + j) by rw [he.len, Nat.add_mul, Nat.one_mul]; omega, List.set_append_right _ _ (by omega), Nat.add_sub_cancel_left, flatE_set he h hj hx]
    rfl
theorem og_put {T B q n cap : Nat} {w : World} {xs : List α} (he : Enc enc c) (h : Og enc c T w B (.slice (some ⟨q, 0, none⟩) n cap) xs) {i j : Nat} {x x' : α} {u : Value} (hx : xs[i]? = some x) (hj : j < c) (hx' : enc x' = (enc x).set j u) : Og enc c T (w.setCell ⟨q, i * c + j, none⟩ u) B (.slice (some ⟨q, 0, none⟩) n cap) (xs.set i x') := by
  refine ⟨by rw [flatE_len he], ?_⟩
  rcases h.2 with ⟨h1, _⟩ | ⟨g, c2, cur, h1, hb, hg, hc, hm, hs, ht⟩
  · cases h1
  · injection h1 with h1 h2 h3
    injection h1 with h1
    injection h1 with h1
    subst h1 h2 h3
    refine .inr ⟨q, cap, _, by rw [List.length_set], hb, at_set hg _ _, by rw [List.length_set]; exact hc, hm, by simpa using hs, ?_⟩
    rw [List.length_set]
    simp only [Array.toList_setIfInBounds]
    rw [List.take_set, ht, flatE_set he hx hj hx']
theorem og_frozen {T B q n cap : Nat} {w : World} {xs : List α} (h : Og enc c T w B (.slice (some ⟨q, 0, none⟩) n cap) xs) (j : Nat) : w.frozen? ⟨q, j, none⟩ = false := by
  rcases h.2 with ⟨h1, _⟩ | ⟨g, c2, cur, h1, hb, hg, _⟩
  · cases h1
  · injection h1 with h1 h2 h3
    injection h1 with h1
    injection h1 with h1
    subst h1
    exact at_frozen hg j
theorem og_type {T B q n cap : Nat} {w : World} {xs : List α} (h : Og enc c T w B (.slice (some ⟨q, 0, none⟩) n cap) xs) : ∃ cs, At w q cs T := by
  rcases h.2 with ⟨h1, _⟩ | ⟨g, c2, cur, h1, hb, hg, _⟩
  · cases h1
  · injection h1 with h1 h2 h3
    injection h1 with h1
    injection h1 with h1
    subst h1
    exact ⟨cur, hg⟩
end
end Go.Proofs.Ytibidhmahjbciaa
