/- A stamp ahead of another one: the truth and the number that tell it. No condition. -/
import Derived.Test.YthgbdaladngpdaaGreatStoreMath
namespace Go.Proofs.YthgbdaladngpdaaGreat
theorem lt_cmp {a b : Stp} : lt a b = true ↔ cmp a b < 0 := by
  rw [lt_iff]
  rcases cmp_parts a b with ⟨h, e⟩ | ⟨h, e⟩ | ⟨h, e⟩
  · rw [e]; simp [h]
  · subst h
    rw [e]
    constructor
    · intro h; unfold Lt at h; omega
    · intro h; omega
  · rw [e]
    constructor
    · intro g; unfold Lt at h g; omega
    · intro g; omega
end Go.Proofs.YthgbdaladngpdaaGreat
