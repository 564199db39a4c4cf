/- The landed counts are as they must be; the four laws, of the landed code. -/
import Derived.Test.YtibidhmahjbciaaCtOpen
import Derived.Test.YtibidhmahjbciaaCtNew
import Derived.Test.YtibidhmahjbciaaCtLaw2
import Derived.Test.YtibidhmahjbciaaCtLaw3
import Derived.Test.YtibidhmahjbciaaCtLaw4
namespace Go.Proofs.Ytibidhmahjbciaa
open Go.ChangeShapes Go.WideShapes Go.ChangeAt Go.RowKit
set_option linter.unusedVariables false

theorem ct_is : CtIs CoT where
  obj := cot_is
  new := fun l v w hq h => new_any l v w hq h
  add := fun X l F q n w ⟨G, M, c, h, hF⟩ g hq hn => (add_any g.1 g.2 q hq n hn w h).mono (by
    rintro e w' ⟨rfl, hc, ht⟩
    refine ⟨F, rfl, ⟨G, M, c, hc, hF⟩, ⟨ht.1, ht.2.1, ht.2.2.1, fun b hb hn => ht.2.2.2 b hb (fun e => hn ((hF b).2 (.inr (.inl e))))⟩, fun b hb => .inl hb⟩)
  get := fun X l F q w ⟨G, M, c, h, hF⟩ g hq => (get_any g.1 q hq w h).mono (by
    rintro e w' ⟨rfl, rfl⟩
    exact ⟨rfl, kept_refl _⟩)
  all := fun X l F w ⟨G, M, c, h, hF⟩ g => all_is g.1 w h
  reset := fun X l F w ⟨G, M, c, h, hF⟩ g => (reset_is g.1 w h).mono (by
    rintro e w' ⟨r, rfl, ho, hc, ht⟩
    refine ⟨r, F, rfl, ho, fun g hg hf => ?_, ⟨G, M, c, hc, hF⟩, ⟨ht.1, ht.2.1, ht.2.2.1, fun b hb hn => ht.2.2.2 b hb (fun e => hn ((hF b).2 (.inr (.inl e))))⟩, fun b hb => .inl hb⟩
    have h1 := og_lt ho hg
    have h2 := co_lt h
    rcases (hF g).1 hf with rfl | rfl | rfl <;> omega)
  add_nil := fun q n w hn => add_nil_any q n w
  get_nil := fun q w => get_nil_any q w
  all_nil := fun w => all_nil_any w
  reset_nil := fun w => reset_nil_any w
theorem plays_all {vn v : Value} (names : List ByteArray) (l : List Opn) (w : World) (hq : Rg encK 1 w vn names) (hns : ∀ x ∈ names, x.size ≤ 140737488355328) (h : Rg encO 3 w v l) (hl : ∀ x ∈ l, inU64 x.n ∧ TxOk x.name) : Calls Try.prog 3 #[vn, v] w fun e w' => e = .returned (.bool true) ∧ Kept w w' := law1_any ct_is names l hns hl vn v w hq h
theorem round_all {v : Value} (l : List Int) (w : World) (h : Rg encG 1 w v l) (hl : ∀ x ∈ l, inU64 x) : Calls Try.prog 4 #[v] w fun e w' => e = .returned (.bool true) ∧ Kept w w' := law2_any ct_is l hl v w h
theorem lost_all {v : Value} (l : List Opn) (w : World) (h : Rg encO 3 w v l) (hl : ∀ x ∈ l, inU64 x.n ∧ TxOk x.name) : Calls Try.prog 5 #[v] w fun e w' => e = .returned (.bool true) ∧ Kept w w' := law3_any ct_is l hl v w h
theorem apart_all {v : Value} (l : List Opn) (tu : Int) (w : World) (h : Rg encO 3 w v l) (hl : ∀ x ∈ l, inU64 x.n ∧ TxOk x.name) (wt : (Lit.int .u8 tu).wf = true) : Calls Try.prog 6 #[v, .int .u8 tu] w fun e w' => e = .returned (.bool true) ∧ Kept w w' := law4_any ct_is l hl tu (okU_wf wt) v w h
end Go.Proofs.Ytibidhmahjbciaa
