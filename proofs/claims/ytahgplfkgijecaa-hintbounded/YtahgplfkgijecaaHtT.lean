/- The chapter's example, in plain numbers. -/
import Derived.Test.YtahgplfkgijecaaHtIs
namespace Go.Proofs.Ytahgplfkgijecaa
set_option linter.unusedVariables false
set_option linter.unusedSimpArgs false
set_option maxRecDepth 100000

def exA : R := ⟨⟨#[97]⟩, ⟨5, 0, 0⟩, 2, 0, 0, ⟨#[]⟩⟩
def exB : R := ⟨⟨#[98]⟩, ⟨5, 0, 0⟩, 2, 0, 0, ⟨#[]⟩⟩
theorem ex_may : badA exA = false ∧ badA exB = false := by constructor <;> decide
theorem ex1 : addE 1 [] exA = 0 ∧ addL 1 [] exA = [⟨exA, nob⟩] := ⟨by decide, by unfold addL; rw [if_neg (by rw [ex_may.1]; decide)]; rfl⟩
theorem ex2 : addE 1 [⟨exA, nob⟩] exB = 6 ∧ addL 1 [⟨exA, nob⟩] exB = [⟨exA, nob⟩] := ⟨by decide, by unfold addL; rw [if_neg (by rw [ex_may.2]; decide)]; rfl⟩
theorem ex3 : mayK [⟨exA, nob⟩] ⟨#[97]⟩ ⟨4, 0, 0⟩ 1 = false := by decide
theorem ex3b : ackL [⟨exA, nob⟩] ⟨#[97]⟩ ⟨4, 0, 0⟩ 1 = [⟨exA, nob⟩] := by unfold ackL; rw [ex3]; rfl
theorem ex4 : mayK [⟨exA, nob⟩] ⟨#[97]⟩ ⟨5, 0, 0⟩ 1 = true := by decide
theorem ex4b : ackL [⟨exA, nob⟩] ⟨#[97]⟩ ⟨5, 0, 0⟩ 1 = [⟨exA, more nob 1⟩] := by unfold ackL; rw [ex4]; rfl
theorem ex5 : owners ⟨#[97]⟩ [1] = [1] := by rfl
theorem ex6 : setL [⟨exA, more nob 1⟩] [1] = [] := by
  have h : allH [1] ⟨exA, more nob 1⟩ = true := by
    unfold allH
    show (decide (0 < (owners ⟨#[97]⟩ [1]).length) && (owners ⟨#[97]⟩ [1]).all _) = true
    rw [ex5]
    rfl
  unfold setL
  rw [List.filter_cons, h]
  rfl
end Go.Proofs.Ytahgplfkgijecaa
