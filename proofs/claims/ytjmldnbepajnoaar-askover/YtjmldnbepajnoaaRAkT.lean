/- The chapter's example in plain numbers. -/
import Derived.Test.YtjmldnbepajnoaaRAkIs
namespace Go.Proofs.YtjmldnbepajnoaaR
set_option linter.unusedVariables false
set_option linter.unusedSimpArgs false
set_option maxRecDepth 100000

def exK : R := ⟨⟨#[107]⟩, zero, 3, 0, 0, ⟨#[]⟩⟩
def exX : Rp := ⟨true, false, exK⟩
def exE : Rp := ⟨true, false, zeroR⟩
def ex0 : Aq := newQ [1, 2] 10
def ex1 : Aq := takeQ ex0 1 exX
def ex2 : Aq := takeQ ex1 2 zeroRp
theorem exX_ok : RpOk exX := by unfold RpOk exX exK R.ok Stp.ok zero maxLen; decide
theorem exE_ok : RpOk exE := by unfold RpOk exE zeroR R.ok Stp.ok zero maxLen; decide
theorem ex_m3 : takeQ ex0 3 exE = ex0 ∧ mayT ex0 3 = false := ⟨rfl, rfl⟩
theorem ex_m1 : mayT ex0 1 = true := rfl
theorem ex_m2 : mayT ex1 2 = true := rfl
theorem ex_o0 : overQ ex0 9 = false := rfl
theorem ex_o2 : overQ ex2 9 = true := rfl
theorem ex_h1 : hasL ex1 = [exX] := rfl
theorem ex_h2 : hasL ex2 = [exX] := rfl
theorem ex_b1 : bestQ ex1 = exK := by unfold bestQ; rw [ex_h1]; rfl
theorem ex_b2 : bestQ ex2 = exK := by unfold bestQ; rw [ex_h2]; rfl
theorem ex_s1 : someQ ex1 = true := by unfold someQ; rw [ex_h1]; rfl
theorem ex_s2 : someQ ex2 = true := by unfold someQ; rw [ex_h2]; rfl
theorem ex_l1 : liveQ ex1 = true := by
  unfold liveQ
  rw [ex_h1, ex_b1]
  unfold liveL
  have : cmpR exX.r exK = 0 := cmpR_self exK
  simp [this]
  exact ⟨rfl, rfl⟩
theorem ex_d1 : behQ ex1 = [] := by
  unfold behQ
  rw [ex_s1, if_pos rfl, ex_b1]
  have h1 : lessB ex1 exK 1 = false := by
    have : cmpR exK exK = 0 := cmpR_self exK
    show (true && (!true || decide (cmpR exK exK < 0))) = false
    rw [this]
    rfl
  have h2 : lessB ex1 exK 2 = false := rfl
  show List.filter (lessB ex1 exK) [1, 2] = []
  simp [h1, h2]
theorem ex_d2 : behQ ex2 = [2] := by
  unfold behQ
  rw [ex_s2, if_pos rfl, ex_b2]
  have h1 : lessB ex2 exK 1 = false := by
    have : cmpR exK exK = 0 := cmpR_self exK
    show (true && (!true || decide (cmpR exK exK < 0))) = false
    rw [this]
    rfl
  have h2 : lessB ex2 exK 2 = true := rfl
  show List.filter (lessB ex2 exK) [1, 2] = [2]
  simp [h1, h2]
theorem ex_g0 : OneK ex0 := ⟨exK.key, ga_new (by decide) (by decide) (by decide)⟩
theorem ga_0 : Ga exK.key ex0 := ga_new (by decide) (by decide) (by decide)
theorem ga_1 : Ga exK.key ex1 := ga_take ga_0 exX_ok (fun _ => rfl)
theorem ga_2 : Ga exK.key ex2 := ga_take ga_1 zeroRp_ok (fun h => by cases h)
end Go.Proofs.YtjmldnbepajnoaaR
