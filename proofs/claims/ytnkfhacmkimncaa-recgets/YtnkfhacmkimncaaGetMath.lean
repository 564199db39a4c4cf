/- The plain mathematics of the record that stands at a place, step by step. No condition but those that are stated. -/
import Derived.Test.YtnkfhacmkimncaaGet
namespace Go.Proofs.Ytnkfhacmkimncaa
set_option linter.unusedVariables false
set_option linter.unusedSimpArgs false

theorem getR_of {s : ByteArray} {p : Int} {T : ByteArray} {q : Int} {e : Nat} (hT : stepT s 250 p 0 = (T, q, e)) : getR s p = outR (recP s (T, q, e)) := by
  unfold getR; rw [hT]
theorem rec_six {s T : ByteArray} {q : Int} {e : Nat} (hv : valN s q e 3 = 3) : recP s (T, q, e) = (⟨T, ⟨valN s q e 0, valN s q e 1, valN s q e 2⟩, valN s q e 3, valN s q e 4, valN s q e 5, (stepT s 1024 (runN s q e 6).1 (runN s q e 6).2).1⟩, (stepT s 1024 (runN s q e 6).1 (runN s q e 6).2).2) := by
  unfold recP; rw [if_pos hv]
theorem rec_four {s T : ByteArray} {q : Int} {e : Nat} (hv : valN s q e 3 ≠ 3) : recP s (T, q, e) = (⟨T, ⟨valN s q e 0, valN s q e 1, valN s q e 2⟩, valN s q e 3, 0, 0, ⟨#[]⟩⟩, runN s q e 4) := by
  unfold recP; rw [if_neg hv]
theorem out_fault {r : R} {x : Int × Nat} {f : Nat} (h : x.2 = f) (hf : f ≠ 0) : outR (r, x) = (zeroR, 0, f) := by
  unfold outR
  rw [if_neg (by show x.2 ≠ 0; omega)]
  show (zeroR, (0 : Int), x.2) = _
  rw [h]
theorem out_may {r : R} {i : Int} : outR (r, i, 0) = if mayR r = true then (r, i, 0) else (zeroR, 0, 3) := by
  unfold outR; rw [if_pos rfl]
theorem get_fault {s : ByteArray} {p : Int} {T : ByteArray} {q : Int} (hT : stepT s 250 p 0 = (T, q, 0)) {k f : Nat} (h : (runN s q 0 (k + 1)).2 = f) (hf : f ≠ 0) (hk : k + 1 ≤ 4 ∨ (k + 1 ≤ 6 ∧ valN s q 0 3 = 3)) : getR s p = (zeroR, 0, f) := by
  rw [getR_of hT]
  have st := run_stays s q 0 (k + 1) (by omega)
  by_cases hv : valN s q 0 3 = 3
  · rw [rec_six hv]
    have h6 : (runN s q 0 6).2 = f := by
      have := st (6 - (k + 1))
      rw [show k + 1 + (6 - (k + 1)) = 6 by omega] at this
      rw [this, h]
    refine out_fault ?_ hf
    unfold stepT
    rw [if_neg (by omega)]
    exact h6
  · rw [rec_four hv]
    have h4 : (runN s q 0 4).2 = f := by
      have := st (4 - (k + 1))
      rw [show k + 1 + (4 - (k + 1)) = 4 by omega] at this
      rw [this, h]
    exact out_fault h4 hf
theorem get_four {s : ByteArray} {p : Int} {T : ByteArray} {q : Int} (hT : stepT s 250 p 0 = (T, q, 0)) (hv : valN s q 0 3 ≠ 3) {i : Int} (h : runN s q 0 4 = (i, 0)) :
    getR s p = if mayR ⟨T, ⟨valN s q 0 0, valN s q 0 1, valN s q 0 2⟩, valN s q 0 3, 0, 0, ⟨#[]⟩⟩ = true then (⟨T, ⟨valN s q 0 0, valN s q 0 1, valN s q 0 2⟩, valN s q 0 3, 0, 0, ⟨#[]⟩⟩, i, 0) else (zeroR, 0, 3) := by
  rw [getR_of hT, rec_four hv, h, out_may]
theorem get_six_bad {s : ByteArray} {p : Int} {T : ByteArray} {q : Int} (hT : stepT s 250 p 0 = (T, q, 0)) (hv : valN s q 0 3 = 3) {i : Int} (h : runN s q 0 6 = (i, 0)) {D : ByteArray} {t f : Nat} (hg : getT s i 1024 = (D, t, f)) (hf : f ≠ 0) :
    getR s p = (zeroR, 0, f) := by
  rw [getR_of hT, rec_six hv, h]
  refine out_fault ?_ hf
  unfold stepT
  rw [if_pos rfl, hg]
theorem get_six {s : ByteArray} {p : Int} {T : ByteArray} {q : Int} (hT : stepT s 250 p 0 = (T, q, 0)) (hv : valN s q 0 3 = 3) {i : Int} (h : runN s q 0 6 = (i, 0)) {D : ByteArray} {t : Nat} (hg : getT s i 1024 = (D, t, 0)) :
    getR s p = if mayR ⟨T, ⟨valN s q 0 0, valN s q 0 1, valN s q 0 2⟩, valN s q 0 3, valN s q 0 4, valN s q 0 5, D⟩ = true then (⟨T, ⟨valN s q 0 0, valN s q 0 1, valN s q 0 2⟩, valN s q 0 3, valN s q 0 4, valN s q 0 5, D⟩, (t : Int), 0) else (zeroR, 0, 3) := by
  have e : stepT s 1024 i 0 = (D, (t : Int), 0) := by unfold stepT; rw [if_pos rfl, hg]
  rw [getR_of hT, rec_six hv, h, e, out_may]
theorem get_text {s : ByteArray} {p : Int} {T : ByteArray} {q : Int} {e : Nat} (hT : stepT s 250 p 0 = (T, q, e)) (he : e ≠ 0) : getR s p = (zeroR, 0, e) := by
  rw [getR_of hT]
  have h3 : (runN s q e 3).2 = e := run_stays s q e 0 he 3
  have h4 : (runN s q e 4).2 = e := run_stays s q e 0 he 4
  have hv : valN s q e 3 ≠ 3 := by
    unfold valN
    rw [stepN_fault _ _ _ _ (by rw [h3]; exact he)]
    show (0 : Nat) ≠ 3
    omega
  rw [rec_four hv]
  exact out_fault h4 he
/- One step. -/
theorem step_bad {s : ByteArray} {q : Int} {k : Nat} {i : Int} (h : runN s q 0 k = (i, 0)) {v t f : Nat} (hg : getN s i = (v, t, f)) (hf : f ≠ 0) : (runN s q 0 (k + 1)).2 = f := by
  show (stepN s (mostOf k) (runN s q 0 k).1 (runN s q 0 k).2).2.2 = f
  rw [h]
  unfold stepN
  simp only [hg]
  rw [if_pos trivial, if_neg hf]
theorem step_big {s : ByteArray} {q : Int} {k : Nat} {i : Int} (h : runN s q 0 k = (i, 0)) {v t : Nat} (hg : getN s i = (v, t, 0)) (hm : mostOf k < v) : (runN s q 0 (k + 1)).2 = 3 := by
  show (stepN s (mostOf k) (runN s q 0 k).1 (runN s q 0 k).2).2.2 = 3
  rw [h]
  unfold stepN
  simp only [hg]
  rw [if_pos trivial, if_pos trivial, if_pos hm]
theorem step_good {s : ByteArray} {q : Int} {k : Nat} {i : Int} (h : runN s q 0 k = (i, 0)) {v t : Nat} (hg : getN s i = (v, t, 0)) (hm : ¬ mostOf k < v) : runN s q 0 (k + 1) = ((t : Int), 0) ∧ valN s q 0 k = v := by
  have e : stepN s (mostOf k) i 0 = (v, (t : Int), 0) := by
    unfold stepN
    simp only [hg]
    rw [if_pos trivial, if_pos trivial, if_neg hm]
  exact run_next h e
/- The row of the numbers that are read. -/
def arrN (V : Nat → Nat) (k : Nat) : Array Value := #[.int .u64 ((if 0 < k then V 0 else 0 : Nat) : Int), .int .u64 ((if 1 < k then V 1 else 0 : Nat) : Int), .int .u64 ((if 2 < k then V 2 else 0 : Nat) : Int), .int .u64 ((if 3 < k then V 3 else 0 : Nat) : Int), .int .u64 ((if 4 < k then V 4 else 0 : Nat) : Int), .int .u64 ((if 5 < k then V 5 else 0 : Nat) : Int)]
def arrM : Array Value := #[.int .u64 18446744073709551615, .int .u64 4294967295, .int .u64 255, .int .u64 255, .int .u64 4294967295, .int .u64 18446744073709551615]
theorem arrM_cell {k : Nat} (h : k < 6) : arrM[k]? = some (.int .u64 (mostOf k : Int)) := by
  match k, h with
  | 0, _ => rfl
  | 1, _ => rfl
  | 2, _ => rfl
  | 3, _ => rfl
  | 4, _ => rfl
  | 5, _ => rfl
theorem arrN_cell {V : Nat → Nat} {k : Nat} (h : k < 6) : (arrN V k)[k]? = some (.int .u64 0) := by
  match k, h with
  | 0, _ => rfl
  | 1, _ => rfl
  | 2, _ => rfl
  | 3, _ => rfl
  | 4, _ => rfl
  | 5, _ => rfl
theorem arrN_next {V : Nat → Nat} {k : Nat} (h : k < 6) : (arrN V k).setIfInBounds k (.int .u64 (V k : Int)) = arrN V (k + 1) := by
  match k, h with
  | 0, _ => rfl
  | 1, _ => rfl
  | 2, _ => rfl
  | 3, _ => rfl
  | 4, _ => rfl
  | 5, _ => rfl
theorem rec_okay {s T : ByteArray} {q : Int} (h : T.size ≤ maxLen) {a b : Nat} {D : ByteArray} (hD : D.size ≤ maxLen) (ha : a ≤ 4294967295) (hb : b ≤ 18446744073709551615) : R.ok ⟨T, ⟨valN s q 0 0, valN s q 0 1, valN s q 0 2⟩, valN s q 0 3, a, b, D⟩ := by
  have b0 : valN s q 0 0 ≤ 18446744073709551615 := val_le s q 0 0
  have b1 : valN s q 0 1 ≤ 4294967295 := val_le s q 0 1
  have b2 : valN s q 0 2 ≤ 255 := val_le s q 0 2
  have b3 : valN s q 0 3 ≤ 255 := val_le s q 0 3
  refine ⟨h, ?_, ?_, ?_, ?_, hD⟩
  · unfold Stp.ok; simp only; omega
  · simp only; omega
  · simp only; omega
  · simp only; omega
end Go.Proofs.Ytnkfhacmkimncaa
