/- The plain mathematics of records as bytes: what is put, what is got, and that both ways fit together. No condition but those that are stated. -/
import Derived.Test.YtnkfhacmkimncabNumPut
import Derived.Test.YtnkfhacmkimncabRec
namespace Go.Proofs.Ytnkfhacmkimncab
set_option linter.unusedVariables false
set_option linter.unusedSimpArgs false

def encB (n : Nat) : ByteArray := ⟨(enc n).toArray⟩
def encI (x : Int) : ByteArray := encB x.toNat
def headB (r : R) : ByteArray := textE r.key ++ encI r.s.p ++ encI r.s.l ++ encI r.s.n ++ encI r.kind
def tailB (r : R) : ByteArray := encI r.flags ++ encI r.exp ++ textE r.body
def putR (r : R) : ByteArray := if r.kind = 3 then headB r ++ tailB r else headB r
theorem encB_size (n : Nat) : (encB n).size ≤ 8 := by
  show (enc n).toArray.size ≤ 8
  simp [enc_length]
  exact (wide_pos _).2
theorem encI_size (x : Int) : (encI x).size ≤ 8 := encB_size _

theorem textE_size (t : ByteArray) : (textE t).size = wide (kindOf t.size) + t.size := by
  unfold textE
  rw [ByteArray.size_append]
  congr 1
  exact enc_length _
theorem may_facts {r : R} (hr : 0 ≤ r.s.p ∧ 0 ≤ r.s.l ∧ 0 ≤ r.s.n ∧ 0 ≤ r.flags ∧ 0 ≤ r.exp) (h : mayR r = true) :
    (1 ≤ r.key.size ∧ r.key.size ≤ 250) ∧ r.s.p ≤ 281474976710655 ∧ r.s.n < 64 ∧ (r.kind = 1 ∨ r.kind = 2 ∨ r.kind = 3) ∧ r.exp ≤ 281474976710655 ∧ r.body.size ≤ 1024 ∧ (r.kind ≠ 3 → r.flags = 0 ∧ r.exp = 0 ∧ r.body.size = 0) := by
  unfold mayR keyMay stampMay contentMay at h
  simp only [Bool.and_eq_true, decide_eq_true_eq] at h
  obtain ⟨⟨⟨k1, k2⟩, -⟩, ⟨s1, s2⟩, c⟩ := h
  split at c
  · rename_i hk
    simp only [Bool.and_eq_true, decide_eq_true_eq] at c
    exact ⟨⟨k1, k2⟩, s1, s2, by omega, by omega, by omega, fun _ => c⟩
  · split at c
    · simp only [Bool.and_eq_true, decide_eq_true_eq] at c
      exact ⟨⟨k1, k2⟩, s1, s2, by omega, by omega, by omega, fun h => by omega⟩
    · simp at c
theorem nat_of {x : Int} (h : 0 ≤ x) : ∃ n : Nat, x = n := ⟨x.toNat, by omega⟩
end Go.Proofs.Ytnkfhacmkimncab
