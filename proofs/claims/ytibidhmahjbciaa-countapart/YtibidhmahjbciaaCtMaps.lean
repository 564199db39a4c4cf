/- The maps of CountLost: names to numbers. What is looked up in them, and put. They have at most 100000 members. -/
import Derived.Test.YtibidhmahjbciaaCtApart
import Derived.Test.YtibidhmahjbciaaGMap
namespace Go.Proofs.Ytibidhmahjbciaa
open Go.ChangeShapes Go.WideShapes Go.ChangeAt Go.RowKit
set_option linter.unusedVariables false
set_option linter.unusedSimpArgs false
set_option maxRecDepth 100000

def rdN (v : Value) : Option (DataW Unit × List MemPlace) :=
  match v with
  | .int .u64 a => some (.lit (.int .u64 a), [])
  | _ => none
theorem rdN_inv {v : Value} {y : DataW Unit × List MemPlace} (h : rdN v = some y) : ∃ c, v = .int .u64 c ∧ y = (.lit (.int .u64 c), []) := by
  unfold rdN at h
  split at h
  · injection h with h
    exact ⟨_, rfl, h.symm⟩
  · cases h
theorem zeroN (w : World) : (zeroValue 32).run Try.prog w = .ok (.int .u64 0) w := by kernel_rfl
def mapN : MapD ByteArray Int := { t := 44, k := 9, e := 32, kv := .string, kl := klT, ok := fun s => s.size ≤ maxLen, ev := .int .u64, ed := fun x => .lit (.int .u64 x), rd := rdN, z := 0 }
theorem mapN_ok : mapN.Ok Try.prog := {
  und := Try.underlying44
  keyed := Maps.string_keyed Try.underlying9
  key := fun s h => WideMaps.keyOf_string_mk Try.underlying9 h
  inj := klT_inj
  zero := zeroN
  reads := fun _ => rfl
  inv := fun v y ps h => by
    obtain ⟨c, e1, e2⟩ := rdN_inv h
    injection e2 with e2 _
    injection e2 with e2
    injection e2 with _ e2
    rw [e1, e2]
    rfl
  invK := fun key l h => klT_inv Try.underlying9 h
  invV := fun v y h => rdN_inv h }
end Go.Proofs.Ytibidhmahjbciaa
