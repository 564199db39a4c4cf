/- The contract of the library's strings.Clone, off the shelf: texts have at most 2^47 bytes. -/
import Derived.Test.YtibidhmahjbciaaState
import Derived.Test.YtibidhmahjbciaaRows
import Derived.Shelf.Pu.Clone
import Derived.Lib.Walk
namespace Go.Proofs.Ytibidhmahjbciaa
open Go.ChangeShapes Go.WideShapes Go.ChangeAt Go.RowKit
set_option linter.unusedVariables false
set_option linter.unusedSimpArgs false
set_option maxRecDepth 100000

/- Where the library's Clone and its types lie in this program. -/
def ren : Go.Shelf.Ren := ⟨fun x => if x = 25 then 24 else x, fun x => if x = 37 then 73 else if x = 47 then 74 else x, fun x => x⟩
theorem laid : Go.Proofs.LaysPu.n25 Try.prog ren :=
  { mixed := by kernel_rfl,
    f25 := by kernel_rfl,
    t0 := by kernel_rfl,
    a0 := fun _ => by kernel_rfl,
    z0 := fun _ => by kernel_rfl,
    v0 := fun _ => by kernel_rfl,
    i0 := by kernel_rfl,
    t3 := by kernel_rfl,
    a3 := fun _ => by kernel_rfl,
    z3 := fun _ => by kernel_rfl,
    v3 := fun _ => by kernel_rfl,
    i3 := by kernel_rfl,
    t4 := by kernel_rfl,
    a4 := fun _ => by kernel_rfl,
    z4 := fun _ => by kernel_rfl,
    v4 := fun _ => by kernel_rfl,
    i4 := by kernel_rfl,
    t5 := by kernel_rfl,
    a5 := fun _ => by kernel_rfl,
    z5 := fun _ => by kernel_rfl,
    v5 := fun _ => by kernel_rfl,
    i5 := by kernel_rfl,
    t9 := by kernel_rfl,
    a9 := fun _ => by kernel_rfl,
    z9 := fun _ => by kernel_rfl,
    v9 := fun _ => by kernel_rfl,
    i9 := by kernel_rfl,
    t37 := by kernel_rfl,
    a37 := fun _ => by kernel_rfl,
    z37 := fun _ => by kernel_rfl,
    v37 := fun _ => by kernel_rfl,
    i37 := by kernel_rfl,
    t47 := by kernel_rfl,
    a47 := fun _ => by kernel_rfl,
    z47 := fun _ => by kernel_rfl,
    v47 := fun _ => by kernel_rfl,
    i47 := by kernel_rfl }
theorem clone_inner (s : ByteArray) (hlim : s.size ≤ 140737488355328) (w : World) : Calls Try.prog 24 #[.string s] w fun e w' => e = .returned (.string s) ∧ Below w.heap.size w w' :=
  AnyPu.stringslite_Clone laid s w (by omega)
theorem clone_any (s : ByteArray) (hlim : s.size ≤ 140737488355328) (w : World) : Calls Try.prog 17 #[.string s] w fun e w' => e = .returned (.string s) ∧ Below w.heap.size w w' := by
  go_enter Try.func17, Try.ntmps17
  go_wp2_with (go_at_call 24; refine (clone_inner s hlim _).mono ?_; rintro e w1 ⟨rfl, hb1⟩)
  go_ret
  exact ⟨rfl, hb1⟩
end Go.Proofs.Ytibidhmahjbciaa
