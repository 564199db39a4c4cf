/- Two arrays of 64 numbers laid side by side, as a law does it: each new, then stored whole. -/
import Derived.Test.YtpfelbbhhoilpaaOf
namespace Go.Proofs.Ytpfelbbhhoilpaa
open Go.ChangeShapes Go.WideShapes Go.ChangeAt Go.RowKit
set_option linter.unusedVariables false
set_option linter.unusedSimpArgs false
set_option maxRecDepth 100000

structure Two31 (w w' : World) (A B : Nat) (N M : Nat → Int) (wa wb wc : World) : Prop where
  al : w.alloc (.cells (nv (fun _ => 0) 64) 31) = wa
  bl : wa.alloc (.cells (nv (fun _ => 0) 64) 31) = wb
  ha : w.heap.size = A
  hb : wa.heap.size = B
  st1 : (storeVar 31 ⟨A, 0, none⟩ (.agg (nv N 64))).run Try.prog wb = .ok () wc
  st2 : (storeVar 31 ⟨B, 0, none⟩ (.agg (nv M 64))).run Try.prog wc = .ok () w'
  k : Kept w w'
  a1 : At w' A (nv N 64) 31
  a2 : At w' B (nv M 64) 31
theorem two31 (w : World) (N M : Nat → Int) : ∃ w' A B wa wb wc, Two31 w w' A B N M wa wb wc := by
  have a1 := at_new w (nv (fun _ => 0) 64) 31
  have k1 := kept_alloc (kept_refl w) (.cells (nv (fun _ => 0) 64) 31)
  obtain ⟨wa, hwa⟩ : ∃ wa, w.alloc (.cells (nv (fun _ => 0) 64) 31) = wa := ⟨_, rfl⟩
  rw [hwa] at a1 k1
  have hlt := at_lt a1
  have a2 := at_new wa (nv (fun _ => 0) 64) 31
  have k2 := kept_alloc (kept_refl wa) (.cells (nv (fun _ => 0) 64) 31)
  obtain ⟨wb, hwb⟩ : ∃ wb, wa.alloc (.cells (nv (fun _ => 0) 64) 31) = wb := ⟨_, rfl⟩
  rw [hwb] at a2 k2
  have b1 := at_kept a1 k2
  have kb := kept_trans k1 k2
  have c1 : At (wb.setRow w.heap.size (nv N 64)) w.heap.size (nv N 64) 31 := at_setRow b1
  have c2 : At (wb.setRow w.heap.size (nv N 64)) wa.heap.size (nv (fun _ => 0) 64) 31 := (setRow_other (by omega)).trans a2
  have kc := kept_setRow kb (Nat.le_refl _) (nv N 64)
  refine ⟨(wb.setRow w.heap.size (nv N 64)).setRow wa.heap.size (nv M 64), w.heap.size, wa.heap.size, wa, wb, wb.setRow w.heap.size (nv N 64), hwa, hwb, rfl, rfl, store31 b1, store31 c2, kept_setRow kc k1.2 _, (setRow_other (by omega)).trans c1, at_setRow c2⟩
end Go.Proofs.Ytpfelbbhhoilpaa
