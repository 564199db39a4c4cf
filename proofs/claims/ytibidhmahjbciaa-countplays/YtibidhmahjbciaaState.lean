/- Blocks of memory that are known whole, and what a call may turn: one block at most (Turn). No condition. -/
import Derived.Test.YtibidhmahjbciaaRows
import Derived.Test.YtibidhmahjbciaaFlat
import Derived.WalkKit
import Derived.ProofKit
import Derived.OpenShut
import Derived.Laws.MakeOwn
import Derived.Laws.ResultCell
import Derived.BigRegion
namespace Go.Proofs.Ytibidhmahjbciaa
open Go.ChangeShapes Go.WideShapes Go.ChangeAt Go.RowKit
set_option linter.unusedVariables false
set_option maxRecDepth 100000
set_option linter.unusedSimpArgs false

theorem kept_below {w w' : World} (h : Below w.heap.size w w') : Kept w w' := kept_of h.os h.output h.size (fun i hi => h.block i hi)
theorem kept_alloc {W w : World} (h : Kept W w) (o : Obj) : Kept W (w.alloc o) := kept_trans h (kept_below ((Below.refl _ w).alloc (Nat.le_refl _) o))
theorem kept_set {W w : World} (h : Kept W w) {X : Nat} (hX : W.heap.size ≤ X) (o : Nat) (v : Value) : Kept W (w.setCell ⟨X, o, none⟩ v) :=
  kept_of (show w.os = W.os from kept_os h) (show w.output = W.output from kept_output h) (by simpa [World.setCell] using h.2) (fun i hi => (Below.heap_setCell _ _ _ _ (by show i ≠ X; omega)).trans (kept_block h hi))
theorem kept_drew {W w : World} (h : Kept W w) : Kept W w.drew := h

def At (w : World) (X : Nat) (cs : Array Value) (T : Nat) : Prop := w.heap[X]? = some (.cells cs T)
section
variable {w w' : World} {X Y T U : Nat} {cs ds : Array Value}
theorem at_lt (h : At w X cs T) : X < w.heap.size := (Array.getElem?_eq_some_iff.1 h).1
theorem at_kept (h : At w X cs T) (k : Kept w w') : At w' X cs T := (kept_block k (at_lt h)).trans h
theorem at_new (w : World) (cs : Array Value) (T : Nat) : At (w.alloc (.cells cs T)) w.heap.size cs T := by
  show (w.heap.push _)[w.heap.size]? = _
  simp
theorem at_alloc (h : At w X cs T) (o : Obj) : At (w.alloc o) X cs T := at_kept h (kept_alloc (kept_refl w) o)
theorem at_drew (h : At w X cs T) : At w.drew X cs T := h
theorem at_ne (h : At w X cs T) (k : At w Y ds U) (hTU : T ≠ U) : X ≠ Y := by
  rintro rfl
  unfold At at h k
  rw [h] at k
  injection k with k
  injection k with k1 k2 k3
  exact hTU k2
theorem at_other (h : At w X cs T) (hn : X ≠ Y) (o : Nat) (v : Value) : At (w.setCell ⟨Y, o, none⟩ v) X cs T := (Below.heap_setCell _ _ _ _ hn).trans h
theorem at_set (h : At w X cs T) (o : Nat) (v : Value) : At (w.setCell ⟨X, o, none⟩ v) X (cs.setIfInBounds o v) T := by
  unfold At at *
  show (w.heap.modify X _)[X]? = _
  rw [Array.getElem?_modify, if_pos rfl, h]
  rfl
theorem at_cell (h : At w X cs T) (o : Nat) : w.cell? ⟨X, o, none⟩ = cs[o]? := by
  unfold At at h
  unfold World.cell?
  rw [h]
  rfl
theorem at_frozen (h : At w X cs T) (o : Nat) : w.frozen? ⟨X, o, none⟩ = false := by
  unfold At at h
  unfold World.frozen?
  rw [h]
  simp
theorem at_cells3 {a0 a1 a2 : Value} (h : At w X #[a0, a1, a2] T) : w.cell? ⟨X, 0, none⟩ = some a0 ∧ w.cell? ⟨X, 1, none⟩ = some a1 ∧ w.cell? ⟨X, 2, none⟩ = some a2 ∧ ∀ j, w.frozen? ⟨X, j, none⟩ = false :=
  ⟨at_cell h 0, at_cell h 1, at_cell h 2, at_frozen h⟩
theorem at_cells5 {a0 a1 a2 a3 a4 : Value} (h : At w X #[a0, a1, a2, a3, a4] T) : w.cell? ⟨X, 0, none⟩ = some a0 ∧ w.cell? ⟨X, 1, none⟩ = some a1 ∧ w.cell? ⟨X, 2, none⟩ = some a2 ∧ w.cell? ⟨X, 3, none⟩ = some a3 ∧ w.cell? ⟨X, 4, none⟩ = some a4 ∧ ∀ j, w.frozen? ⟨X, j, none⟩ = false :=
  ⟨at_cell h 0, at_cell h 1, at_cell h 2, at_cell h 3, at_cell h 4, at_frozen h⟩
theorem at_cells7 {a0 a1 a2 a3 a4 a5 a6 : Value} (h : At w X #[a0, a1, a2, a3, a4, a5, a6] T) : w.cell? ⟨X, 0, none⟩ = some a0 ∧ w.cell? ⟨X, 1, none⟩ = some a1 ∧ w.cell? ⟨X, 2, none⟩ = some a2 ∧ w.cell? ⟨X, 3, none⟩ = some a3 ∧ w.cell? ⟨X, 4, none⟩ = some a4 ∧ w.cell? ⟨X, 5, none⟩ = some a5 ∧ w.cell? ⟨X, 6, none⟩ = some a6 ∧ ∀ j, w.frozen? ⟨X, j, none⟩ = false :=
  ⟨at_cell h 0, at_cell h 1, at_cell h 2, at_cell h 3, at_cell h 4, at_cell h 5, at_cell h 6, at_frozen h⟩
theorem at_cells8 {a0 a1 a2 a3 a4 a5 a6 a7 : Value} (h : At w X #[a0, a1, a2, a3, a4, a5, a6, a7] T) : w.cell? ⟨X, 0, none⟩ = some a0 ∧ w.cell? ⟨X, 1, none⟩ = some a1 ∧ w.cell? ⟨X, 2, none⟩ = some a2 ∧ w.cell? ⟨X, 3, none⟩ = some a3 ∧ w.cell? ⟨X, 4, none⟩ = some a4 ∧ w.cell? ⟨X, 5, none⟩ = some a5 ∧ w.cell? ⟨X, 6, none⟩ = some a6 ∧ w.cell? ⟨X, 7, none⟩ = some a7 ∧ ∀ j, w.frozen? ⟨X, j, none⟩ = false :=
  ⟨at_cell h 0, at_cell h 1, at_cell h 2, at_cell h 3, at_cell h 4, at_cell h 5, at_cell h 6, at_cell h 7, at_frozen h⟩
end

/- One block may have turned, all else that was there stands. -/
def Turn (c : Nat) (w w' : World) : Prop :=
  w'.os = w.os ∧ w'.output = w.output ∧ w.heap.size ≤ w'.heap.size ∧ ∀ k, k < w.heap.size → k ≠ c → w'.heap[k]? = w.heap[k]?
theorem Turn.refl (c : Nat) (w : World) : Turn c w w := ⟨rfl, rfl, Nat.le_refl _, fun _ _ _ => rfl⟩
theorem Turn.trans {c : Nat} {u v w : World} (h : Turn c u v) (k : Turn c v w) : Turn c u w :=
  ⟨k.1.trans h.1, k.2.1.trans h.2.1, Nat.le_trans h.2.2.1 k.2.2.1, fun i hi hn => (k.2.2.2 i (Nat.lt_of_lt_of_le hi h.2.2.1) hn).trans (h.2.2.2 i hi hn)⟩
theorem turn_kept {c : Nat} {w w' : World} (h : Kept w w') : Turn c w w' := ⟨kept_os h, kept_output h, h.2, fun k hk _ => kept_block h hk⟩
theorem turn_set {c : Nat} {u w : World} (h : Turn c u w) (o : Nat) (v : Value) : Turn c u (w.setCell ⟨c, o, none⟩ v) :=
  ⟨h.1, h.2.1, by simpa [World.setCell] using h.2.2.1, fun k hk hn => (Below.heap_setCell _ _ _ _ hn).trans (h.2.2.2 k hk hn)⟩
theorem turn_new {c X : Nat} {u w : World} (h : Turn c u w) (hX : u.heap.size ≤ X) (o : Nat) (v : Value) : Turn c u (w.setCell ⟨X, o, none⟩ v) :=
  ⟨h.1, h.2.1, by simpa [World.setCell] using h.2.2.1, fun k hk hn => (Below.heap_setCell _ _ _ _ (by show k ≠ X; omega)).trans (h.2.2.2 k hk hn)⟩
theorem turn_alloc {c : Nat} {u w : World} (h : Turn c u w) (o : Obj) : Turn c u (w.alloc o) := h.trans (turn_kept (kept_alloc (kept_refl w) o))
theorem turn_drew {c : Nat} {w w' : World} (h : Turn c w w') : Turn c w w'.drew := h
theorem at_turn {w w' : World} {X T c : Nat} {cs : Array Value} (h : At w X cs T) (hT : Turn c w w') (hn : X ≠ c) : At w' X cs T := (hT.2.2.2 X (at_lt h) hn).trans h
theorem kept_turn {W w w' : World} {c : Nat} (h : Kept W w) (hc : W.heap.size ≤ c) (hT : Turn c w w') : Kept W w' :=
  kept_of (hT.1.trans (kept_os h)) (hT.2.1.trans (kept_output h)) (Nat.le_trans h.2 hT.2.2.1) (fun i hi => (hT.2.2.2 i (Nat.lt_of_lt_of_le hi h.2) (by omega)).trans (kept_block h hi))


theorem hid {p : Prop} (h : p) : Hid p := h
/- What is stored is what was there. -/
theorem kept_again {W w : World} (h : Kept W w) {X T o : Nat} {cs : Array Value} {v : Value} (hA : At w X cs T) (he : cs.setIfInBounds o v = cs) : Kept W (w.setCell ⟨X, o, none⟩ v) := by
  refine kept_of (show w.os = W.os from kept_os h) (show w.output = W.output from kept_output h) (by simpa [World.setCell] using h.2) (fun i hi => ?_)
  by_cases hX : i = X
  · subst hX
    have h1 := at_set hA o v
    rw [he] at h1
    have h2 : w.heap[i]? = _ := hA
    rw [← kept_block h hi, h2]
    exact h1
  · exact (Below.heap_setCell _ _ _ _ (by show i ≠ X; exact hX)).trans (kept_block h hi)
end Go.Proofs.Ytibidhmahjbciaa
