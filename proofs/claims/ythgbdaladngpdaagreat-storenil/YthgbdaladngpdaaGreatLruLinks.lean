/- A list in memory: its object of one cell, its row of links; and the contracts of the functions that tell its end, whether it may have a number, that take one out and put one first. A list is for 1 to 1024 numbers. -/
import Derived.Test.YthgbdaladngpdaaGreatLruMath
import Derived.Test.YthgbdaladngpdaaGreatState
import Derived.BigQuiet
namespace Go.Proofs.YthgbdaladngpdaaGreat.Lru
open Go.ChangeShapes Go.WideShapes Go.ChangeAt Go.RowKit
set_option linter.unusedVariables false
set_option maxRecDepth 100000
set_option linter.unusedSimpArgs false

theorem says_int {x y : Int} (e : x = y) : Ending.returned (.int .i64 x) = Ending.returned (.int .i64 y) := congrArg (fun z => Ending.returned (.int .i64 z)) e
theorem says_bool {x y : Bool} (e : x = y) : Ending.returned (.bool x) = Ending.returned (.bool y) := congrArg (fun z => Ending.returned (.bool z)) e
theorem kept_drewN {W w : World} (h : Kept W w) (n : Nat) : Kept W (w.drewN n) := h
theorem turn_drewN {c : Nat} {W w : World} (h : Turn c W w) (n : Nat) : Turn c W (w.drewN n) := h
theorem at_cells1 {w : World} {X T : Nat} {a0 : Value} (h : At w X #[a0] T) : w.cell? ⟨X, 0, none⟩ = some a0 ∧ ∀ j, w.frozen? ⟨X, j, none⟩ = false := ⟨at_cell h 0, at_frozen h⟩
theorem at_cells2 {w : World} {X T : Nat} {a0 a1 : Value} (h : At w X #[a0, a1] T) : w.cell? ⟨X, 0, none⟩ = some a0 ∧ w.cell? ⟨X, 1, none⟩ = some a1 ∧ ∀ j, w.frozen? ⟨X, j, none⟩ = false := ⟨at_cell h 0, at_cell h 1, at_frozen h⟩

def RowL (w : World) (R n : Nat) (A B : Nat → Nat) : Prop :=
  ∃ cs, At w R cs 135 ∧ cs.size = (n + 1) * 2 ∧ ∀ i, i ≤ n → cs[i * 2]? = some (.int .i64 (A i : Int)) ∧ cs[i * 2 + 1]? = some (.int .i64 (B i : Int))
section
variable {w w' : World} {R n : Nat} {A B : Nat → Nat}
theorem row_lt (h : RowL w R n A B) : R < w.heap.size := by obtain ⟨cs, h, _⟩ := h; exact at_lt h
theorem row_block (h : RowL w R n A B) (e : w'.heap[R]? = w.heap[R]?) : RowL w' R n A B := by
  obtain ⟨cs, h, g⟩ := h
  exact ⟨cs, e.trans h, g⟩
theorem row_kept (h : RowL w R n A B) (k : Kept w w') : RowL w' R n A B := row_block h (kept_block k (row_lt h))
theorem row_cells (h : RowL w R n A B) {i : Nat} (hi : i ≤ n) : w.cell? ⟨R, i * 2, none⟩ = some (.int .i64 (A i : Int)) ∧ w.cell? ⟨R, i * 2 + 1, none⟩ = some (.int .i64 (B i : Int)) ∧ ∀ j, w.frozen? ⟨R, j, none⟩ = false := by
  obtain ⟨cs, h, _, g⟩ := h
  obtain ⟨g0, g1⟩ := g i hi
  exact ⟨(at_cell h _).trans g0, (at_cell h _).trans g1, at_frozen h⟩
/- One side of a link stored, a whole link stored. -/
theorem row_setA (h : RowL w R n A B) {a : Nat} (ha : a ≤ n) (v : Nat) : RowL (w.setCell ⟨R, a * 2, none⟩ (.int .i64 (v : Int))) R n (upd A a v) B := by
  obtain ⟨cs, h, hs, g⟩ := h
  refine ⟨_, at_set h _ _, by simpa using hs, fun i hi => ?_⟩
  obtain ⟨g0, g1⟩ := g i hi
  by_cases e : i = a
  · subst e
    rw [upd_at]
    refine ⟨?_, ?_⟩
    · rw [Array.getElem?_setIfInBounds, if_pos rfl, if_pos (by omega)]
    · rw [Array.getElem?_setIfInBounds, if_neg (by omega)]; exact g1
  · rw [upd_ne _ _ e]
    refine ⟨?_, ?_⟩ <;> (rw [Array.getElem?_setIfInBounds, if_neg (by omega)]; assumption)
theorem row_setB (h : RowL w R n A B) {a : Nat} (ha : a ≤ n) (v : Nat) : RowL (w.setCell ⟨R, a * 2 + 1, none⟩ (.int .i64 (v : Int))) R n A (upd B a v) := by
  obtain ⟨cs, h, hs, g⟩ := h
  refine ⟨_, at_set h _ _, by simpa using hs, fun i hi => ?_⟩
  obtain ⟨g0, g1⟩ := g i hi
  by_cases e : i = a
  · subst e
    rw [upd_at]
    refine ⟨?_, ?_⟩
    · rw [Array.getElem?_setIfInBounds, if_neg (by omega)]; exact g0
    · rw [Array.getElem?_setIfInBounds, if_pos rfl, if_pos (by omega)]
  · rw [upd_ne _ _ e]
    refine ⟨?_, ?_⟩ <;> (rw [Array.getElem?_setIfInBounds, if_neg (by omega)]; assumption)
end
/- The program's list. -/
def Lst (w : World) (X R n : Nat) (A B : Nat → Nat) : Prop := At w X #[.slice (some ⟨R, 0, none⟩) (n + 1) (n + 1)] 137 ∧ RowL w R n A B
section
variable {w w' : World} {X R n : Nat} {A B : Nat → Nat}
theorem lst_kept (h : Lst w X R n A B) (k : Kept w w') : Lst w' X R n A B := ⟨at_kept h.1 k, row_kept h.2 k⟩
theorem lst_drew (h : Lst w X R n A B) : Lst w.drew X R n A B := h
theorem lst_ne (h : Lst w X R n A B) : X ≠ R := by
  obtain ⟨cs, hr, _⟩ := h.2
  exact at_ne h.1 hr (by decide)
theorem lst_setA (h : Lst w X R n A B) {a : Nat} (ha : a ≤ n) (v : Nat) : Lst (w.setCell ⟨R, a * 2, none⟩ (.int .i64 (v : Int))) X R n (upd A a v) B := ⟨at_other h.1 (lst_ne h) _ _, row_setA h.2 ha v⟩
theorem lst_setB (h : Lst w X R n A B) {a : Nat} (ha : a ≤ n) (v : Nat) : Lst (w.setCell ⟨R, a * 2 + 1, none⟩ (.int .i64 (v : Int))) X R n A (upd B a v) := ⟨at_other h.1 (lst_ne h) _ _, row_setB h.2 ha v⟩
theorem lst_cells (h : Lst w X R n A B) {i : Nat} (hi : i ≤ n) : w.cell? ⟨X, 0, none⟩ = some (.slice (some ⟨R, 0, none⟩) (n + 1) (n + 1)) ∧ w.cell? ⟨R, i * 2, none⟩ = some (.int .i64 (A i : Int)) ∧ w.cell? ⟨R, i * 2 + 1, none⟩ = some (.int .i64 (B i : Int)) ∧ (∀ j, w.frozen? ⟨X, j, none⟩ = false) ∧ ∀ j, w.frozen? ⟨R, j, none⟩ = false := by
  obtain ⟨c0, cf⟩ := at_cells1 h.1
  obtain ⟨r0, r1, rf⟩ := row_cells h.2 hi
  exact ⟨c0, r0, r1, cf, rf⟩
end
set_option maxHeartbeats 800000 in
theorem end_any {X R n : Nat} {A B : Nat → Nat} (hn : n ≤ 1024) (w : World) (h : Lst w X R n A B) :
    Calls Tryz.prog 105 #[.pointer (some ⟨X, 0, none⟩)] w fun e w' => e = .returned (.int .i64 (n : Int)) ∧ w' = w := by
  obtain ⟨c0, cf⟩ := at_cells1 h.1
  clear h
  go_enter Tryz.func105, Tryz.ntmps105
  go_wp2_with fail
  go_ret
  exact ⟨says_int (by omega), rfl⟩
theorem may_nil (i : Int) (w : World) : Calls Tryz.prog 82 #[.pointer none, .int .i64 i] w fun e w' => e = .returned (.bool false) ∧ w' = w := by
  go_enter Tryz.func82, Tryz.ntmps82
  go_wp2_with fail
  go_ret
  exact ⟨rfl, rfl⟩
set_option maxHeartbeats 800000 in
theorem may_any {X R n : Nat} {A B : Nat → Nat} (hn : n ≤ 1024) (i : Int) (w : World) (h : Lst w X R n A B) :
    Calls Tryz.prog 82 #[.pointer (some ⟨X, 0, none⟩), .int .i64 i] w fun e w' => e = .returned (.bool (decide (0 ≤ i ∧ i < (n : Int)))) ∧ w' = w := by
  have hE := end_any hn w h
  clear h
  by_cases h0 : 0 ≤ i
  · have e : decide (i < (n : Int)) = decide (0 ≤ i ∧ i < (n : Int)) := by simp [h0]
    have HE := hid e
    clear e
    go_enter Tryz.func82, Tryz.ntmps82
    go_wp2_with fail
    refine hE.mono ?_
    rintro e w1 ⟨rfl, rfl⟩
    go_wp2_with fail
    go_ret
    exact ⟨says_bool HE.out, rfl⟩
  · have e : false = decide (0 ≤ i ∧ i < (n : Int)) := by simp [h0]
    have HE := hid e
    have h1 : decide (0 ≤ i) = false := by simpa using h0
    clear e h0 hE
    go_enter Tryz.func82, Tryz.ntmps82
    go_wp2_with fail
    go_ret
    exact ⟨says_bool HE.out, rfl⟩
set_option maxHeartbeats 1600000 in
theorem out_any {X R n : Nat} {A B : Nat → Nat} (hn : n ≤ 1024) (i : Nat) (hi : i ≤ n) (ha : A i ≤ n) (hb : B i ≤ n) (w : World) (h : Lst w X R n A B) :
    Calls Tryz.prog 83 #[.pointer (some ⟨X, 0, none⟩), .int .i64 (i : Int)] w fun e w' => e = .returned (.tuple #[]) ∧ Turn R w w' ∧ Lst w' X R n (upd (upd A (B i) (A i)) i i) (upd (upd B (A i) (B i)) i i) := by
  obtain ⟨c0, r0, r1, cf, rf⟩ := lst_cells h hi
  have HL := hid h
  clear h
  generalize A i = a at *
  generalize B i = b at *
  go_enter Tryz.func83, Tryz.ntmps83
  go_wp2_with fail
  go_quiet (fail)
  replace HL := hid (lst_kept HL.out (kept_drewN (kept_refl w) nq))
  have HT := hid (turn_drewN (Turn.refl R w) nq)
  clear c0 r0 r1 cf rf
  generalize w.drewN nq = w1 at *
  obtain ⟨w2, hw2⟩ : ∃ w2, w1.setCell ⟨R, a * 2 + 1, none⟩ (.int .i64 (b : Int)) = w2 := ⟨_, rfl⟩
  obtain ⟨w3, hw3⟩ : ∃ w3, w2.setCell ⟨R, b * 2, none⟩ (.int .i64 (a : Int)) = w3 := ⟨_, rfl⟩
  obtain ⟨w4, hw4⟩ : ∃ w4, w3.setCell ⟨R, i * 2, none⟩ (.int .i64 (i : Int)) = w4 := ⟨_, rfl⟩
  obtain ⟨w5, hw5⟩ : ∃ w5, w4.setCell ⟨R, i * 2 + 1, none⟩ (.int .i64 (i : Int)) = w5 := ⟨_, rfl⟩
  have L2 := lst_setB HL.out ha b
  rw [hw2] at L2
  have L3 := lst_setA L2 hb a
  rw [hw3] at L3
  have L4 := lst_setA L3 hi i
  rw [hw4] at L4
  have L5 := hid (lst_setB L4 hi i)
  rw [hw5] at L5
  have T2 := turn_set HT.out (a * 2 + 1) (.int .i64 (b : Int))
  rw [hw2] at T2
  have T3 := turn_set T2 (b * 2) (.int .i64 (a : Int))
  rw [hw3] at T3
  have T4 := turn_set T3 (i * 2) (.int .i64 (i : Int))
  rw [hw4] at T4
  have T5 := hid (turn_set T4 (i * 2 + 1) (.int .i64 (i : Int)))
  rw [hw5] at T5
  obtain ⟨x0, x1, x2, x3, x4⟩ := lst_cells HL.out ha
  obtain ⟨y0, y1, y2, y3, y4⟩ := lst_cells L2 hb
  obtain ⟨z0, z1, z2, z3, z4⟩ := lst_cells L3 hi
  obtain ⟨v0, v1, v2, v3, v4⟩ := lst_cells L4 hi
  clear L2 L3 L4 T2 T3 T4 HL HT
  go_wp2_with fail
  exact bodyPost_end (v := .tuple #[]) (by kernel_rfl) rfl ⟨rfl, T5.out, L5.out⟩
set_option maxHeartbeats 1600000 in
theorem put_any {X R n : Nat} {A B : Nat → Nat} (hn : n ≤ 1024) (i : Nat) (hi : i ≤ n) (hb : B n ≤ n) (w : World) (h : Lst w X R n A B) :
    Calls Tryz.prog 84 #[.pointer (some ⟨X, 0, none⟩), .int .i64 (i : Int)] w fun e w' => e = .returned (.tuple #[]) ∧ Turn R w w' ∧ Lst w' X R n (upd (upd A i n) (B n) i) (upd (upd B i (B n)) n i) := by
  obtain ⟨c0, r0, r1, cf, rf⟩ := lst_cells h (Nat.le_refl n)
  have hE := end_any hn w h
  have HL := hid h
  have HT := hid (Turn.refl R w)
  clear h
  generalize B n = b at *
  go_enter Tryz.func84, Tryz.ntmps84
  go_wp2_with fail
  refine hE.mono ?_
  rintro e w1 ⟨rfl, rfl⟩
  clear hE
  obtain ⟨w2, hw2⟩ : ∃ w2, w1.setCell ⟨R, i * 2, none⟩ (.int .i64 (n : Int)) = w2 := ⟨_, rfl⟩
  obtain ⟨w3, hw3⟩ : ∃ w3, w2.setCell ⟨R, i * 2 + 1, none⟩ (.int .i64 (b : Int)) = w3 := ⟨_, rfl⟩
  obtain ⟨w4, hw4⟩ : ∃ w4, w3.setCell ⟨R, n * 2 + 1, none⟩ (.int .i64 (i : Int)) = w4 := ⟨_, rfl⟩
  obtain ⟨w5, hw5⟩ : ∃ w5, w4.setCell ⟨R, b * 2, none⟩ (.int .i64 (i : Int)) = w5 := ⟨_, rfl⟩
  have L2 := lst_setA HL.out hi n
  rw [hw2] at L2
  have L3 := lst_setB L2 hi b
  rw [hw3] at L3
  have L4 := lst_setB L3 (Nat.le_refl n) i
  rw [hw4] at L4
  have L5 := hid (lst_setA L4 hb i)
  rw [hw5] at L5
  have T2 := turn_set HT.out (i * 2) (.int .i64 (n : Int))
  rw [hw2] at T2
  have T3 := turn_set T2 (i * 2 + 1) (.int .i64 (b : Int))
  rw [hw3] at T3
  have T4 := turn_set T3 (n * 2 + 1) (.int .i64 (i : Int))
  rw [hw4] at T4
  have T5 := hid (turn_set T4 (b * 2) (.int .i64 (i : Int)))
  rw [hw5] at T5
  obtain ⟨x0, x1, x2, x3, x4⟩ := lst_cells HL.out hi
  obtain ⟨y0, y1, y2, y3, y4⟩ := lst_cells L2 hi
  obtain ⟨z0, z1, z2, z3, z4⟩ := lst_cells L3 (Nat.le_refl n)
  obtain ⟨v0, v1, v2, v3, v4⟩ := lst_cells L4 hb
  clear L2 L3 L4 T2 T3 T4 HL HT
  go_wp2_with fail
  exact bodyPost_end (v := .tuple #[]) (by kernel_rfl) rfl ⟨rfl, T5.out, L5.out⟩
end Go.Proofs.YthgbdaladngpdaaGreat.Lru
