/- The chapter's example: the law's own function of no argument answers true and turns nothing that was there; and the first of a row that are gone through. -/
import Derived.Test.YtlhceekjhhdbeaaSee
namespace Go.Proofs.Ytlhceekjhhdbeaa
open Go.ChangeShapes Go.WideShapes Go.ChangeAt Go.RowKit
set_option linter.unusedVariables false
set_option linter.unusedSimpArgs false

def k0 : Clk := newK 3 10 2 false
def k1 : Clk := ⟨3, 10, 2, ⟨10, 0, 3⟩, 0⟩
def k2 : Clk := ⟨3, 10, 2, ⟨10, 1, 3⟩, 0⟩
def k3 : Clk := ⟨3, 10, 2, ⟨12, 5, 9⟩, 0⟩
def k4 : Clk := ⟨3, 10, 2, ⟨12, 6, 3⟩, 0⟩
theorem k0_ok : k0.ok := new_ok false (by unfold mayNew; omega) (by omega) (by omega)
theorem n0 : nowK k0 = (⟨10, 0, 3⟩, 0, k1) := rfl
theorem n1 : nowK k1 = (⟨10, 1, 3⟩, 0, k2) := rfl
theorem s2 : seeK k2 ⟨12, 5, 9⟩ = (0, k3) := rfl
theorem n3 : nowK k3 = (⟨12, 6, 3⟩, 0, k4) := rfl
theorem s4 : seeK k4 ⟨13, 0, 0⟩ = (9, k4) := rfl
theorem k1_ok : k1.ok := (now_ok k0_ok).1
theorem k2_ok : k2.ok := (now_ok k1_ok).1
theorem k3_ok : k3.ok := see_ok k2_ok (s := ⟨12, 5, 9⟩) (by unfold Stp.ok; simp)
theorem k4_ok : k4.ok := (now_ok k3_ok).1
theorem at_turn_clock {w w' : World} {X T c : Nat} {cs : Array Value} {k : Clk} (h : At w X cs T) (hT : Turn c w w') (hC : Clock c k w) (hn : T ≠ 57) : At w' X cs T :=
  at_turn h hT (at_ne h hC hn)
set_option maxHeartbeats 1600000 in
set_option maxRecDepth 100000 in
theorem fixed_any (w : World) : Calls Try.prog 9 #[] w fun e w' => e = .returned (.bool true) ∧ Kept w w' := by
  have hz := zero25
  go_enter Try.func9, Try.ntmps9
  go_wp2_with fail
  refine (new_good 3 10 2 false (by unfold mayNew; omega) (by omega) (by omega) _).mono ?_
  rintro e w1 ⟨rfl, K1, C1⟩
  have HW : Hid (w.heap.size ≤ w.heap.size) := Nat.le_refl _
  generalize hc : w.heap.size = c at *
  go_wp2_with fail
  refine (now_any c k0 k0_ok _ C1).mono ?_
  rintro e w2 ⟨rfl, T2, C2⟩
  have K2 : Kept w w2 := kept_turn K1 (Nat.le_of_eq hc) T2
  rw [n0] at C2 ⊢
  clear T2 C1 K1
  have A3 := at_new w2 #[.int .u64 10, .int .u32 0, .int .u8 3] 25
  have K3 := kept_alloc K2 (.cells #[.int .u64 10, .int .u32 0, .int .u8 3] 25)
  have C3 : Clock c k1 (w2.alloc (.cells #[.int .u64 10, .int .u32 0, .int .u8 3] 25)) := at_alloc C2 _
  clear K2 C2
  go_wp2_with fail
  generalize w2.alloc (.cells #[.int .u64 10, .int .u32 0, .int .u8 3] 25) = w3 at *
  generalize w2.heap.size = X at *
  refine (now_any c k1 k1_ok _ C3).mono ?_
  rintro e w4 ⟨rfl, T4, C4⟩
  have K4 : Kept w w4 := kept_turn K3 (Nat.le_of_eq hc) T4
  have A4 := at_turn_clock A3 T4 C3 (by omega)
  rw [n1] at C4 ⊢
  clear A3 T4 C3 K3
  have A5 := at_alloc A4 (.cells #[.int .u64 10, .int .u32 1, .int .u8 3] 25)
  have B5 := at_new w4 #[.int .u64 10, .int .u32 1, .int .u8 3] 25
  have K5 := kept_alloc K4 (.cells #[.int .u64 10, .int .u32 1, .int .u8 3] 25)
  have C5 : Clock c k2 (w4.alloc (.cells #[.int .u64 10, .int .u32 1, .int .u8 3] 25)) := at_alloc C4 _
  clear K4 C4 A4
  go_wp2_with fail
  generalize w4.alloc (.cells #[.int .u64 10, .int .u32 1, .int .u8 3] 25) = w5 at *
  generalize w4.heap.size = Y at *
  refine (see_any c k2 k2_ok ⟨12, 5, 9⟩ _ C5).mono ?_
  rintro e w6 ⟨rfl, T6, C6⟩
  have K6 : Kept w w6 := kept_turn K5 (Nat.le_of_eq hc) T6
  have A6 := at_turn_clock A5 T6 C5 (by omega)
  have B6 := at_turn_clock B5 T6 C5 (by omega)
  rw [s2] at C6 ⊢
  clear A5 B5 T6 C5 K5
  go_wp2_with fail
  refine (now_any c k3 k3_ok _ C6).mono ?_
  rintro e w7 ⟨rfl, T7, C7⟩
  have K7 : Kept w w7 := kept_turn K6 (Nat.le_of_eq hc) T7
  have A7 := at_turn_clock A6 T7 C6 (by omega)
  have B7 := at_turn_clock B6 T7 C6 (by omega)
  rw [n3] at C7 ⊢
  clear A6 B6 T7 C6 K6
  have A8 := at_alloc A7 (.cells #[.int .u64 12, .int .u32 6, .int .u8 3] 25)
  have B8 := at_alloc B7 (.cells #[.int .u64 12, .int .u32 6, .int .u8 3] 25)
  have D8 := at_new w7 #[.int .u64 12, .int .u32 6, .int .u8 3] 25
  have K8 := kept_alloc K7 (.cells #[.int .u64 12, .int .u32 6, .int .u8 3] 25)
  have C8 : Clock c k4 (w7.alloc (.cells #[.int .u64 12, .int .u32 6, .int .u8 3] 25)) := at_alloc C7 _
  obtain ⟨x0, x1, x2, -⟩ := at_cells3 A7
  obtain ⟨y0, y1, y2, -⟩ := at_cells3 B7
  have lx := at_lt A7
  have ly := at_lt B7
  clear K7 C7 A7 B7
  go_wp2_with fail
  refine (see_any c k4 k4_ok ⟨13, 0, 0⟩ _ C8).mono ?_
  rintro e w9 ⟨rfl, T9, C9⟩
  have K9 : Kept w w9 := kept_turn K8 (Nat.le_of_eq hc) T9
  rw [s4]
  go_wp2_with fail
  go_ret
  exact ⟨rfl, K9⟩
end Go.Proofs.Ytlhceekjhhdbeaa
