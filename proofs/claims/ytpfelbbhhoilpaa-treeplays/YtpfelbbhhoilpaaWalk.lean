/- The contract of Walk: the leaves that a walk finds, and how many nodes it looks at. -/
import Derived.Test.YtpfelbbhhoilpaaDown
import Derived.Laws.EntriesVeiled
namespace Go.Proofs.Ytpfelbbhhoilpaa
open Go.ChangeShapes Go.WideShapes Go.ChangeAt Go.RowKit
set_option linter.unusedVariables false
set_option linter.unusedSimpArgs false
set_option maxRecDepth 100000

set_option maxHeartbeats 800000 in
theorem walk_nil1 {Y : Nat} (w : World) : Calls Try.prog 18 #[.pointer none, .pointer (some ⟨Y, 0, none⟩)] w fun e w' => e = .returned (.tuple #[.slice none 0 0, .int .i64 0]) ∧ Kept w w' := by
  have HK := hid (kept_alloc (kept_alloc (kept_refl w) (.cells #[.pointer none] 23)) (.cells #[.pointer (some ⟨Y, 0, none⟩)] 23))
  go_enter Try.func18, Try.ntmps18
  go_wp2_with fail
  go_ret2
  exact ⟨rfl, HK.out⟩
set_option maxHeartbeats 800000 in
theorem walk_nil2 {X : Nat} (w : World) : Calls Try.prog 18 #[.pointer (some ⟨X, 0, none⟩), .pointer none] w fun e w' => e = .returned (.tuple #[.slice none 0 0, .int .i64 0]) ∧ Kept w w' := by
  have HK := hid (kept_alloc (kept_alloc (kept_refl w) (.cells #[.pointer (some ⟨X, 0, none⟩)] 23)) (.cells #[.pointer none] 23))
  go_enter Try.func18, Try.ntmps18
  go_wp2_with fail
  go_ret2
  exact ⟨rfl, HK.out⟩
/- What Walk answers and leaves. -/
def WalkC (N M : Nat → Int) (w : World) (e : Ending) (w' : World) : Prop := ∃ v, e = .returned (.tuple #[v, .int .i64 (cn N M 1 : Int)]) ∧ Own .i64 3 w' w.heap.size v (cs (wk N M 1)) ∧ Kept w w'
theorem zero40 (w : World) : (zeroValue 40).run Try.prog w = .ok (.slice none 0 0) w := by kernel_rfl
set_option maxHeartbeats 1600000 in
theorem walk_any {X Y : Nat} {N M : Nat → Int} (w : World) (hX : Nd w X N) (hY : Nd w Y M) : Calls Try.prog 18 #[.pointer (some ⟨X, 0, none⟩), .pointer (some ⟨Y, 0, none⟩)] w (WalkC N M w) := by
  have hmf : ∀ (fn : Fn) (first cap : Array Value) (w : World), (Instr.makeFunc fn first cap).run Try.prog w = .ok (.func fn first cap) w := fun _ _ _ _ => rfl
  have hz := zero40
  obtain ⟨P2, hP2⟩ : ∃ P, w.heap.size = P := ⟨_, rfl⟩
  obtain ⟨w1, hw1⟩ : ∃ w1, w.alloc (.cells #[.pointer (some ⟨X, 0, none⟩)] 23) = w1 := ⟨_, rfl⟩
  have a1 := at_new w #[.pointer (some ⟨X, 0, none⟩)] 23
  have k1 := kept_alloc (kept_refl w) (.cells #[.pointer (some ⟨X, 0, none⟩)] 23)
  have s1 : w1.heap.size = P2 + 1 := by rw [← hw1, ← hP2]; simp
  rw [hw1] at a1 k1
  rw [hP2] at a1
  obtain ⟨P3, hP3⟩ : ∃ P, w1.heap.size = P := ⟨_, rfl⟩
  obtain ⟨w2, hw2⟩ : ∃ w2, w1.alloc (.cells #[.pointer (some ⟨Y, 0, none⟩)] 23) = w2 := ⟨_, rfl⟩
  have a2 := at_new w1 #[.pointer (some ⟨Y, 0, none⟩)] 23
  have k2 := kept_alloc (kept_refl w1) (.cells #[.pointer (some ⟨Y, 0, none⟩)] 23)
  have s2 : w2.heap.size = P3 + 1 := by rw [← hw2, ← hP3]; simp
  rw [hw2] at a2 k2
  rw [hP3] at a2
  obtain ⟨P4, hP4⟩ : ∃ P, w2.heap.size = P := ⟨_, rfl⟩
  obtain ⟨w3, hw3⟩ : ∃ w3, w2.alloc (.cells #[.slice none 0 0] 40) = w3 := ⟨_, rfl⟩
  have a3 := at_new w2 #[.slice none 0 0] 40
  have k3 := kept_alloc (kept_refl w2) (.cells #[.slice none 0 0] 40)
  have s3 : w3.heap.size = P4 + 1 := by rw [← hw3, ← hP4]; simp
  rw [hw3] at a3 k3
  rw [hP4] at a3
  obtain ⟨P1, hP1⟩ : ∃ P, w3.heap.size = P := ⟨_, rfl⟩
  obtain ⟨w4, hw4⟩ : ∃ w4, w3.alloc (.cells #[.int .i64 0] 3) = w4 := ⟨_, rfl⟩
  have a4 := at_new w3 #[.int .i64 0] 3
  have k4 := kept_alloc (kept_refl w3) (.cells #[.int .i64 0] 3)
  have s4 : w4.heap.size = P1 + 1 := by rw [← hw4, ← hP1]; simp
  rw [hw4] at a4 k4
  rw [hP1] at a4
  have a4' : At (w4.setCell ⟨P1, 0, none⟩ (.int .i64 0)) P1 #[.int .i64 0] 3 := at_set a4 0 _
  have k4' : Kept w3 (w4.setCell ⟨P1, 0, none⟩ (.int .i64 0)) := kept_set k4 (by omega) _ _
  have s4' : (w4.setCell ⟨P1, 0, none⟩ (.int .i64 0)).heap.size = P1 + 1 := by simpa [World.setCell] using s4
  obtain ⟨b0, bf⟩ : w4.cell? ⟨P1, 0, none⟩ = some (.int .i64 0) ∧ ∀ j, w4.frozen? ⟨P1, j, none⟩ = false := ⟨at_cell a4 0, at_frozen a4⟩
  obtain ⟨w5, hw5⟩ : ∃ w5, w4.setCell ⟨P1, 0, none⟩ (.int .i64 0) = w5 := ⟨_, rfl⟩
  rw [hw5] at a4' k4' s4'
  obtain ⟨P5, hP5⟩ : ∃ P, w5.heap.size = P := ⟨_, rfl⟩
  obtain ⟨w6, hw6⟩ : ∃ w6, w5.alloc (.cells #[.nilFunc] 55) = w6 := ⟨_, rfl⟩
  have a6 := at_new w5 #[.nilFunc] 55
  have k6 := kept_alloc (kept_refl w5) (.cells #[.nilFunc] 55)
  have s6 : w6.heap.size = P5 + 1 := by rw [← hw6, ← hP5]; simp
  rw [hw6] at a6 k6
  rw [hP5] at a6
  obtain ⟨w7, hw7⟩ : ∃ w7, w6.setCell ⟨P5, 0, none⟩ (clo P1 P2 P3 P4 P5) = w7 := ⟨_, rfl⟩
  have a7 := at_set a6 0 (clo P1 P2 P3 P4 P5)
  rw [hw7] at a7
  have k7 : Kept w5 w7 := by rw [← hw7]; exact kept_set k6 (by omega) _ _
  have s7 : w7.heap.size = P5 + 1 := by rw [← hw7]; simpa [World.setCell] using s6
  have kA : Kept w3 w7 := kept_trans k4' k7
  have kB : Kept w2 w7 := kept_trans k3 kA
  have kC : Kept w1 w7 := kept_trans k2 kB
  have kD : Kept w w7 := kept_trans k1 kC
  have hXl := at_lt hX
  have hYl := at_lt hY
  have HD : Hid (Dn w7 (P5 + 1) P1 P2 P3 P4 P5 X Y N M 0 (.slice none 0 0) []) := hid ⟨at_kept a4' k7, at_kept a1 kC, at_kept a2 kB, at_kept a3 kA, a7, own_nil _ _ _ _, nd_kept hX kD, nd_kept hY kD, by omega, by omega, by omega, by omega, by omega, by omega, by omega, by omega⟩
  have HW := hid (wk_all N M)
  have HC := hid (down_any (P5 + 1) P1 P2 P3 P4 P5 X Y N M 6 1 (by omega) (by omega) 0 (.slice none 0 0) [] w7 (by have := HW.out.2.2.1; simp; omega) (by have := HW.out.2.2.2.2; omega) HD.out)
  have HEnd : Hid (∀ w8 v, Dn w8 (P5 + 1) P1 P2 P3 P4 P5 X Y N M (0 + cn N M 1) v ([] ++ cs (wk N M 1)) → Tn (FD (P5 + 1) P1 P4) w7 w8 → ((∃ a c, v = .slice a (wk N M 1).length c) ∧ w8.cell? ⟨P4, 0, none⟩ = some v ∧ w8.cell? ⟨P1, 0, none⟩ = some (.int .i64 (cn N M 1 : Int))) ∧ Hid (∀ q, WalkC N M w (.returned (.tuple #[v, .int .i64 (cn N M 1 : Int)])) (w8.drewN q))) := hid (fun w8 v hD hT => by
    have kE : Kept w w8 := kept_tn kD (fun k hk => by unfold FD at hk; omega) hT
    rw [Nat.zero_add] at hD
    obtain ⟨c1, c2, c3, c4, c5, -, -⟩ := dn_cells hD
    obtain ⟨a, c, e⟩ := own_is hD.own
    refine ⟨⟨⟨a, c, by rw [e]; simp [cs_len]⟩, c4, c1⟩, hid (fun q => ⟨v, rfl, ?_, kept_drewN kE q⟩)⟩
    have ho : Own .i64 3 w8 w.heap.size v (cs (wk N M 1)) := own_low hD.own (by omega)
    exact own_stays ho (kept_drewN (kept_refl _) q))
  obtain ⟨x0, xf⟩ : w1.cell? ⟨P2, 0, none⟩ = some (.pointer (some ⟨X, 0, none⟩)) ∧ True := ⟨at_cell a1 0, trivial⟩
  have x1 := at_cell (at_kept a1 k2) 0
  have x2 := at_cell a2 0
  have x6 : w6.cell? ⟨P5, 0, none⟩ = some .nilFunc := at_cell a6 0
  have f6 : ∀ j, w6.frozen? ⟨P5, j, none⟩ = false := at_frozen a6
  have x7 := (dn_cells HD.out).2.2.2.2.1
  unfold clo at x7 hw7
  clear a1 a2 a3 a4 a4' a6 a7 k1 k2 k3 k4 k4' k6 k7 kA kB kC kD s1 s2 s3 s4 s4' s6 s7 hX hY hXl hYl HW HD xf
  go_enter Try.func18, Try.ntmps18
  go_wp2_with fail
  refine HC.out.mono ?_
  rintro e w8 ⟨rfl, v, hD8, hT8⟩
  obtain ⟨⟨⟨a8, c8, rfl⟩, y4, y1⟩, HF⟩ := HEnd.out w8 v hD8 hT8
  clear hD8 hT8 HC HEnd x0 x1 x2 x6 f6 x7 b0 bf
  go_wp2_with fail
  go_quiet (fail)
  go_wp2_with fail
  go_ret2
  exact HF.out _
end Go.Proofs.Ytpfelbbhhoilpaa
