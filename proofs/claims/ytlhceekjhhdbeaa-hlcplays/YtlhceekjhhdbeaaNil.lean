/- The laws on a nil clock and on how stamps stand to each other, walked: each answers true and turns nothing that was there. -/
import Derived.Test.YtlhceekjhhdbeaaFixed
namespace Go.Proofs.Ytlhceekjhhdbeaa
open Go.ChangeShapes Go.WideShapes Go.ChangeAt Go.RowKit
set_option linter.unusedVariables false
set_option linter.unusedSimpArgs false

set_option maxHeartbeats 1600000 in
set_option maxRecDepth 4000000 in
theorem nil_walk (n : Int) (s : Stp) (hn : (Lit.int .i64 n).wf = true) (w : World) :
    Calls Try.prog 8 #[.int .i64 n, .agg #[.int .u64 s.p, .int .u32 s.l, .int .u8 s.n]] w fun e w' => e = .returned (.bool true) ∧ Kept w w' := by
  have hz := zero25
  clear hn
  have K0 := kept_alloc (kept_refl w) (.cells #[.int .u64 s.p, .int .u32 s.l, .int .u8 s.n] 25)
  have A0 := at_new w #[.int .u64 s.p, .int .u32 s.l, .int .u8 s.n] 25
  go_enter Try.func8, Try.ntmps8
  go_wp2_with fail
  generalize w.alloc (.cells #[.int .u64 s.p, .int .u32 s.l, .int .u8 s.n] 25) = w0 at *
  generalize w.heap.size = X at *
  refine (pass_nil n _).mono ?_
  rintro e w1 ⟨rfl, rfl⟩
  go_wp2_with fail
  refine (now_nil _).mono ?_
  rintro e w2 ⟨rfl, k2⟩
  have K2 := kept_trans K0 k2
  have A2 := at_kept A0 k2
  clear k2 K0 A0
  have K3 := kept_alloc K2 (.cells #[.int .u64 0, .int .u32 0, .int .u8 0] 25)
  have A3 := at_alloc A2 (.cells #[.int .u64 0, .int .u32 0, .int .u8 0] 25)
  have B3 := at_new w2 #[.int .u64 0, .int .u32 0, .int .u8 0] 25
  clear K2 A2
  go_wp2_with fail
  generalize w2.alloc (.cells #[.int .u64 0, .int .u32 0, .int .u8 0] 25) = w3 at *
  generalize w2.heap.size = Y at *
  refine (fixed_any _).mono ?_
  rintro e w4 ⟨rfl, k4⟩
  have K4 := kept_trans K3 k4
  have A4 := at_kept A3 k4
  have B4 := at_kept B3 k4
  clear K3 A3 B3 k4
  go_wp2_with fail
  refine (time_nil _).mono ?_
  rintro e w5 ⟨rfl, rfl⟩
  go_wp2_with fail
  refine (last_nil _).mono ?_
  rintro e w6 ⟨rfl, k6⟩
  have K6 := kept_trans K4 k6
  have A6 := at_kept A4 k6
  have B6 := at_kept B4 k6
  clear K4 A4 B4 k6
  obtain ⟨x0, x1, x2, -⟩ := at_cells3 A6
  obtain ⟨y0, y1, y2, -⟩ := at_cells3 B6
  go_wp2_with fail
  refine (see_nil s _).mono ?_
  rintro e w7 ⟨rfl, k7⟩
  have K7 := kept_trans K6 k7
  clear A6 B6 k7 x0 x1 x2 y0 y1 y2
  go_wp2_with fail
  go_ret
  exact ⟨rfl, K7⟩
theorem held6 {X Y : Nat} {a b : Stp} {w0 w1 : World} (A0 : At w0 X #[.int .u64 a.p, .int .u32 a.l, .int .u8 a.n] 25) (B0 : At w0 Y #[.int .u64 b.p, .int .u32 b.l, .int .u8 b.n] 25) (k : Kept w0 w1) :
    w1.cell? ⟨X, 0, none⟩ = some (.int .u64 a.p) ∧ w1.cell? ⟨X, 1, none⟩ = some (.int .u32 a.l) ∧ w1.cell? ⟨X, 2, none⟩ = some (.int .u8 a.n) ∧ w1.cell? ⟨Y, 0, none⟩ = some (.int .u64 b.p) ∧ w1.cell? ⟨Y, 1, none⟩ = some (.int .u32 b.l) ∧ w1.cell? ⟨Y, 2, none⟩ = some (.int .u8 b.n) := by
  obtain ⟨c0, c1, c2, -⟩ := at_cells3 (at_kept A0 k)
  obtain ⟨d0, d1, d2, -⟩ := at_cells3 (at_kept B0 k)
  exact ⟨c0, c1, c2, d0, d1, d2⟩
set_option maxHeartbeats 1600000 in
set_option maxRecDepth 100000 in
theorem compares_at (a b : Stp) (x y : Int) (hx : cmp a b = x) (hy : cmp b a = y) (d : Bool) (hd : same a b = d) (h : (x = -1 ∧ y = 1 ∧ d = false) ∨ (x = 0 ∧ y = 0 ∧ d = true) ∨ (x = 1 ∧ y = -1 ∧ d = false)) (w : World) :
    Calls Try.prog 3 #[.agg #[.int .u64 a.p, .int .u32 a.l, .int .u8 a.n], .agg #[.int .u64 b.p, .int .u32 b.l, .int .u8 b.n]] w fun e w' => e = .returned (.bool true) ∧ Kept w w' := by
  have K0 := kept_alloc (kept_alloc (kept_refl w) (.cells #[.int .u64 a.p, .int .u32 a.l, .int .u8 a.n] 25)) (.cells #[.int .u64 b.p, .int .u32 b.l, .int .u8 b.n] 25)
  have A0 := at_alloc (at_new w #[.int .u64 a.p, .int .u32 a.l, .int .u8 a.n] 25) (.cells #[.int .u64 b.p, .int .u32 b.l, .int .u8 b.n] 25)
  have B0 := at_new (w.alloc (.cells #[.int .u64 a.p, .int .u32 a.l, .int .u8 a.n] 25)) #[.int .u64 b.p, .int .u32 b.l, .int .u8 b.n] 25
  simp only [World.size_alloc] at B0
  have hE := eq_stamp a b
  rw [hd] at hE
  have H1 : ∀ w, Calls Try.prog 10 #[.agg #[.int .u64 a.p, .int .u32 a.l, .int .u8 a.n], .agg #[.int .u64 b.p, .int .u32 b.l, .int .u8 b.n]] w fun e w' => e = .returned (.int .i64 x) ∧ Kept w w' := fun w => by rw [← hx]; exact compare_any a b w
  have H2 : ∀ w, Calls Try.prog 10 #[.agg #[.int .u64 b.p, .int .u32 b.l, .int .u8 b.n], .agg #[.int .u64 a.p, .int .u32 a.l, .int .u8 a.n]] w fun e w' => e = .returned (.int .i64 y) ∧ Kept w w' := fun w => by rw [← hy]; exact compare_any b a w
  have H3 : ∀ w, Calls Try.prog 11 #[.agg #[.int .u64 a.p, .int .u32 a.l, .int .u8 a.n], .agg #[.int .u64 b.p, .int .u32 b.l, .int .u8 b.n]] w fun e w' => e = .returned (.int .i64 x) ∧ Kept w w' := fun w => by rw [← hx]; exact refCompare_any a b w
  have HD : Hid ((x = -1 ∧ y = 1 ∧ d = false) ∨ (x = 0 ∧ y = 0 ∧ d = true) ∨ (x = 1 ∧ y = -1 ∧ d = false)) := h
  clear hx hy hd h
  go_enter Try.func3, Try.ntmps3
  go_wp2_with fail
  generalize (w.alloc (.cells #[.int .u64 a.p, .int .u32 a.l, .int .u8 a.n] 25)).alloc (.cells #[.int .u64 b.p, .int .u32 b.l, .int .u8 b.n] 25) = w0 at *
  generalize w.heap.size = X at *
  generalize X + 1 = Y at *
  have k0 : Kept w0 w0.drew := kept_refl w0
  refine wp_region_noPanic ?_
  refine wp_region_held_drew (S := (fun w' => w'.cell? ⟨X, 0, none⟩ = some (.int .u64 a.p) ∧ w'.cell? ⟨X, 1, none⟩ = some (.int .u32 a.l) ∧ w'.cell? ⟨X, 2, none⟩ = some (.int .u8 a.n) ∧ w'.cell? ⟨Y, 0, none⟩ = some (.int .u64 b.p) ∧ w'.cell? ⟨Y, 1, none⟩ = some (.int .u32 b.l) ∧ w'.cell? ⟨Y, 2, none⟩ = some (.int .u8 b.n))) (by kernel_rfl) (held6 A0 B0 (by assumption)) (fun hHeld => ?_)
  refine wpAnyH_ready (rs := [0]) (by kernel_rfl) (by simp) ?_
  refine AllReadyH.cons (i := 0) rfl (fun K hK => ?_) AllReadyH.nil
  go_simp
  refine (fixed_any _).mono ?_
  rintro e w3 ⟨rfl, h3⟩
  replace k0 := kept_trans k0 h3
  clear h3
  show K _ _
  refine hK.out _ _ (held6 A0 B0 (by assumption)) (fun hHeld => ?_)
  clear hK K
  try simp only [List.getElem_toArray, List.getElem_cons_zero, List.getElem_cons_succ, Act.put, List.setIfInBounds_toArray, List.set_cons_zero, List.set_cons_succ]
  refine wpAnyH_take (i := 1) (v := .bool true) rfl (by kernel_rfl) (by kernel_rfl) (by kernel_rfl) (fun _ _ _ h => h) (Or.inl ⟨by rfl, fun w hSw => by (try dsimp only at hSw); go_simp⟩) (by assumption) ?_
  try simp only [List.getElem_toArray, List.getElem_cons_zero, List.getElem_cons_succ, Act.put, List.setIfInBounds_toArray, List.set_cons_zero, List.set_cons_succ]
  refine wpAnyH_take (i := 2) (v := .agg #[.int .u64 a.p, .int .u32 a.l, .int .u8 a.n]) rfl (by kernel_rfl) (by kernel_rfl) (by kernel_rfl) (fun _ _ _ h => h) (Or.inl ⟨by rfl, fun w hSw => by (try dsimp only at hSw); go_simp⟩) (by assumption) ?_
  try simp only [List.getElem_toArray, List.getElem_cons_zero, List.getElem_cons_succ, Act.put, List.setIfInBounds_toArray, List.set_cons_zero, List.set_cons_succ]
  refine wpAnyH_take (i := 3) (v := .agg #[.int .u64 b.p, .int .u32 b.l, .int .u8 b.n]) rfl (by kernel_rfl) (by kernel_rfl) (by kernel_rfl) (fun _ _ _ h => h) (Or.inl ⟨by rfl, fun w hSw => by (try dsimp only at hSw); go_simp⟩) (by assumption) ?_
  try simp only [List.getElem_toArray, List.getElem_cons_zero, List.getElem_cons_succ, Act.put, List.setIfInBounds_toArray, List.set_cons_zero, List.set_cons_succ]
  refine wpAnyH_take (i := 5) (v := .agg #[.int .u64 a.p, .int .u32 a.l, .int .u8 a.n]) rfl (by kernel_rfl) (by kernel_rfl) (by kernel_rfl) (fun _ _ _ h => h) (Or.inl ⟨by rfl, fun w hSw => by (try dsimp only at hSw); go_simp⟩) (by assumption) ?_
  try simp only [List.getElem_toArray, List.getElem_cons_zero, List.getElem_cons_succ, Act.put, List.setIfInBounds_toArray, List.set_cons_zero, List.set_cons_succ]
  refine wpAnyH_take (i := 6) (v := .agg #[.int .u64 b.p, .int .u32 b.l, .int .u8 b.n]) rfl (by kernel_rfl) (by kernel_rfl) (by kernel_rfl) (fun _ _ _ h => h) (Or.inl ⟨by rfl, fun w hSw => by (try dsimp only at hSw); go_simp⟩) (by assumption) ?_
  try simp only [List.getElem_toArray, List.getElem_cons_zero, List.getElem_cons_succ, Act.put, List.setIfInBounds_toArray, List.set_cons_zero, List.set_cons_succ]
  refine wpAnyH_ready (rs := [4]) (by kernel_rfl) (by simp) ?_
  refine AllReadyH.cons (i := 4) rfl (fun K hK => ?_) AllReadyH.nil
  go_simp
  refine (H1 _).mono ?_
  rintro e w3 ⟨rfl, h3⟩
  replace k0 := kept_trans k0 h3
  clear h3
  show K _ _
  refine hK.out _ _ (held6 A0 B0 (by assumption)) (fun hHeld => ?_)
  clear hK K
  try simp only [List.getElem_toArray, List.getElem_cons_zero, List.getElem_cons_succ, Act.put, List.setIfInBounds_toArray, List.set_cons_zero, List.set_cons_succ]
  refine wpAnyH_ready (rs := [7]) (by kernel_rfl) (by simp) ?_
  refine AllReadyH.cons (i := 7) rfl (fun K hK => ?_) AllReadyH.nil
  go_simp
  refine (H3 _).mono ?_
  rintro e w3 ⟨rfl, h3⟩
  replace k0 := kept_trans k0 h3
  clear h3
  show K _ _
  refine hK.out _ _ (held6 A0 B0 (by assumption)) (fun hHeld => ?_)
  clear hK K
  try simp only [List.getElem_toArray, List.getElem_cons_zero, List.getElem_cons_succ, Act.put, List.setIfInBounds_toArray, List.set_cons_zero, List.set_cons_succ]
  refine wpAnyH_take (i := 8) (v := .bool true) rfl (by kernel_rfl) (by kernel_rfl) (by kernel_rfl) (fun _ _ _ h => h) (Or.inl ⟨by rfl, fun w hSw => by (try dsimp only at hSw); go_simp⟩) (by assumption) ?_
  try simp only [List.getElem_toArray, List.getElem_cons_zero, List.getElem_cons_succ, Act.put, List.setIfInBounds_toArray, List.set_cons_zero, List.set_cons_succ]
  refine wpAnyH_take (i := 9) (v := .bool true) rfl (by kernel_rfl) (by kernel_rfl) (by kernel_rfl) (fun _ _ _ h => h) (Or.inl ⟨by rfl, fun w hSw => by (try dsimp only at hSw); go_simp⟩) (by assumption) ?_
  try simp only [List.getElem_toArray, List.getElem_cons_zero, List.getElem_cons_succ, Act.put, List.setIfInBounds_toArray, List.set_cons_zero, List.set_cons_succ]
  refine wpAnyH_take (i := 10) (v := .bool true) rfl (by kernel_rfl) (by kernel_rfl) (by kernel_rfl) (fun _ _ _ h => h) (Or.inl ⟨by rfl, fun w hSw => by (try dsimp only at hSw); go_simp⟩) (by assumption) ?_
  try simp only [List.getElem_toArray, List.getElem_cons_zero, List.getElem_cons_succ, Act.put, List.setIfInBounds_toArray, List.set_cons_zero, List.set_cons_succ]
  refine wpAnyH_take (i := 11) (v := .agg #[.int .u64 b.p, .int .u32 b.l, .int .u8 b.n]) rfl (by kernel_rfl) (by kernel_rfl) (by kernel_rfl) (fun _ _ _ h => h) (Or.inl ⟨by rfl, fun w hSw => by (try dsimp only at hSw); go_simp⟩) (by assumption) ?_
  try simp only [List.getElem_toArray, List.getElem_cons_zero, List.getElem_cons_succ, Act.put, List.setIfInBounds_toArray, List.set_cons_zero, List.set_cons_succ]
  refine wpAnyH_take (i := 12) (v := .agg #[.int .u64 a.p, .int .u32 a.l, .int .u8 a.n]) rfl (by kernel_rfl) (by kernel_rfl) (by kernel_rfl) (fun _ _ _ h => h) (Or.inl ⟨by rfl, fun w hSw => by (try dsimp only at hSw); go_simp⟩) (by assumption) ?_
  try simp only [List.getElem_toArray, List.getElem_cons_zero, List.getElem_cons_succ, Act.put, List.setIfInBounds_toArray, List.set_cons_zero, List.set_cons_succ]
  refine wpAnyH_take (i := 14) (v := .agg #[.int .u64 a.p, .int .u32 a.l, .int .u8 a.n]) rfl (by kernel_rfl) (by kernel_rfl) (by kernel_rfl) (fun _ _ _ h => h) (Or.inl ⟨by rfl, fun w hSw => by (try dsimp only at hSw); go_simp⟩) (by assumption) ?_
  try simp only [List.getElem_toArray, List.getElem_cons_zero, List.getElem_cons_succ, Act.put, List.setIfInBounds_toArray, List.set_cons_zero, List.set_cons_succ]
  refine wpAnyH_take (i := 15) (v := .agg #[.int .u64 b.p, .int .u32 b.l, .int .u8 b.n]) rfl (by kernel_rfl) (by kernel_rfl) (by kernel_rfl) (fun _ _ _ h => h) (Or.inl ⟨by rfl, fun w hSw => by (try dsimp only at hSw); go_simp⟩) (by assumption) ?_
  try simp only [List.getElem_toArray, List.getElem_cons_zero, List.getElem_cons_succ, Act.put, List.setIfInBounds_toArray, List.set_cons_zero, List.set_cons_succ]
  refine wpAnyH_ready (rs := [13]) (by kernel_rfl) (by simp) ?_
  refine AllReadyH.cons (i := 13) rfl (fun K hK => ?_) AllReadyH.nil
  go_simp
  refine (H2 _).mono ?_
  rintro e w3 ⟨rfl, h3⟩
  replace k0 := kept_trans k0 h3
  clear h3
  show K _ _
  refine hK.out _ _ (held6 A0 B0 (by assumption)) (fun hHeld => ?_)
  clear hK K
  try simp only [List.getElem_toArray, List.getElem_cons_zero, List.getElem_cons_succ, Act.put, List.setIfInBounds_toArray, List.set_cons_zero, List.set_cons_succ]
  refine wpAnyH_ready (rs := [16]) (by kernel_rfl) (by simp) ?_
  refine AllReadyH.cons (i := 16) rfl (fun K hK => ?_) AllReadyH.nil
  go_simp
  refine (H1 _).mono ?_
  rintro e w3 ⟨rfl, h3⟩
  replace k0 := kept_trans k0 h3
  clear h3
  show K _ _
  refine hK.out _ _ (held6 A0 B0 (by assumption)) (fun hHeld => ?_)
  clear hK K
  try simp only [List.getElem_toArray, List.getElem_cons_zero, List.getElem_cons_succ, Act.put, List.setIfInBounds_toArray, List.set_cons_zero, List.set_cons_succ]
  refine wpAnyH_take (i := 17) (v := .int .i64 y) rfl (by kernel_rfl) (by kernel_rfl) (by kernel_rfl) (fun _ _ _ h => h) (Or.inl ⟨by rfl, fun w hSw => by (try dsimp only at hSw); rcases HD.out with ⟨rfl, rfl, rfl⟩ | ⟨rfl, rfl, rfl⟩ | ⟨rfl, rfl, rfl⟩ <;> go_simp <;> decide⟩) (by assumption) ?_
  try simp only [List.getElem_toArray, List.getElem_cons_zero, List.getElem_cons_succ, Act.put, List.setIfInBounds_toArray, List.set_cons_zero, List.set_cons_succ]
  refine wpAnyH_take (i := 18) (v := .bool true) rfl (by kernel_rfl) (by kernel_rfl) (by kernel_rfl) (fun _ _ _ h => h) (Or.inl ⟨by rfl, fun w hSw => by (try dsimp only at hSw); go_simp⟩) (by assumption) ?_
  try simp only [List.getElem_toArray, List.getElem_cons_zero, List.getElem_cons_succ, Act.put, List.setIfInBounds_toArray, List.set_cons_zero, List.set_cons_succ]
  refine wpAnyH_take (i := 19) (v := .bool true) rfl (by kernel_rfl) (by kernel_rfl) (by kernel_rfl) (fun _ _ _ h => h) (Or.inl ⟨by rfl, fun w hSw => by (try dsimp only at hSw); go_simp⟩) (by assumption) ?_
  try simp only [List.getElem_toArray, List.getElem_cons_zero, List.getElem_cons_succ, Act.put, List.setIfInBounds_toArray, List.set_cons_zero, List.set_cons_succ]
  refine wpAnyH_take (i := 20) (v := .bool true) rfl (by kernel_rfl) (by kernel_rfl) (by kernel_rfl) (fun _ _ _ h => h) (Or.inl ⟨by rfl, fun w hSw => by (try dsimp only at hSw); go_simp⟩) (by assumption) ?_
  try simp only [List.getElem_toArray, List.getElem_cons_zero, List.getElem_cons_succ, Act.put, List.setIfInBounds_toArray, List.set_cons_zero, List.set_cons_succ]
  refine wpAnyH_take (i := 21) (v := .agg #[.int .u64 a.p, .int .u32 a.l, .int .u8 a.n]) rfl (by kernel_rfl) (by kernel_rfl) (by kernel_rfl) (fun _ _ _ h => h) (Or.inl ⟨by rfl, fun w hSw => by (try dsimp only at hSw); go_simp⟩) (by assumption) ?_
  try simp only [List.getElem_toArray, List.getElem_cons_zero, List.getElem_cons_succ, Act.put, List.setIfInBounds_toArray, List.set_cons_zero, List.set_cons_succ]
  refine wpAnyH_take (i := 22) (v := .agg #[.int .u64 b.p, .int .u32 b.l, .int .u8 b.n]) rfl (by kernel_rfl) (by kernel_rfl) (by kernel_rfl) (fun _ _ _ h => h) (Or.inl ⟨by rfl, fun w hSw => by (try dsimp only at hSw); go_simp⟩) (by assumption) ?_
  try simp only [List.getElem_toArray, List.getElem_cons_zero, List.getElem_cons_succ, Act.put, List.setIfInBounds_toArray, List.set_cons_zero, List.set_cons_succ]
  refine wpAnyH_take (i := 25) (v := .agg #[.int .u64 a.p, .int .u32 a.l, .int .u8 a.n]) rfl (by kernel_rfl) (by kernel_rfl) (by kernel_rfl) (fun _ _ _ h => h) (Or.inl ⟨by rfl, fun w hSw => by (try dsimp only at hSw); go_simp⟩) (by assumption) ?_
  try simp only [List.getElem_toArray, List.getElem_cons_zero, List.getElem_cons_succ, Act.put, List.setIfInBounds_toArray, List.set_cons_zero, List.set_cons_succ]
  refine wpAnyH_take (i := 26) (v := .agg #[.int .u64 b.p, .int .u32 b.l, .int .u8 b.n]) rfl (by kernel_rfl) (by kernel_rfl) (by kernel_rfl) (fun _ _ _ h => h) (Or.inl ⟨by rfl, fun w hSw => by (try dsimp only at hSw); go_simp⟩) (by assumption) ?_
  try simp only [List.getElem_toArray, List.getElem_cons_zero, List.getElem_cons_succ, Act.put, List.setIfInBounds_toArray, List.set_cons_zero, List.set_cons_succ]
  refine wpAnyH_take (i := 27) (v := .bool d) rfl (by kernel_rfl) (by kernel_rfl) (by kernel_rfl) (fun _ _ _ h => h) (Or.inl ⟨by rfl, fun w hSw => by (try dsimp only at hSw); go_simp⟩) (by assumption) ?_
  try simp only [List.getElem_toArray, List.getElem_cons_zero, List.getElem_cons_succ, Act.put, List.setIfInBounds_toArray, List.set_cons_zero, List.set_cons_succ]
  refine wpAnyH_ready (rs := [23]) (by kernel_rfl) (by simp) ?_
  refine AllReadyH.cons (i := 23) rfl (fun K hK => ?_) AllReadyH.nil
  go_simp
  refine (H1 _).mono ?_
  rintro e w3 ⟨rfl, h3⟩
  replace k0 := kept_trans k0 h3
  clear h3
  show K _ _
  refine hK.out _ _ (held6 A0 B0 (by assumption)) (fun hHeld => ?_)
  clear hK K
  try simp only [List.getElem_toArray, List.getElem_cons_zero, List.getElem_cons_succ, Act.put, List.setIfInBounds_toArray, List.set_cons_zero, List.set_cons_succ]
  refine wpAnyH_take (i := 24) (v := .bool d) rfl (by kernel_rfl) (by kernel_rfl) (by kernel_rfl) (fun _ _ _ h => h) (Or.inl ⟨by rfl, fun w hSw => by (try dsimp only at hSw); rcases HD.out with ⟨rfl, rfl, rfl⟩ | ⟨rfl, rfl, rfl⟩ | ⟨rfl, rfl, rfl⟩ <;> go_simp⟩) (by assumption) ?_
  try simp only [List.getElem_toArray, List.getElem_cons_zero, List.getElem_cons_succ, Act.put, List.setIfInBounds_toArray, List.set_cons_zero, List.set_cons_succ]
  refine wpAnyH_take (i := 28) (v := .bool true) rfl (by kernel_rfl) (by kernel_rfl) (by kernel_rfl) (fun _ _ _ h => h) (Or.inl ⟨by rfl, fun w hSw => by (try dsimp only at hSw); go_simp⟩) (by assumption) ?_
  try simp only [List.getElem_toArray, List.getElem_cons_zero, List.getElem_cons_succ, Act.put, List.setIfInBounds_toArray, List.set_cons_zero, List.set_cons_succ]
  refine wpAnyH_take (i := 29) (v := .bool true) rfl (by kernel_rfl) (by kernel_rfl) (by kernel_rfl) (fun _ _ _ h => h) (Or.inl ⟨by rfl, fun w hSw => by (try dsimp only at hSw); go_simp⟩) (by assumption) ?_
  try simp only [List.getElem_toArray, List.getElem_cons_zero, List.getElem_cons_succ, Act.put, List.setIfInBounds_toArray, List.set_cons_zero, List.set_cons_succ]
  refine wpAnyH_take (i := 30) (v := .bool true) rfl (by kernel_rfl) (by kernel_rfl) (by kernel_rfl) (fun _ _ _ h => h) (Or.inl ⟨by rfl, fun w hSw => by (try dsimp only at hSw); go_simp⟩) (by assumption) ?_
  try simp only [List.getElem_toArray, List.getElem_cons_zero, List.getElem_cons_succ, Act.put, List.setIfInBounds_toArray, List.set_cons_zero, List.set_cons_succ]
  refine wpAnyH_done (by kernel_rfl) ?_ _
  refine NoPanic.normal ?_
  have K1 := kept_trans K0 k0
  go_wp2_with fail
  go_ret
  exact ⟨rfl, K1⟩
theorem compares_walk (a b : Stp) (w : World) :
    Calls Try.prog 3 #[.agg #[.int .u64 a.p, .int .u32 a.l, .int .u8 a.n], .agg #[.int .u64 b.p, .int .u32 b.l, .int .u8 b.n]] w fun e w' => e = .returned (.bool true) ∧ Kept w w' := by
  refine compares_at a b _ _ rfl rfl _ rfl ?_ w
  by_cases h : Lt a b
  · exact .inl ⟨cmp_lt h, cmp_gt h, (same_false a b).2 fun e => lt_irrefl b (e ▸ h)⟩
  · by_cases k : Lt b a
    · exact .inr (.inr ⟨cmp_gt k, cmp_lt k, (same_false a b).2 fun e => lt_irrefl b (e ▸ k)⟩)
    · have := lt_total h k
      subst this
      exact .inr (.inl ⟨cmp_self a, cmp_self a, (same_iff a a).2 rfl⟩)
end Go.Proofs.Ytlhceekjhhdbeaa
