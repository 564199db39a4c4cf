/- The contracts of the program's small functions on stamps, on what is seen and on records: each answers what the plain function does and turns nothing that was there. Texts have at most 2^47 bytes where they are cloned. -/
import Derived.Test.YtgfmmipbadnhgaaSwFixed
import Derived.Test.YtgfmmipbadnhgaaGMap
import Derived.Lib.Walk
import Derived.BigQuiet
import Derived.Handy
import Derived.Shelf.Pu.Clone
namespace Go.Proofs.Ytgfmmipbadnhgaa
open Go.ChangeShapes Go.WideShapes Go.ChangeAt Go.RowKit
set_option linter.unusedVariables false
set_option linter.unusedSimpArgs false
set_option maxRecDepth 100000

theorem ret_int {k : IntKind} {a b : Int} (h : a = b) : Ending.returned (.int k a) = .returned (.int k b) := by rw [h]
set_option maxHeartbeats 800000 in
theorem ahead_any (a b : Stp) (w : World) : Calls Try.prog 48 #[.agg #[.int .u64 a.p, .int .u32 a.l, .int .u8 a.n], .agg #[.int .u64 b.p, .int .u32 b.l, .int .u8 b.n]] w fun e w' => e = .returned (.bool (lt a b)) ∧ Kept w w' := by
  have HK := hid (kept_alloc (kept_alloc (kept_refl w) (.cells #[.int .u64 a.p, .int .u32 a.l, .int .u8 a.n] 39)) (.cells #[.int .u64 b.p, .int .u32 b.l, .int .u8 b.n] 39))
  by_cases h1 : a.p = b.p
  · have e1 : (a.p != b.p) = false := by simpa using h1
    by_cases h2 : a.l = b.l
    · have e2 : (a.l != b.l) = false := by simpa using h2
      have HE : Hid (lt a b = decide (a.n < b.n)) := hid (by unfold lt; simp [h1, h2])
      clear h1 h2
      go_enter Try.func48, Try.ntmps48
      go_wp2_with fail
      go_ret
      exact ⟨says_bool HE.out.symm, HK.out⟩
    · have e2 : (a.l != b.l) = true := by simpa using h2
      have HE : Hid (lt a b = decide (a.l < b.l)) := hid (by unfold lt; simp [h1, h2])
      clear h1 h2
      go_enter Try.func48, Try.ntmps48
      go_wp2_with fail
      go_ret
      exact ⟨says_bool HE.out.symm, HK.out⟩
  · have e1 : (a.p != b.p) = true := by simpa using h1
    have HE : Hid (lt a b = decide (a.p < b.p)) := hid (by unfold lt; simp [h1])
    clear h1
    go_enter Try.func48, Try.ntmps48
    go_wp2_with fail
    go_ret
    exact ⟨says_bool HE.out.symm, HK.out⟩
theorem compare_any (a b : Stp) (w : World) : Calls Try.prog 34 #[.agg #[.int .u64 a.p, .int .u32 a.l, .int .u8 a.n], .agg #[.int .u64 b.p, .int .u32 b.l, .int .u8 b.n]] w fun e w' => e = .returned (.int .i64 (cmp a b)) ∧ Kept w w' := by
  have HK := hid (kept_alloc (kept_alloc (kept_refl w) (.cells #[.int .u64 a.p, .int .u32 a.l, .int .u8 a.n] 39)) (.cells #[.int .u64 b.p, .int .u32 b.l, .int .u8 b.n] 39))
  have hE := eq_stamp a b
  by_cases h : a = b
  · have hs : same a b = true := (same_iff a b).2 h
    have hC : Hid (0 = cmp a b) := ((cmp_zero a b).2 h).symm
    clear h
    go_enter Try.func34, Try.ntmps34
    go_wp2_with fail
    go_ret
    exact ⟨ret_int hC.out, HK.out⟩
  · have hs : same a b = false := (same_false a b).2 h
    by_cases hl : Lt a b
    · have hC : Hid (-1 = cmp a b) := (cmp_lt hl).symm
      have hL : lt a b = true := (lt_iff a b).2 hl
      clear h hl
      go_enter Try.func34, Try.ntmps34
      go_wp2_with fail
      refine (ahead_any a b _).mono ?_
      rintro e w1 ⟨rfl, h1⟩
      have K1 := kept_trans HK.out h1
      go_wp2_with fail
      go_ret
      exact ⟨ret_int hC.out, K1⟩
    · have hC : Hid (1 = cmp a b) := (cmp_gt (Classical.byContradiction fun hn => h (lt_total hl hn))).symm
      have hL : lt a b = false := (lt_false a b).2 hl
      clear h hl
      go_enter Try.func34, Try.ntmps34
      go_wp2_with fail
      refine (ahead_any a b _).mono ?_
      rintro e w1 ⟨rfl, h1⟩
      have K1 := kept_trans HK.out h1
      go_wp2_with fail
      go_ret
      exact ⟨ret_int hC.out, K1⟩
theorem nan8 (a : Int) (w : World) : Calls Try.prog 49 #[.int .u8 a] w fun e w' => e = .returned (.bool false) ∧ w' = w := by
  go_enter Try.func49, Try.ntmps49
  go_wp2
  go_ret
  exact ⟨by simp, rfl⟩
theorem cmp8 (a b : Int) (w : World) : Calls Try.prog 35 #[.int .u8 a, .int .u8 b] w fun e w' => e = .returned (.int .i64 (cmpI a b)) ∧ w' = w := by
  rcases cmpI_cases a b with ⟨h, e⟩ | ⟨h, e⟩ | ⟨h, e⟩
  all_goals
    rw [e]
    clear e
    have h1 : decide (a < b) = decide (a < b) := rfl
    go_enter Try.func35, Try.ntmps35
    go_wp2_with (go_at_call 49; refine (nan8 _ _).mono ?_; rintro e w' ⟨rfl, rfl⟩)
    go_ret
    exact ⟨rfl, rfl⟩
theorem at_cells2 {w : World} {X T : Nat} {a0 a1 : Value} (h : At w X #[a0, a1] T) : w.cell? ⟨X, 0, none⟩ = some a0 ∧ w.cell? ⟨X, 1, none⟩ = some a1 ∧ ∀ j, w.frozen? ⟨X, j, none⟩ = false := ⟨at_cell h 0, at_cell h 1, at_frozen h⟩
/- The first of two that isn't 0. -/
set_option maxHeartbeats 1600000 in
theorem or2 (x y : Int) (X : Nat) (w : World) (h : At w X #[.int .i64 x, .int .i64 y] 3) : Calls Try.prog 33 #[.slice (some ⟨X, 0, none⟩) 2 2] w fun e w' => e = .returned (.int .i64 (orI x y)) ∧ w' = w := by
  obtain ⟨c0, c1, -⟩ := at_cells2 h
  clear h
  by_cases hx : x = 0
  · have hx' : (x != 0) = false := by simpa using hx
    by_cases hy : y = 0
    · have hy' : (y != 0) = false := by simpa using hy
      have HE : Hid (0 = orI x y) := hid (by unfold orI; rw [if_pos hx, hy])
      clear hx hy
      go_enter Try.func33, Try.ntmps33
      go_wp2
      go_rounds 3
      go_ret
      exact ⟨ret_int HE.out, rfl⟩
    · have hy' : (y != 0) = true := by simpa using hy
      have HE : Hid (y = orI x y) := hid (by unfold orI; rw [if_pos hx])
      clear hx hy
      go_enter Try.func33, Try.ntmps33
      go_wp2
      go_rounds 2
      go_ret
      exact ⟨ret_int HE.out, rfl⟩
  · have hx' : (x != 0) = true := by simpa using hx
    have HE : Hid (x = orI x y) := hid (by unfold orI; rw [if_neg hx])
    clear hx
    go_enter Try.func33, Try.ntmps33
    go_wp2
    go_rounds 1
    go_ret
    exact ⟨ret_int HE.out, rfl⟩
theorem at_cells5' {w : World} {X T : Nat} {a : Sn} (h : At w X #[.string a.key, .int .u64 a.s.p, .int .u32 a.s.l, .int .u8 a.s.n, .int .u8 a.kind] T) : w.cell? ⟨X, 0, none⟩ = some (.string a.key) ∧ w.cell? ⟨X, 1, none⟩ = some (.int .u64 a.s.p) ∧ w.cell? ⟨X, 2, none⟩ = some (.int .u32 a.s.l) ∧ w.cell? ⟨X, 3, none⟩ = some (.int .u8 a.s.n) ∧ w.cell? ⟨X, 4, none⟩ = some (.int .u8 a.kind) := ⟨at_cell h 0, at_cell h 1, at_cell h 2, at_cell h 3, at_cell h 4⟩
theorem held10 {X Y T : Nat} {a b : Sn} {w0 w1 : World} (A0 : At w0 X #[.string a.key, .int .u64 a.s.p, .int .u32 a.s.l, .int .u8 a.s.n, .int .u8 a.kind] T) (B0 : At w0 Y #[.string b.key, .int .u64 b.s.p, .int .u32 b.s.l, .int .u8 b.s.n, .int .u8 b.kind] T) (k : Kept w0 w1) : (w1.cell? ⟨X, 0, none⟩ = some (.string a.key) ∧ w1.cell? ⟨X, 1, none⟩ = some (.int .u64 a.s.p) ∧ w1.cell? ⟨X, 2, none⟩ = some (.int .u32 a.s.l) ∧ w1.cell? ⟨X, 3, none⟩ = some (.int .u8 a.s.n) ∧ w1.cell? ⟨X, 4, none⟩ = some (.int .u8 a.kind)) ∧ (w1.cell? ⟨Y, 0, none⟩ = some (.string b.key) ∧ w1.cell? ⟨Y, 1, none⟩ = some (.int .u64 b.s.p) ∧ w1.cell? ⟨Y, 2, none⟩ = some (.int .u32 b.s.l) ∧ w1.cell? ⟨Y, 3, none⟩ = some (.int .u8 b.s.n) ∧ w1.cell? ⟨Y, 4, none⟩ = some (.int .u8 b.kind)) := ⟨at_cells5' (at_kept A0 k), at_cells5' (at_kept B0 k)⟩
theorem orI_bh (a b : Sn) : decide (orI (cmp a.s b.s) (cmpI a.kind b.kind) < 0) = bh a b := by
  rw [Bool.eq_iff_iff, bh_iff, decide_eq_true_eq]
  unfold Bh orI
  rcases cmp_parts a.s b.s with ⟨h, e⟩ | ⟨h, e⟩ | ⟨h, e⟩ <;> rcases cmpI_cases a.kind b.kind with ⟨k, f⟩ | ⟨k, f⟩ | ⟨k, f⟩ <;> rw [e, f]
  · simp [h]
  · simp [h]
  · simp [h]
  · simp [h, k]
  · simp [h, k, lt_irrefl]
  · have := lt_irrefl b.s
    simp [h, this]
    omega
  all_goals
    have h1 := lt_asymm h
    have h2 : a.s ≠ b.s := fun g => by rw [g] at h; exact lt_irrefl _ h
    simp [h1, h2]
set_option maxHeartbeats 1600000 in
theorem behindS_any (a b : Sn) (w : World) : Calls Try.prog 29 #[.agg #[.string a.key, .int .u64 a.s.p, .int .u32 a.s.l, .int .u8 a.s.n, .int .u8 a.kind], .agg #[.string b.key, .int .u64 b.s.p, .int .u32 b.s.l, .int .u8 b.s.n, .int .u8 b.kind]] w fun e w' => e = .returned (.bool (bh a b)) ∧ Kept w w' := by
  have K0 := kept_alloc (kept_alloc (kept_refl w) (.cells #[.string a.key, .int .u64 a.s.p, .int .u32 a.s.l, .int .u8 a.s.n, .int .u8 a.kind] 43)) (.cells #[.string b.key, .int .u64 b.s.p, .int .u32 b.s.l, .int .u8 b.s.n, .int .u8 b.kind] 43)
  have A0 := at_alloc (at_new w #[.string a.key, .int .u64 a.s.p, .int .u32 a.s.l, .int .u8 a.s.n, .int .u8 a.kind] 43) (.cells #[.string b.key, .int .u64 b.s.p, .int .u32 b.s.l, .int .u8 b.s.n, .int .u8 b.kind] 43)
  have B0 := at_new (w.alloc (.cells #[.string a.key, .int .u64 a.s.p, .int .u32 a.s.l, .int .u8 a.s.n, .int .u8 a.kind] 43)) #[.string b.key, .int .u64 b.s.p, .int .u32 b.s.l, .int .u8 b.s.n, .int .u8 b.kind] 43
  simp only [World.size_alloc] at B0
  go_enter Try.func29, Try.ntmps29
  go_wp2_with fail
  generalize (w.alloc (.cells #[.string a.key, .int .u64 a.s.p, .int .u32 a.s.l, .int .u8 a.s.n, .int .u8 a.kind] 43)).alloc (.cells #[.string b.key, .int .u64 b.s.p, .int .u32 b.s.l, .int .u8 b.s.n, .int .u8 b.kind] 43) = w0 at *
  generalize w.heap.size = X at *
  generalize X + 1 = Y at *
  have k0 : Kept w0 w0.drew := kept_refl w0
  refine wp_region_noPanic ?_
  refine wp_region_held_drew (S := (fun w' => (w'.cell? ⟨X, 0, none⟩ = some (.string a.key) ∧ w'.cell? ⟨X, 1, none⟩ = some (.int .u64 a.s.p) ∧ w'.cell? ⟨X, 2, none⟩ = some (.int .u32 a.s.l) ∧ w'.cell? ⟨X, 3, none⟩ = some (.int .u8 a.s.n) ∧ w'.cell? ⟨X, 4, none⟩ = some (.int .u8 a.kind)) ∧ (w'.cell? ⟨Y, 0, none⟩ = some (.string b.key) ∧ w'.cell? ⟨Y, 1, none⟩ = some (.int .u64 b.s.p) ∧ w'.cell? ⟨Y, 2, none⟩ = some (.int .u32 b.s.l) ∧ w'.cell? ⟨Y, 3, none⟩ = some (.int .u8 b.s.n) ∧ w'.cell? ⟨Y, 4, none⟩ = some (.int .u8 b.kind)))) (by kernel_rfl) (held10 A0 B0 (by assumption)) (fun hHeld => ?_)
  refine wpAnyH_take (i := 0) (v := .pointer (some ⟨X, 1, none⟩)) rfl (by kernel_rfl) (by kernel_rfl) (by kernel_rfl) (fun _ _ _ h => h) (Or.inl ⟨by rfl, fun w hSw => by (try dsimp only at hSw); go_simp⟩) (by assumption) ?_
  try simp only [List.getElem_toArray, List.getElem_cons_zero, List.getElem_cons_succ, Act.put, List.setIfInBounds_toArray, List.set_cons_zero, List.set_cons_succ]
  refine wpAnyH_take (i := 1) (v := .agg #[.int .u64 a.s.p, .int .u32 a.s.l, .int .u8 a.s.n]) rfl (by kernel_rfl) (by kernel_rfl) (by kernel_rfl) (fun _ _ _ h => h) (Or.inl ⟨by rfl, fun w hSw => by (try dsimp only at hSw); go_simp⟩) (by assumption) ?_
  try simp only [List.getElem_toArray, List.getElem_cons_zero, List.getElem_cons_succ, Act.put, List.setIfInBounds_toArray, List.set_cons_zero, List.set_cons_succ]
  refine wpAnyH_take (i := 2) (v := .pointer (some ⟨Y, 1, none⟩)) rfl (by kernel_rfl) (by kernel_rfl) (by kernel_rfl) (fun _ _ _ h => h) (Or.inl ⟨by rfl, fun w hSw => by (try dsimp only at hSw); go_simp⟩) (by assumption) ?_
  try simp only [List.getElem_toArray, List.getElem_cons_zero, List.getElem_cons_succ, Act.put, List.setIfInBounds_toArray, List.set_cons_zero, List.set_cons_succ]
  refine wpAnyH_take (i := 3) (v := .agg #[.int .u64 b.s.p, .int .u32 b.s.l, .int .u8 b.s.n]) rfl (by kernel_rfl) (by kernel_rfl) (by kernel_rfl) (fun _ _ _ h => h) (Or.inl ⟨by rfl, fun w hSw => by (try dsimp only at hSw); go_simp⟩) (by assumption) ?_
  try simp only [List.getElem_toArray, List.getElem_cons_zero, List.getElem_cons_succ, Act.put, List.setIfInBounds_toArray, List.set_cons_zero, List.set_cons_succ]
  refine wpAnyH_take (i := 5) (v := .pointer (some ⟨X, 4, none⟩)) rfl (by kernel_rfl) (by kernel_rfl) (by kernel_rfl) (fun _ _ _ h => h) (Or.inl ⟨by rfl, fun w hSw => by (try dsimp only at hSw); go_simp⟩) (by assumption) ?_
  try simp only [List.getElem_toArray, List.getElem_cons_zero, List.getElem_cons_succ, Act.put, List.setIfInBounds_toArray, List.set_cons_zero, List.set_cons_succ]
  refine wpAnyH_take (i := 6) (v := .int .u8 a.kind) rfl (by kernel_rfl) (by kernel_rfl) (by kernel_rfl) (fun _ _ _ h => h) (Or.inl ⟨by rfl, fun w hSw => by (try dsimp only at hSw); go_simp⟩) (by assumption) ?_
  try simp only [List.getElem_toArray, List.getElem_cons_zero, List.getElem_cons_succ, Act.put, List.setIfInBounds_toArray, List.set_cons_zero, List.set_cons_succ]
  refine wpAnyH_take (i := 7) (v := .pointer (some ⟨Y, 4, none⟩)) rfl (by kernel_rfl) (by kernel_rfl) (by kernel_rfl) (fun _ _ _ h => h) (Or.inl ⟨by rfl, fun w hSw => by (try dsimp only at hSw); go_simp⟩) (by assumption) ?_
  try simp only [List.getElem_toArray, List.getElem_cons_zero, List.getElem_cons_succ, Act.put, List.setIfInBounds_toArray, List.set_cons_zero, List.set_cons_succ]
  refine wpAnyH_take (i := 8) (v := .int .u8 b.kind) rfl (by kernel_rfl) (by kernel_rfl) (by kernel_rfl) (fun _ _ _ h => h) (Or.inl ⟨by rfl, fun w hSw => by (try dsimp only at hSw); go_simp⟩) (by assumption) ?_
  try simp only [List.getElem_toArray, List.getElem_cons_zero, List.getElem_cons_succ, Act.put, List.setIfInBounds_toArray, List.set_cons_zero, List.set_cons_succ]
  refine wpAnyH_ready (rs := [4]) (by kernel_rfl) (by simp) ?_
  refine AllReadyH.cons (i := 4) rfl (fun K hK => ?_) AllReadyH.nil
  go_simp
  refine (compare_any a.s b.s _).mono ?_
  rintro e w3 ⟨rfl, h3⟩
  replace k0 := kept_trans k0 h3
  clear h3
  clear hHeld
  show K _ _
  refine hK.out _ _ (held10 A0 B0 (by assumption)) (fun hHeld => ?_)
  clear hK K
  try simp only [List.getElem_toArray, List.getElem_cons_zero, List.getElem_cons_succ, Act.put, List.setIfInBounds_toArray, List.set_cons_zero, List.set_cons_succ]
  refine wpAnyH_ready (rs := [9]) (by kernel_rfl) (by simp) ?_
  refine AllReadyH.cons (i := 9) rfl (fun K hK => ?_) AllReadyH.nil
  go_simp
  refine (cmp8 a.kind b.kind _).mono ?_
  rintro e w3 ⟨rfl, rfl⟩
  clear hHeld
  show K _ _
  refine hK.out _ _ (held10 A0 B0 (by assumption)) (fun hHeld => ?_)
  clear hK K
  try simp only [List.getElem_toArray, List.getElem_cons_zero, List.getElem_cons_succ, Act.put, List.setIfInBounds_toArray, List.set_cons_zero, List.set_cons_succ]
  refine wpAnyH_ready (rs := [10]) (by kernel_rfl) (by simp) ?_
  refine AllReadyH.cons (i := 10) rfl (fun K hK => ?_) AllReadyH.nil
  have Z0 := at_new w3 #[.int .i64 (cmp a.s b.s), .int .i64 (cmpI a.kind b.kind)] 3
  replace k0 := kept_alloc k0 (.cells #[.int .i64 (cmp a.s b.s), .int .i64 (cmpI a.kind b.kind)] 3)
  go_simp
  clear hHeld
  show K _ _
  refine hK.out _ _ (held10 A0 B0 (by assumption)) (fun hHeld => ?_)
  clear hK K
  try simp only [List.getElem_toArray, List.getElem_cons_zero, List.getElem_cons_succ, Act.put, List.setIfInBounds_toArray, List.set_cons_zero, List.set_cons_succ]
  refine wpAnyH_ready (rs := [11]) (by kernel_rfl) (by simp) ?_
  refine AllReadyH.cons (i := 11) rfl (fun K hK => ?_) AllReadyH.nil
  go_simp
  refine (or2 _ _ _ _ Z0).mono ?_
  rintro e w3 ⟨rfl, rfl⟩
  clear hHeld
  show K _ _
  refine hK.out _ _ (held10 A0 B0 (by assumption)) (fun hHeld => ?_)
  clear hK K
  try simp only [List.getElem_toArray, List.getElem_cons_zero, List.getElem_cons_succ, Act.put, List.setIfInBounds_toArray, List.set_cons_zero, List.set_cons_succ]
  refine wpAnyH_take (i := 12) (v := .bool (decide (orI (cmp a.s b.s) (cmpI a.kind b.kind) < 0))) rfl (by kernel_rfl) (by kernel_rfl) (by kernel_rfl) (fun _ _ _ h => h) (Or.inl ⟨by rfl, fun w hSw => by (try dsimp only at hSw); go_simp⟩) (by assumption) ?_
  try simp only [List.getElem_toArray, List.getElem_cons_zero, List.getElem_cons_succ, Act.put, List.setIfInBounds_toArray, List.set_cons_zero, List.set_cons_succ]
  refine wpAnyH_take (i := 13) (v := .bool (decide (orI (cmp a.s b.s) (cmpI a.kind b.kind) < 0))) rfl (by kernel_rfl) (by kernel_rfl) (by kernel_rfl) (fun _ _ _ h => h) (Or.inl ⟨by rfl, fun w hSw => by (try dsimp only at hSw); go_simp⟩) (by assumption) ?_
  try simp only [List.getElem_toArray, List.getElem_cons_zero, List.getElem_cons_succ, Act.put, List.setIfInBounds_toArray, List.set_cons_zero, List.set_cons_succ]
  refine wpAnyH_done (by kernel_rfl) ?_ _
  refine NoPanic.normal ?_
  have K1 := kept_trans K0 k0
  clear hHeld Z0
  go_wp2_with fail
  go_ret
  exact ⟨says_bool (orI_bh a b), K1⟩
end Go.Proofs.Ytgfmmipbadnhgaa
