/- The contracts of the program's comparison of two records. It turns nothing that was there. -/
import Derived.Test.YthgbdaladngpdaaGreatCmp
import Derived.Deep.RegionHeld3
namespace Go.Proofs.YthgbdaladngpdaaGreat
open Go.ChangeShapes Go.WideShapes Go.ChangeAt Go.RowKit
set_option linter.unusedVariables false
set_option maxRecDepth 100000
set_option linter.unusedSimpArgs false

theorem held16 {X Y T : Nat} {a b : R} {w0 w1 : World} (A0 : At w0 X #[.string a.key, .int .u64 a.s.p, .int .u32 a.s.l, .int .u8 a.s.n, .int .u8 a.kind, .int .u32 a.flags, .int .u64 a.exp, .string a.body] T) (B0 : At w0 Y #[.string b.key, .int .u64 b.s.p, .int .u32 b.s.l, .int .u8 b.s.n, .int .u8 b.kind, .int .u32 b.flags, .int .u64 b.exp, .string b.body] T) (k : Kept w0 w1) : (w1.cell? ⟨X, 0, none⟩ = some (.string a.key) ∧ w1.cell? ⟨X, 1, none⟩ = some (.int .u64 a.s.p) ∧ w1.cell? ⟨X, 2, none⟩ = some (.int .u32 a.s.l) ∧ w1.cell? ⟨X, 3, none⟩ = some (.int .u8 a.s.n) ∧ w1.cell? ⟨X, 4, none⟩ = some (.int .u8 a.kind) ∧ w1.cell? ⟨X, 5, none⟩ = some (.int .u32 a.flags) ∧ w1.cell? ⟨X, 6, none⟩ = some (.int .u64 a.exp) ∧ w1.cell? ⟨X, 7, none⟩ = some (.string a.body)) ∧ (w1.cell? ⟨Y, 0, none⟩ = some (.string b.key) ∧ w1.cell? ⟨Y, 1, none⟩ = some (.int .u64 b.s.p) ∧ w1.cell? ⟨Y, 2, none⟩ = some (.int .u32 b.s.l) ∧ w1.cell? ⟨Y, 3, none⟩ = some (.int .u8 b.s.n) ∧ w1.cell? ⟨Y, 4, none⟩ = some (.int .u8 b.kind) ∧ w1.cell? ⟨Y, 5, none⟩ = some (.int .u32 b.flags) ∧ w1.cell? ⟨Y, 6, none⟩ = some (.int .u64 b.exp) ∧ w1.cell? ⟨Y, 7, none⟩ = some (.string b.body)) :=
  ⟨at_cells8' (at_kept A0 k), at_cells8' (at_kept B0 k)⟩
theorem or5 (x0 x1 x2 x3 x4 : Int) (Z : Nat) (w : World) (h : At w Z #[.int .i64 x0, .int .i64 x1, .int .i64 x2, .int .i64 x3, .int .i64 x4] 3) :
    Calls Tryz.prog 69 #[.slice (some ⟨Z, 0, none⟩) 5 5] w fun e w' => e = .returned (.int .i64 (orI x0 (orI x1 (orI x2 (orI x3 x4))))) ∧ w' = w := by
  have hc := at_cells5 h
  have := or_any [x0, x1, x2, x3, x4] Z w (by simp) (fun k hk => by
    match k, hk with
    | 0, _ => exact hc.1
    | 1, _ => exact hc.2.1
    | 2, _ => exact hc.2.2.1
    | 3, _ => exact hc.2.2.2.1
    | 4, _ => exact hc.2.2.2.2.1)
  have e : firstI [x0, x1, x2, x3, x4] = orI x0 (orI x1 (orI x2 (orI x3 x4))) := by
    have : orI x4 0 = x4 := by unfold orI; split <;> simp_all
    simp only [firstI, this]
  rw [e] at this
  exact this
set_option maxHeartbeats 1600000 in
set_option maxRecDepth 100000 in
theorem Compare_any (a b : R) (w : World) :
    Calls Tryz.prog 39 #[.agg #[.string a.key, .int .u64 a.s.p, .int .u32 a.s.l, .int .u8 a.s.n, .int .u8 a.kind, .int .u32 a.flags, .int .u64 a.exp, .string a.body], .agg #[.string b.key, .int .u64 b.s.p, .int .u32 b.s.l, .int .u8 b.s.n, .int .u8 b.kind, .int .u32 b.flags, .int .u64 b.exp, .string b.body]] w fun e w' => e = .returned (.int .i64 (cmpR a b)) ∧ Kept w w' := by
  have K0 := kept_alloc (kept_alloc (kept_refl w) (.cells #[.string a.key, .int .u64 a.s.p, .int .u32 a.s.l, .int .u8 a.s.n, .int .u8 a.kind, .int .u32 a.flags, .int .u64 a.exp, .string a.body] 42)) (.cells #[.string b.key, .int .u64 b.s.p, .int .u32 b.s.l, .int .u8 b.s.n, .int .u8 b.kind, .int .u32 b.flags, .int .u64 b.exp, .string b.body] 42)
  have A0 := at_alloc (at_new w #[.string a.key, .int .u64 a.s.p, .int .u32 a.s.l, .int .u8 a.s.n, .int .u8 a.kind, .int .u32 a.flags, .int .u64 a.exp, .string a.body] 42) (.cells #[.string b.key, .int .u64 b.s.p, .int .u32 b.s.l, .int .u8 b.s.n, .int .u8 b.kind, .int .u32 b.flags, .int .u64 b.exp, .string b.body] 42)
  have B0 := at_new (w.alloc (.cells #[.string a.key, .int .u64 a.s.p, .int .u32 a.s.l, .int .u8 a.s.n, .int .u8 a.kind, .int .u32 a.flags, .int .u64 a.exp, .string a.body] 42)) #[.string b.key, .int .u64 b.s.p, .int .u32 b.s.l, .int .u8 b.s.n, .int .u8 b.kind, .int .u32 b.flags, .int .u64 b.exp, .string b.body] 42
  simp only [World.size_alloc] at B0
  go_enter Tryz.func39, Tryz.ntmps39
  go_wp2_with fail
  generalize (w.alloc (.cells #[.string a.key, .int .u64 a.s.p, .int .u32 a.s.l, .int .u8 a.s.n, .int .u8 a.kind, .int .u32 a.flags, .int .u64 a.exp, .string a.body] 42)).alloc (.cells #[.string b.key, .int .u64 b.s.p, .int .u32 b.s.l, .int .u8 b.s.n, .int .u8 b.kind, .int .u32 b.flags, .int .u64 b.exp, .string b.body] 42) = w0 at *
  generalize w.heap.size = X at *
  generalize X + 1 = Y at *
  have k0 : Kept w0 w0.drew := kept_refl w0
  refine wp_region_noPanic ?_
  refine wp_region_held_drew (S := (fun w' => (w'.cell? ⟨X, 0, none⟩ = some (.string a.key) ∧ w'.cell? ⟨X, 1, none⟩ = some (.int .u64 a.s.p) ∧ w'.cell? ⟨X, 2, none⟩ = some (.int .u32 a.s.l) ∧ w'.cell? ⟨X, 3, none⟩ = some (.int .u8 a.s.n) ∧ w'.cell? ⟨X, 4, none⟩ = some (.int .u8 a.kind) ∧ w'.cell? ⟨X, 5, none⟩ = some (.int .u32 a.flags) ∧ w'.cell? ⟨X, 6, none⟩ = some (.int .u64 a.exp) ∧ w'.cell? ⟨X, 7, none⟩ = some (.string a.body)) ∧ (w'.cell? ⟨Y, 0, none⟩ = some (.string b.key) ∧ w'.cell? ⟨Y, 1, none⟩ = some (.int .u64 b.s.p) ∧ w'.cell? ⟨Y, 2, none⟩ = some (.int .u32 b.s.l) ∧ w'.cell? ⟨Y, 3, none⟩ = some (.int .u8 b.s.n) ∧ w'.cell? ⟨Y, 4, none⟩ = some (.int .u8 b.kind) ∧ w'.cell? ⟨Y, 5, none⟩ = some (.int .u32 b.flags) ∧ w'.cell? ⟨Y, 6, none⟩ = some (.int .u64 b.exp) ∧ w'.cell? ⟨Y, 7, none⟩ = some (.string b.body)))) (by kernel_rfl) (held16 A0 B0 (by assumption)) (fun hHeld => ?_)
  refine wpAnyH_take (i := 0) (v := .pointer (some ⟨X, 1, none⟩)) rfl (by kernel_rfl) (by kernel_rfl) (by kernel_rfl) (fun _ _ _ h => h) (Or.inl ⟨by rfl, fun w hSw => by (try dsimp only at hSw); go_simp⟩) (by assumption) ?_
  try simp only [List.getElem_toArray, List.getElem_cons_zero, List.getElem_cons_succ, Act.put, List.setIfInBounds_toArray, List.set_cons_zero, List.set_cons_succ]
  refine wpAnyH_take (i := 1) (v := .agg #[.int .u64 a.s.p, .int .u32 a.s.l, .int .u8 a.s.n]) rfl (by kernel_rfl) (by kernel_rfl) (by kernel_rfl) (fun _ _ _ h => h) (Or.inl ⟨by rfl, fun w hSw => by (try dsimp only at hSw); go_simp⟩) (by assumption) ?_
  try simp only [List.getElem_toArray, List.getElem_cons_zero, List.getElem_cons_succ, Act.put, List.setIfInBounds_toArray, List.set_cons_zero, List.set_cons_succ]
  refine wpAnyH_take (i := 2) (v := .pointer (some ⟨Y, 1, none⟩)) rfl (by kernel_rfl) (by kernel_rfl) (by kernel_rfl) (fun _ _ _ h => h) (Or.inl ⟨by rfl, fun w hSw => by (try dsimp only at hSw); go_simp⟩) (by assumption) ?_
  try simp only [List.getElem_toArray, List.getElem_cons_zero, List.getElem_cons_succ, Act.put, List.setIfInBounds_toArray, List.set_cons_zero, List.set_cons_succ]
  refine wpAnyH_take (i := 3) (v := .agg #[.int .u64 b.s.p, .int .u32 b.s.l, .int .u8 b.s.n]) rfl (by kernel_rfl) (by kernel_rfl) (by kernel_rfl) (fun _ _ _ h => h) (Or.inl ⟨by rfl, fun w hSw => by (try dsimp only at hSw); go_simp⟩) (by assumption) ?_
  try simp only [List.getElem_toArray, List.getElem_cons_zero, List.getElem_cons_succ, Act.put, List.setIfInBounds_toArray, List.set_cons_zero, List.set_cons_succ]
  refine wpAnyH_take (i := 5) (v := .pointer (some ⟨X, 4, none⟩)) rfl (by kernel_rfl) (by kernel_rfl) (by kernel_rfl) (fun _ _ _ h => h) (Or.inl ⟨by rfl, fun w hSw => by (try dsimp only at hSw); go_simp⟩) (by assumption) ?_
  try simp only [List.getElem_toArray, List.getElem_cons_zero, List.getElem_cons_succ, Act.put, List.setIfInBounds_toArray, List.set_cons_zero, List.set_cons_succ]
  refine wpAnyH_take (i := 6) (v := .int .u8 a.kind) rfl (by kernel_rfl) (by kernel_rfl) (by kernel_rfl) (fun _ _ _ h => h) (Or.inl ⟨by rfl, fun w hSw => by (try dsimp only at hSw); go_simp⟩) (by assumption) ?_
  try simp only [List.getElem_toArray, List.getElem_cons_zero, List.getElem_cons_succ, Act.put, List.setIfInBounds_toArray, List.set_cons_zero, List.set_cons_succ]
  refine wpAnyH_take (i := 7) (v := .pointer (some ⟨Y, 4, none⟩)) rfl (by kernel_rfl) (by kernel_rfl) (by kernel_rfl) (fun _ _ _ h => h) (Or.inl ⟨by rfl, fun w hSw => by (try dsimp only at hSw); go_simp⟩) (by assumption) ?_
  try simp only [List.getElem_toArray, List.getElem_cons_zero, List.getElem_cons_succ, Act.put, List.setIfInBounds_toArray, List.set_cons_zero, List.set_cons_succ]
  refine wpAnyH_take (i := 8) (v := .int .u8 b.kind) rfl (by kernel_rfl) (by kernel_rfl) (by kernel_rfl) (fun _ _ _ h => h) (Or.inl ⟨by rfl, fun w hSw => by (try dsimp only at hSw); go_simp⟩) (by assumption) ?_
  try simp only [List.getElem_toArray, List.getElem_cons_zero, List.getElem_cons_succ, Act.put, List.setIfInBounds_toArray, List.set_cons_zero, List.set_cons_succ]
  refine wpAnyH_take (i := 10) (v := .pointer (some ⟨X, 7, none⟩)) rfl (by kernel_rfl) (by kernel_rfl) (by kernel_rfl) (fun _ _ _ h => h) (Or.inl ⟨by rfl, fun w hSw => by (try dsimp only at hSw); go_simp⟩) (by assumption) ?_
  try simp only [List.getElem_toArray, List.getElem_cons_zero, List.getElem_cons_succ, Act.put, List.setIfInBounds_toArray, List.set_cons_zero, List.set_cons_succ]
  refine wpAnyH_take (i := 11) (v := .string a.body) rfl (by kernel_rfl) (by kernel_rfl) (by kernel_rfl) (fun _ _ _ h => h) (Or.inl ⟨by rfl, fun w hSw => by (try dsimp only at hSw); go_simp⟩) (by assumption) ?_
  try simp only [List.getElem_toArray, List.getElem_cons_zero, List.getElem_cons_succ, Act.put, List.setIfInBounds_toArray, List.set_cons_zero, List.set_cons_succ]
  refine wpAnyH_take (i := 12) (v := .pointer (some ⟨Y, 7, none⟩)) rfl (by kernel_rfl) (by kernel_rfl) (by kernel_rfl) (fun _ _ _ h => h) (Or.inl ⟨by rfl, fun w hSw => by (try dsimp only at hSw); go_simp⟩) (by assumption) ?_
  try simp only [List.getElem_toArray, List.getElem_cons_zero, List.getElem_cons_succ, Act.put, List.setIfInBounds_toArray, List.set_cons_zero, List.set_cons_succ]
  refine wpAnyH_take (i := 13) (v := .string b.body) rfl (by kernel_rfl) (by kernel_rfl) (by kernel_rfl) (fun _ _ _ h => h) (Or.inl ⟨by rfl, fun w hSw => by (try dsimp only at hSw); go_simp⟩) (by assumption) ?_
  try simp only [List.getElem_toArray, List.getElem_cons_zero, List.getElem_cons_succ, Act.put, List.setIfInBounds_toArray, List.set_cons_zero, List.set_cons_succ]
  refine wpAnyH_take (i := 15) (v := .pointer (some ⟨X, 5, none⟩)) rfl (by kernel_rfl) (by kernel_rfl) (by kernel_rfl) (fun _ _ _ h => h) (Or.inl ⟨by rfl, fun w hSw => by (try dsimp only at hSw); go_simp⟩) (by assumption) ?_
  try simp only [List.getElem_toArray, List.getElem_cons_zero, List.getElem_cons_succ, Act.put, List.setIfInBounds_toArray, List.set_cons_zero, List.set_cons_succ]
  refine wpAnyH_take (i := 16) (v := .int .u32 a.flags) rfl (by kernel_rfl) (by kernel_rfl) (by kernel_rfl) (fun _ _ _ h => h) (Or.inl ⟨by rfl, fun w hSw => by (try dsimp only at hSw); go_simp⟩) (by assumption) ?_
  try simp only [List.getElem_toArray, List.getElem_cons_zero, List.getElem_cons_succ, Act.put, List.setIfInBounds_toArray, List.set_cons_zero, List.set_cons_succ]
  refine wpAnyH_take (i := 17) (v := .pointer (some ⟨Y, 5, none⟩)) rfl (by kernel_rfl) (by kernel_rfl) (by kernel_rfl) (fun _ _ _ h => h) (Or.inl ⟨by rfl, fun w hSw => by (try dsimp only at hSw); go_simp⟩) (by assumption) ?_
  try simp only [List.getElem_toArray, List.getElem_cons_zero, List.getElem_cons_succ, Act.put, List.setIfInBounds_toArray, List.set_cons_zero, List.set_cons_succ]
  refine wpAnyH_take (i := 18) (v := .int .u32 b.flags) rfl (by kernel_rfl) (by kernel_rfl) (by kernel_rfl) (fun _ _ _ h => h) (Or.inl ⟨by rfl, fun w hSw => by (try dsimp only at hSw); go_simp⟩) (by assumption) ?_
  try simp only [List.getElem_toArray, List.getElem_cons_zero, List.getElem_cons_succ, Act.put, List.setIfInBounds_toArray, List.set_cons_zero, List.set_cons_succ]
  refine wpAnyH_take (i := 20) (v := .pointer (some ⟨X, 6, none⟩)) rfl (by kernel_rfl) (by kernel_rfl) (by kernel_rfl) (fun _ _ _ h => h) (Or.inl ⟨by rfl, fun w hSw => by (try dsimp only at hSw); go_simp⟩) (by assumption) ?_
  try simp only [List.getElem_toArray, List.getElem_cons_zero, List.getElem_cons_succ, Act.put, List.setIfInBounds_toArray, List.set_cons_zero, List.set_cons_succ]
  refine wpAnyH_take (i := 21) (v := .int .u64 a.exp) rfl (by kernel_rfl) (by kernel_rfl) (by kernel_rfl) (fun _ _ _ h => h) (Or.inl ⟨by rfl, fun w hSw => by (try dsimp only at hSw); go_simp⟩) (by assumption) ?_
  try simp only [List.getElem_toArray, List.getElem_cons_zero, List.getElem_cons_succ, Act.put, List.setIfInBounds_toArray, List.set_cons_zero, List.set_cons_succ]
  refine wpAnyH_take (i := 22) (v := .pointer (some ⟨Y, 6, none⟩)) rfl (by kernel_rfl) (by kernel_rfl) (by kernel_rfl) (fun _ _ _ h => h) (Or.inl ⟨by rfl, fun w hSw => by (try dsimp only at hSw); go_simp⟩) (by assumption) ?_
  try simp only [List.getElem_toArray, List.getElem_cons_zero, List.getElem_cons_succ, Act.put, List.setIfInBounds_toArray, List.set_cons_zero, List.set_cons_succ]
  refine wpAnyH_take (i := 23) (v := .int .u64 b.exp) rfl (by kernel_rfl) (by kernel_rfl) (by kernel_rfl) (fun _ _ _ h => h) (Or.inl ⟨by rfl, fun w hSw => by (try dsimp only at hSw); go_simp⟩) (by assumption) ?_
  try simp only [List.getElem_toArray, List.getElem_cons_zero, List.getElem_cons_succ, Act.put, List.setIfInBounds_toArray, List.set_cons_zero, List.set_cons_succ]
  refine wpAnyH_ready (rs := [4]) (by kernel_rfl) (by simp) ?_
  refine AllReadyH.cons (i := 4) rfl (fun K hK => ?_) AllReadyH.nil
  go_simp
  refine (compare_any a.s b.s _).mono ?_
  rintro e w3 ⟨rfl, h3⟩
  replace k0 := kept_trans k0 h3
  clear h3
  clear hHeld
  show K _ _
  refine hK.out _ _ (held16 A0 B0 (by assumption)) (fun hHeld => ?_)
  clear hK K
  try simp only [List.getElem_toArray, List.getElem_cons_zero, List.getElem_cons_succ, Act.put, List.setIfInBounds_toArray, List.set_cons_zero, List.set_cons_succ]
  refine wpAnyH_ready (rs := [9]) (by kernel_rfl) (by simp) ?_
  refine AllReadyH.cons (i := 9) rfl (fun K hK => ?_) AllReadyH.nil
  go_simp
  refine (cmp8 a.kind b.kind _).mono ?_
  rintro e w3 ⟨rfl, rfl⟩
  clear hHeld
  show K _ _
  refine hK.out _ _ (held16 A0 B0 (by assumption)) (fun hHeld => ?_)
  clear hK K
  try simp only [List.getElem_toArray, List.getElem_cons_zero, List.getElem_cons_succ, Act.put, List.setIfInBounds_toArray, List.set_cons_zero, List.set_cons_succ]
  refine wpAnyH_ready (rs := [14]) (by kernel_rfl) (by simp) ?_
  refine AllReadyH.cons (i := 14) rfl (fun K hK => ?_) AllReadyH.nil
  go_simp
  refine (cmpText a.body b.body _).mono ?_
  rintro e w3 ⟨rfl, rfl⟩
  clear hHeld
  show K _ _
  refine hK.out _ _ (held16 A0 B0 (by assumption)) (fun hHeld => ?_)
  clear hK K
  try simp only [List.getElem_toArray, List.getElem_cons_zero, List.getElem_cons_succ, Act.put, List.setIfInBounds_toArray, List.set_cons_zero, List.set_cons_succ]
  refine wpAnyH_ready (rs := [19]) (by kernel_rfl) (by simp) ?_
  refine AllReadyH.cons (i := 19) rfl (fun K hK => ?_) AllReadyH.nil
  go_simp
  refine (cmp32 a.flags b.flags _).mono ?_
  rintro e w3 ⟨rfl, rfl⟩
  clear hHeld
  show K _ _
  refine hK.out _ _ (held16 A0 B0 (by assumption)) (fun hHeld => ?_)
  clear hK K
  try simp only [List.getElem_toArray, List.getElem_cons_zero, List.getElem_cons_succ, Act.put, List.setIfInBounds_toArray, List.set_cons_zero, List.set_cons_succ]
  refine wpAnyH_ready (rs := [24]) (by kernel_rfl) (by simp) ?_
  refine AllReadyH.cons (i := 24) rfl (fun K hK => ?_) AllReadyH.nil
  go_simp
  refine (cmp64 a.exp b.exp _).mono ?_
  rintro e w3 ⟨rfl, rfl⟩
  clear hHeld
  show K _ _
  refine hK.out _ _ (held16 A0 B0 (by assumption)) (fun hHeld => ?_)
  clear hK K
  try simp only [List.getElem_toArray, List.getElem_cons_zero, List.getElem_cons_succ, Act.put, List.setIfInBounds_toArray, List.set_cons_zero, List.set_cons_succ]
  refine wpAnyH_ready (rs := [25]) (by kernel_rfl) (by simp) ?_
  refine AllReadyH.cons (i := 25) rfl (fun K hK => ?_) AllReadyH.nil
  have Z0 := at_new w3 #[.int .i64 (cmp a.s b.s), .int .i64 (cmpI a.kind b.kind), .int .i64 (cmpB a.body b.body), .int .i64 (cmpI a.flags b.flags), .int .i64 (cmpI a.exp b.exp)] 3
  replace k0 := kept_alloc k0 (.cells #[.int .i64 (cmp a.s b.s), .int .i64 (cmpI a.kind b.kind), .int .i64 (cmpB a.body b.body), .int .i64 (cmpI a.flags b.flags), .int .i64 (cmpI a.exp b.exp)] 3)
  go_simp
  clear hHeld
  show K _ _
  refine hK.out _ _ (held16 A0 B0 (by assumption)) (fun hHeld => ?_)
  clear hK K
  try simp only [List.getElem_toArray, List.getElem_cons_zero, List.getElem_cons_succ, Act.put, List.setIfInBounds_toArray, List.set_cons_zero, List.set_cons_succ]
  refine wpAnyH_ready (rs := [26]) (by kernel_rfl) (by simp) ?_
  refine AllReadyH.cons (i := 26) rfl (fun K hK => ?_) AllReadyH.nil
  go_simp
  refine (or5 _ _ _ _ _ _ _ Z0).mono ?_
  rintro e w3 ⟨rfl, rfl⟩
  clear hHeld
  show K _ _
  refine hK.out _ _ (held16 A0 B0 (by assumption)) (fun hHeld => ?_)
  clear hK K
  try simp only [List.getElem_toArray, List.getElem_cons_zero, List.getElem_cons_succ, Act.put, List.setIfInBounds_toArray, List.set_cons_zero, List.set_cons_succ]
  refine wpAnyH_take (i := 27) (v := .int .i64 (orI (cmp a.s b.s) (orI (cmpI a.kind b.kind) (orI (cmpB a.body b.body) (orI (cmpI a.flags b.flags) (cmpI a.exp b.exp)))))) rfl (by kernel_rfl) (by kernel_rfl) (by kernel_rfl) (fun _ _ _ h => h) (Or.inl ⟨by rfl, fun w hSw => by (try dsimp only at hSw); go_simp⟩) (by assumption) ?_
  try simp only [List.getElem_toArray, List.getElem_cons_zero, List.getElem_cons_succ, Act.put, List.setIfInBounds_toArray, List.set_cons_zero, List.set_cons_succ]
  refine wpAnyH_done (by kernel_rfl) ?_ _
  refine NoPanic.normal ?_
  have K1 := kept_trans K0 k0
  go_wp2_with fail
  go_ret
  exact ⟨rfl, K1⟩
end Go.Proofs.YthgbdaladngpdaaGreat
