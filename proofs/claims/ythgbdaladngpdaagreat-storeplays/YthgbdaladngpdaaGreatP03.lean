/- The contracts of the program's comparison of two records. It turns nothing that was there. Records in memory: eight cells; a record stored whole; a record as a result. No condition. The contract of the library's strings.Clone. The text has at most 2^47 bytes. The contracts of the program's fresh and Join: a record whose texts are of their own; the one that stands behind. They turn nothing that was there. Texts have at most 2^47 bytes. Plain mathematics of a table of keys in slots: from each key's home up to its slot no slot is empty; what setting and dropping leave of it. No condition but that -/
import Derived.Test.YthgbdaladngpdaaGreatP02
import Derived.Deep.RegionHeld3
import Derived.Shelf.Pu.Clone
import Derived.OpenShut
/- The contracts of the program's comparison of two records. It turns nothing that was there. -/
namespace Go.Proofs.YthgbdaladngpdaaGreat
open Go.ChangeShapes Go.WideShapes Go.ChangeAt Go.RowKit
set_option linter.unusedVariables false
set_option maxRecDepth 100000
set_option linter.unusedSimpArgs false

theorem held16 {X Y T : Nat} {a b : R} {w0 w1 : World} (A0 : At w0 X #[.string a.key, .int .u64 a.s.p, .int .u32 a.s.l, .int .u8 a.s.n, .int .u8 a.kind, .int .u32 a.flags, .int .u64 a.exp, .string a.body] T) (B0 : At w0 Y #[.string b.key, .int .u64 b.s.p, .int .u32 b.s.l, .int .u8 b.s.n, .int .u8 b.kind, .int .u32 b.flags, .int .u64 b.exp, .string b.body] T) (k : Kept w0 w1) : (w1.cell? ⟨X, 0, none⟩ = some (.string a.key) ∧ w1.cell? ⟨X, 1, none⟩ = some (.int .u64 a.s.p) ∧ w1.cell? ⟨X, 2, none⟩ = some (.int .u32 a.s.l) ∧ w1.cell? ⟨X, 3, none⟩ = some (.int .u8 a.s.n) ∧ w1.cell? ⟨X, 4, none⟩ = some (.int .u8 a.kind) ∧ w1.cell? ⟨X, 5, none⟩ = some (.int .u32 a.flags) ∧ w1.cell? ⟨X, 6, none⟩ = some (.int .u64 a.exp) ∧ w1.cell? ⟨X, 7, none⟩ = some (.string a.body)) ∧ (w1.cell? ⟨Y, 0, none⟩ = some (.string b.key) ∧ w1.cell? ⟨Y, 1, none⟩ = some (.int .u64 b.s.p) ∧ w1.cell? ⟨Y, 2, none⟩ = some (.int .u32 b.s.l) ∧ w1.cell? ⟨Y, 3, none⟩ = some (.int .u8 b.s.n) ∧ w1.cell? ⟨Y, 4, none⟩ = some (.int .u8 b.kind) ∧ w1.cell? ⟨Y, 5, none⟩ = some (.int .u32 b.flags) ∧ w1.cell? ⟨Y, 6, none⟩ = some (.int .u64 b.exp) ∧ w1.cell? ⟨Y, 7, none⟩ = some (.string b.body)) :=
  ⟨at_cells8' (at_kept A0 k), at_cells8' (at_kept B0 k)⟩
theorem or5 (x0 x1 x2 x3 x4 : Int) (Z : Nat) (w : World) (h : At w Z #[.int .i64 x0, .int .i64 x1, .int .i64 x2, .int .i64 x3, .int .i64 x4] 3) :
    Calls Tryz.prog 69 #[.slice (some ⟨Z, 0, none⟩) 5 5] w fun e w' => e = .returned (.int .i64 (orI x0 (orI x1 (orI x2 (orI x3 x4))))) ∧ w' = w := by
  have hc := at_cells5 h
  have := or_any [x0, x1, x2, x3, x4] Z w (by simp) (fun k hk => by
    match k, hk with
    | 0, _ => exact hc.1
    | 1, _ => exact hc.2.1
    | 2, _ => exact hc.2.2.1
    | 3, _ => exact hc.2.2.2.1
    | 4, _ => exact hc.2.2.2.2.1)
  have e : firstI [x0, x1, x2, x3, x4] = orI x0 (orI x1 (orI x2 (orI x3 x4))) := by
    have : orI x4 0 = x4 := by unfold orI; split <;> simp_all
    simp only [firstI, this]
  rw [e] at this
  exact this
set_option maxHeartbeats 1600000 in
set_option maxRecDepth 100000 in
theorem Compare_any (a b : R) (w : World) :
    Calls Tryz.prog 39 #[.agg #[.string a.key, .int .u64 a.s.p, .int .u32 a.s.l, .int .u8 a.s.n, .int .u8 a.kind, .int .u32 a.flags, .int .u64 a.exp, .string a.body], .agg #[.string b.key, .int .u64 b.s.p, .int .u32 b.s.l, .int .u8 b.s.n, .int .u8 b.kind, .int .u32 b.flags, .int .u64 b.exp, .string b.body]] w fun e w' => e = .returned (.int .i64 (cmpR a b)) ∧ Kept w w' := by
  have K0 := kept_alloc (kept_alloc (kept_refl w) (.cells #[.string a.key, .int .u64 a.s.p, .int .u32 a.s.l, .int .u8 a.s.n, .int .u8 a.kind, .int .u32 a.flags, .int .u64 a.exp, .string a.body] 42)) (.cells #[.string b.key, .int .u64 b.s.p, .int .u32 b.s.l, .int .u8 b.s.n, .int .u8 b.kind, .int .u32 b.flags, .int .u64 b.exp, .string b.body] 42)
  have A0 := at_alloc (at_new w #[.string a.key, .int .u64 a.s.p, .int .u32 a.s.l, .int .u8 a.s.n, .int .u8 a.kind, .int .u32 a.flags, .int .u64 a.exp, .string a.body] 42) (.cells #[.string b.key, .int .u64 b.s.p, .int .u32 b.s.l, .int .u8 b.s.n, .int .u8 b.kind, .int .u32 b.flags, .int .u64 b.exp, .string b.body] 42)
  have B0 := at_new (w.alloc (.cells #[.string a.key, .int .u64 a.s.p, .int .u32 a.s.l, .int .u8 a.s.n, .int .u8 a.kind, .int .u32 a.flags, .int .u64 a.exp, .string a.body] 42)) #[.string b.key, .int .u64 b.s.p, .int .u32 b.s.l, .int .u8 b.s.n, .int .u8 b.kind, .int .u32 b.flags, .int .u64 b.exp, .string b.body] 42
  simp only [World.size_alloc] at B0
  go_enter Tryz.func39, Tryz.ntmps39
  go_wp2_with fail
  generalize (w.alloc (.cells #[.string a.key, .int .u64 a.s.p, .int .u32 a.s.l, .int .u8 a.s.n, .int .u8 a.kind, .int .u32 a.flags, .int .u64 a.exp, .string a.body] 42)).alloc (.cells #[.string b.key, .int .u64 b.s.p, .int .u32 b.s.l, .int .u8 b.s.n, .int .u8 b.kind, .int .u32 b.flags, .int .u64 b.exp, .string b.body] 42) = w0 at *
  generalize w.heap.size = X at *
  generalize X + 1 = Y at *
  have k0 : Kept w0 w0.drew := kept_refl w0
  refine wp_region_noPanic ?_
  refine wp_region_held_drew (S := (fun w' => (w'.cell? ⟨X, 0, none⟩ = some (.string a.key) ∧ w'.cell? ⟨X, 1, none⟩ = some (.int .u64 a.s.p) ∧ w'.cell? ⟨X, 2, none⟩ = some (.int .u32 a.s.l) ∧ w'.cell? ⟨X, 3, none⟩ = some (.int .u8 a.s.n) ∧ w'.cell? ⟨X, 4, none⟩ = some (.int .u8 a.kind) ∧ w'.cell? ⟨X, 5, none⟩ = some (.int .u32 a.flags) ∧ w'.cell? ⟨X, 6, none⟩ = some (.int .u64 a.exp) ∧ w'.cell? ⟨X, 7, none⟩ = some (.string a.body)) ∧ (w'.cell? ⟨Y, 0, none⟩ = some (.string b.key) ∧ w'.cell? ⟨Y, 1, none⟩ = some (.int .u64 b.s.p) ∧ w'.cell? ⟨Y, 2, none⟩ = some (.int .u32 b.s.l) ∧ w'.cell? ⟨Y, 3, none⟩ = some (.int .u8 b.s.n) ∧ w'.cell? ⟨Y, 4, none⟩ = some (.int .u8 b.kind) ∧ w'.cell? ⟨Y, 5, none⟩ = some (.int .u32 b.flags) ∧ w'.cell? ⟨Y, 6, none⟩ = some (.int .u64 b.exp) ∧ w'.cell? ⟨Y, 7, none⟩ = some (.string b.body)))) (by kernel_rfl) (held16 A0 B0 (by assumption)) (fun hHeld => ?_)
  refine wpAnyH_take (i := 0) (v := .pointer (some ⟨X, 1, none⟩)) rfl (by kernel_rfl) (by kernel_rfl) (by kernel_rfl) (fun _ _ _ h => h) (Or.inl ⟨by rfl, fun w hSw => by (try dsimp only at hSw); go_simp⟩) (by assumption) ?_
  try simp only [List.getElem_toArray, List.getElem_cons_zero, List.getElem_cons_succ, Act.put, List.setIfInBounds_toArray, List.set_cons_zero, List.set_cons_succ]
  refine wpAnyH_take (i := 1) (v := .agg #[.int .u64 a.s.p, .int .u32 a.s.l, .int .u8 a.s.n]) rfl (by kernel_rfl) (by kernel_rfl) (by kernel_rfl) (fun _ _ _ h => h) (Or.inl ⟨by rfl, fun w hSw => by (try dsimp only at hSw); go_simp⟩) (by assumption) ?_
  try simp only [List.getElem_toArray, List.getElem_cons_zero, List.getElem_cons_succ, Act.put, List.setIfInBounds_toArray, List.set_cons_zero, List.set_cons_succ]
  refine wpAnyH_take (i := 2) (v := .pointer (some ⟨Y, 1, none⟩)) rfl (by kernel_rfl) (by kernel_rfl) (by kernel_rfl) (fun _ _ _ h => h) (Or.inl ⟨by rfl, fun w hSw => by (try dsimp only at hSw); go_simp⟩) (by assumption) ?_
  try simp only [List.getElem_toArray, List.getElem_cons_zero, List.getElem_cons_succ, Act.put, List.setIfInBounds_toArray, List.set_cons_zero, List.set_cons_succ]
  refine wpAnyH_take (i := 3) (v := .agg #[.int .u64 b.s.p, .int .u32 b.s.l, .int .u8 b.s.n]) rfl (by kernel_rfl) (by kernel_rfl) (by kernel_rfl) (fun _ _ _ h => h) (Or.inl ⟨by rfl, fun w hSw => by (try dsimp only at hSw); go_simp⟩) (by assumption) ?_
  try simp only [List.getElem_toArray, List.getElem_cons_zero, List.getElem_cons_succ, Act.put, List.setIfInBounds_toArray, List.set_cons_zero, List.set_cons_succ]
  refine wpAnyH_take (i := 5) (v := .pointer (some ⟨X, 4, none⟩)) rfl (by kernel_rfl) (by kernel_rfl) (by kernel_rfl) (fun _ _ _ h => h) (Or.inl ⟨by rfl, fun w hSw => by (try dsimp only at hSw); go_simp⟩) (by assumption) ?_
  try simp only [List.getElem_toArray, List.getElem_cons_zero, List.getElem_cons_succ, Act.put, List.setIfInBounds_toArray, List.set_cons_zero, List.set_cons_succ]
  refine wpAnyH_take (i := 6) (v := .int .u8 a.kind) rfl (by kernel_rfl) (by kernel_rfl) (by kernel_rfl) (fun _ _ _ h => h) (Or.inl ⟨by rfl, fun w hSw => by (try dsimp only at hSw); go_simp⟩) (by assumption) ?_
  try simp only [List.getElem_toArray, List.getElem_cons_zero, List.getElem_cons_succ, Act.put, List.setIfInBounds_toArray, List.set_cons_zero, List.set_cons_succ]
  refine wpAnyH_take (i := 7) (v := .pointer (some ⟨Y, 4, none⟩)) rfl (by kernel_rfl) (by kernel_rfl) (by kernel_rfl) (fun _ _ _ h => h) (Or.inl ⟨by rfl, fun w hSw => by (try dsimp only at hSw); go_simp⟩) (by assumption) ?_
  try simp only [List.getElem_toArray, List.getElem_cons_zero, List.getElem_cons_succ, Act.put, List.setIfInBounds_toArray, List.set_cons_zero, List.set_cons_succ]
  refine wpAnyH_take (i := 8) (v := .int .u8 b.kind) rfl (by kernel_rfl) (by kernel_rfl) (by kernel_rfl) (fun _ _ _ h => h) (Or.inl ⟨by rfl, fun w hSw => by (try dsimp only at hSw); go_simp⟩) (by assumption) ?_
  try simp only [List.getElem_toArray, List.getElem_cons_zero, List.getElem_cons_succ, Act.put, List.setIfInBounds_toArray, List.set_cons_zero, List.set_cons_succ]
  refine wpAnyH_take (i := 10) (v := .pointer (some ⟨X, 7, none⟩)) rfl (by kernel_rfl) (by kernel_rfl) (by kernel_rfl) (fun _ _ _ h => h) (Or.inl ⟨by rfl, fun w hSw => by (try dsimp only at hSw); go_simp⟩) (by assumption) ?_
  try simp only [List.getElem_toArray, List.getElem_cons_zero, List.getElem_cons_succ, Act.put, List.setIfInBounds_toArray, List.set_cons_zero, List.set_cons_succ]
  refine wpAnyH_take (i := 11) (v := .string a.body) rfl (by kernel_rfl) (by kernel_rfl) (by kernel_rfl) (fun _ _ _ h => h) (Or.inl ⟨by rfl, fun w hSw => by (try dsimp only at hSw); go_simp⟩) (by assumption) ?_
  try simp only [List.getElem_toArray, List.getElem_cons_zero, List.getElem_cons_succ, Act.put, List.setIfInBounds_toArray, List.set_cons_zero, List.set_cons_succ]
  refine wpAnyH_take (i := 12) (v := .pointer (some ⟨Y, 7, none⟩)) rfl (by kernel_rfl) (by kernel_rfl) (by kernel_rfl) (fun _ _ _ h => h) (Or.inl ⟨by rfl, fun w hSw => by (try dsimp only at hSw); go_simp⟩) (by assumption) ?_
  try simp only [List.getElem_toArray, List.getElem_cons_zero, List.getElem_cons_succ, Act.put, List.setIfInBounds_toArray, List.set_cons_zero, List.set_cons_succ]
  refine wpAnyH_take (i := 13) (v := .string b.body) rfl (by kernel_rfl) (by kernel_rfl) (by kernel_rfl) (fun _ _ _ h => h) (Or.inl ⟨by rfl, fun w hSw => by (try dsimp only at hSw); go_simp⟩) (by assumption) ?_
  try simp only [List.getElem_toArray, List.getElem_cons_zero, List.getElem_cons_succ, Act.put, List.setIfInBounds_toArray, List.set_cons_zero, List.set_cons_succ]
  refine wpAnyH_take (i := 15) (v := .pointer (some ⟨X, 5, none⟩)) rfl (by kernel_rfl) (by kernel_rfl) (by kernel_rfl) (fun _ _ _ h => h) (Or.inl ⟨by rfl, fun w hSw => by (try dsimp only at hSw); go_simp⟩) (by assumption) ?_
  try simp only [List.getElem_toArray, List.getElem_cons_zero, List.getElem_cons_succ, Act.put, List.setIfInBounds_toArray, List.set_cons_zero, List.set_cons_succ]
  refine wpAnyH_take (i := 16) (v := .int .u32 a.flags) rfl (by kernel_rfl) (by kernel_rfl) (by kernel_rfl) (fun _ _ _ h => h) (Or.inl ⟨by rfl, fun w hSw => by (try dsimp only at hSw); go_simp⟩) (by assumption) ?_
  try simp only [List.getElem_toArray, List.getElem_cons_zero, List.getElem_cons_succ, Act.put, List.setIfInBounds_toArray, List.set_cons_zero, List.set_cons_succ]
  refine wpAnyH_take (i := 17) (v := .pointer (some ⟨Y, 5, none⟩)) rfl (by kernel_rfl) (by kernel_rfl) (by kernel_rfl) (fun _ _ _ h => h) (Or.inl ⟨by rfl, fun w hSw => by (try dsimp only at hSw); go_simp⟩) (by assumption) ?_
  try simp only [List.getElem_toArray, List.getElem_cons_zero, List.getElem_cons_succ, Act.put, List.setIfInBounds_toArray, List.set_cons_zero, List.set_cons_succ]
  refine wpAnyH_take (i := 18) (v := .int .u32 b.flags) rfl (by kernel_rfl) (by kernel_rfl) (by kernel_rfl) (fun _ _ _ h => h) (Or.inl ⟨by rfl, fun w hSw => by (try dsimp only at hSw); go_simp⟩) (by assumption) ?_
  try simp only [List.getElem_toArray, List.getElem_cons_zero, List.getElem_cons_succ, Act.put, List.setIfInBounds_toArray, List.set_cons_zero, List.set_cons_succ]
  refine wpAnyH_take (i := 20) (v := .pointer (some ⟨X, 6, none⟩)) rfl (by kernel_rfl) (by kernel_rfl) (by kernel_rfl) (fun _ _ _ h => h) (Or.inl ⟨by rfl, fun w hSw => by (try dsimp only at hSw); go_simp⟩) (by assumption) ?_
  try simp only [List.getElem_toArray, List.getElem_cons_zero, List.getElem_cons_succ, Act.put, List.setIfInBounds_toArray, List.set_cons_zero, List.set_cons_succ]
  refine wpAnyH_take (i := 21) (v := .int .u64 a.exp) rfl (by kernel_rfl) (by kernel_rfl) (by kernel_rfl) (fun _ _ _ h => h) (Or.inl ⟨by rfl, fun w hSw => by (try dsimp only at hSw); go_simp⟩) (by assumption) ?_
  try simp only [List.getElem_toArray, List.getElem_cons_zero, List.getElem_cons_succ, Act.put, List.setIfInBounds_toArray, List.set_cons_zero, List.set_cons_succ]
  refine wpAnyH_take (i := 22) (v := .pointer (some ⟨Y, 6, none⟩)) rfl (by kernel_rfl) (by kernel_rfl) (by kernel_rfl) (fun _ _ _ h => h) (Or.inl ⟨by rfl, fun w hSw => by (try dsimp only at hSw); go_simp⟩) (by assumption) ?_
  try simp only [List.getElem_toArray, List.getElem_cons_zero, List.getElem_cons_succ, Act.put, List.setIfInBounds_toArray, List.set_cons_zero, List.set_cons_succ]
  refine wpAnyH_take (i := 23) (v := .int .u64 b.exp) rfl (by kernel_rfl) (by kernel_rfl) (by kernel_rfl) (fun _ _ _ h => h) (Or.inl ⟨by rfl, fun w hSw => by (try dsimp only at hSw); go_simp⟩) (by assumption) ?_
  try simp only [List.getElem_toArray, List.getElem_cons_zero, List.getElem_cons_succ, Act.put, List.setIfInBounds_toArray, List.set_cons_zero, List.set_cons_succ]
  refine wpAnyH_ready (rs := [4]) (by kernel_rfl) (by simp) ?_
  refine AllReadyH.cons (i := 4) rfl (fun K hK => ?_) AllReadyH.nil
  go_simp
  refine (compare_any a.s b.s _).mono ?_
  rintro e w3 ⟨rfl, h3⟩
  replace k0 := kept_trans k0 h3
  clear h3
  clear hHeld
  show K _ _
  refine hK.out _ _ (held16 A0 B0 (by assumption)) (fun hHeld => ?_)
  clear hK K
  try simp only [List.getElem_toArray, List.getElem_cons_zero, List.getElem_cons_succ, Act.put, List.setIfInBounds_toArray, List.set_cons_zero, List.set_cons_succ]
  refine wpAnyH_ready (rs := [9]) (by kernel_rfl) (by simp) ?_
  refine AllReadyH.cons (i := 9) rfl (fun K hK => ?_) AllReadyH.nil
  go_simp
  refine (cmp8 a.kind b.kind _).mono ?_
  rintro e w3 ⟨rfl, rfl⟩
  clear hHeld
  show K _ _
  refine hK.out _ _ (held16 A0 B0 (by assumption)) (fun hHeld => ?_)
  clear hK K
  try simp only [List.getElem_toArray, List.getElem_cons_zero, List.getElem_cons_succ, Act.put, List.setIfInBounds_toArray, List.set_cons_zero, List.set_cons_succ]
  refine wpAnyH_ready (rs := [14]) (by kernel_rfl) (by simp) ?_
  refine AllReadyH.cons (i := 14) rfl (fun K hK => ?_) AllReadyH.nil
  go_simp
  refine (cmpText a.body b.body _).mono ?_
  rintro e w3 ⟨rfl, rfl⟩
  clear hHeld
  show K _ _
  refine hK.out _ _ (held16 A0 B0 (by assumption)) (fun hHeld => ?_)
  clear hK K
  try simp only [List.getElem_toArray, List.getElem_cons_zero, List.getElem_cons_succ, Act.put, List.setIfInBounds_toArray, List.set_cons_zero, List.set_cons_succ]
  refine wpAnyH_ready (rs := [19]) (by kernel_rfl) (by simp) ?_
  refine AllReadyH.cons (i := 19) rfl (fun K hK => ?_) AllReadyH.nil
  go_simp
  refine (cmp32 a.flags b.flags _).mono ?_
  rintro e w3 ⟨rfl, rfl⟩
  clear hHeld
  show K _ _
  refine hK.out _ _ (held16 A0 B0 (by assumption)) (fun hHeld => ?_)
  clear hK K
  try simp only [List.getElem_toArray, List.getElem_cons_zero, List.getElem_cons_succ, Act.put, List.setIfInBounds_toArray, List.set_cons_zero, List.set_cons_succ]
  refine wpAnyH_ready (rs := [24]) (by kernel_rfl) (by simp) ?_
  refine AllReadyH.cons (i := 24) rfl (fun K hK => ?_) AllReadyH.nil
  go_simp
  refine (cmp64 a.exp b.exp _).mono ?_
  rintro e w3 ⟨rfl, rfl⟩
  clear hHeld
  show K _ _
  refine hK.out _ _ (held16 A0 B0 (by assumption)) (fun hHeld => ?_)
  clear hK K
  try simp only [List.getElem_toArray, List.getElem_cons_zero, List.getElem_cons_succ, Act.put, List.setIfInBounds_toArray, List.set_cons_zero, List.set_cons_succ]
  refine wpAnyH_ready (rs := [25]) (by kernel_rfl) (by simp) ?_
  refine AllReadyH.cons (i := 25) rfl (fun K hK => ?_) AllReadyH.nil
  have Z0 := at_new w3 #[.int .i64 (cmp a.s b.s), .int .i64 (cmpI a.kind b.kind), .int .i64 (cmpB a.body b.body), .int .i64 (cmpI a.flags b.flags), .int .i64 (cmpI a.exp b.exp)] 3
  replace k0 := kept_alloc k0 (.cells #[.int .i64 (cmp a.s b.s), .int .i64 (cmpI a.kind b.kind), .int .i64 (cmpB a.body b.body), .int .i64 (cmpI a.flags b.flags), .int .i64 (cmpI a.exp b.exp)] 3)
  go_simp
  clear hHeld
  show K _ _
  refine hK.out _ _ (held16 A0 B0 (by assumption)) (fun hHeld => ?_)
  clear hK K
  try simp only [List.getElem_toArray, List.getElem_cons_zero, List.getElem_cons_succ, Act.put, List.setIfInBounds_toArray, List.set_cons_zero, List.set_cons_succ]
  refine wpAnyH_ready (rs := [26]) (by kernel_rfl) (by simp) ?_
  refine AllReadyH.cons (i := 26) rfl (fun K hK => ?_) AllReadyH.nil
  go_simp
  refine (or5 _ _ _ _ _ _ _ Z0).mono ?_
  rintro e w3 ⟨rfl, rfl⟩
  clear hHeld
  show K _ _
  refine hK.out _ _ (held16 A0 B0 (by assumption)) (fun hHeld => ?_)
  clear hK K
  try simp only [List.getElem_toArray, List.getElem_cons_zero, List.getElem_cons_succ, Act.put, List.setIfInBounds_toArray, List.set_cons_zero, List.set_cons_succ]
  refine wpAnyH_take (i := 27) (v := .int .i64 (orI (cmp a.s b.s) (orI (cmpI a.kind b.kind) (orI (cmpB a.body b.body) (orI (cmpI a.flags b.flags) (cmpI a.exp b.exp)))))) rfl (by kernel_rfl) (by kernel_rfl) (by kernel_rfl) (fun _ _ _ h => h) (Or.inl ⟨by rfl, fun w hSw => by (try dsimp only at hSw); go_simp⟩) (by assumption) ?_
  try simp only [List.getElem_toArray, List.getElem_cons_zero, List.getElem_cons_succ, Act.put, List.setIfInBounds_toArray, List.set_cons_zero, List.set_cons_succ]
  refine wpAnyH_done (by kernel_rfl) ?_ _
  refine NoPanic.normal ?_
  have K1 := kept_trans K0 k0
  go_wp2_with fail
  go_ret
  exact ⟨rfl, K1⟩
end Go.Proofs.YthgbdaladngpdaaGreat

/- Records in memory: eight cells; a record stored whole; a record as a result. No condition. -/
namespace Go.Proofs.YthgbdaladngpdaaGreat
open Go.ChangeShapes Go.WideShapes Go.ChangeAt Go.RowKit
set_option linter.unusedVariables false
set_option maxRecDepth 100000
set_option linter.unusedSimpArgs false


def set8 (w : World) (G : Nat) (a0 a1 a2 a3 a4 a5 a6 a7 : Value) : World := (((((((w.setCell ⟨G, 0, none⟩ a0).setCell ⟨G, 1, none⟩ a1).setCell ⟨G, 2, none⟩ a2).setCell ⟨G, 3, none⟩ a3).setCell ⟨G, 4, none⟩ a4).setCell ⟨G, 5, none⟩ a5).setCell ⟨G, 6, none⟩ a6).setCell ⟨G, 7, none⟩ a7
theorem at_set8 {w : World} {G T : Nat} {v0 v1 v2 v3 v4 v5 v6 v7 : Value} (h : At w G #[v0, v1, v2, v3, v4, v5, v6, v7] T) (a0 a1 a2 a3 a4 a5 a6 a7 : Value) : At (set8 w G a0 a1 a2 a3 a4 a5 a6 a7) G #[a0, a1, a2, a3, a4, a5, a6, a7] T := by
  have h0 : At (w.setCell ⟨G, 0, none⟩ a0) G #[a0, v1, v2, v3, v4, v5, v6, v7] T := at_set h 0 a0
  have h1 : At ((w.setCell ⟨G, 0, none⟩ a0).setCell ⟨G, 1, none⟩ a1) G #[a0, a1, v2, v3, v4, v5, v6, v7] T := at_set h0 1 a1
  have h2 : At (((w.setCell ⟨G, 0, none⟩ a0).setCell ⟨G, 1, none⟩ a1).setCell ⟨G, 2, none⟩ a2) G #[a0, a1, a2, v3, v4, v5, v6, v7] T := at_set h1 2 a2
  have h3 : At ((((w.setCell ⟨G, 0, none⟩ a0).setCell ⟨G, 1, none⟩ a1).setCell ⟨G, 2, none⟩ a2).setCell ⟨G, 3, none⟩ a3) G #[a0, a1, a2, a3, v4, v5, v6, v7] T := at_set h2 3 a3
  have h4 : At (((((w.setCell ⟨G, 0, none⟩ a0).setCell ⟨G, 1, none⟩ a1).setCell ⟨G, 2, none⟩ a2).setCell ⟨G, 3, none⟩ a3).setCell ⟨G, 4, none⟩ a4) G #[a0, a1, a2, a3, a4, v5, v6, v7] T := at_set h3 4 a4
  have h5 : At ((((((w.setCell ⟨G, 0, none⟩ a0).setCell ⟨G, 1, none⟩ a1).setCell ⟨G, 2, none⟩ a2).setCell ⟨G, 3, none⟩ a3).setCell ⟨G, 4, none⟩ a4).setCell ⟨G, 5, none⟩ a5) G #[a0, a1, a2, a3, a4, a5, v6, v7] T := at_set h4 5 a5
  have h6 : At (((((((w.setCell ⟨G, 0, none⟩ a0).setCell ⟨G, 1, none⟩ a1).setCell ⟨G, 2, none⟩ a2).setCell ⟨G, 3, none⟩ a3).setCell ⟨G, 4, none⟩ a4).setCell ⟨G, 5, none⟩ a5).setCell ⟨G, 6, none⟩ a6) G #[a0, a1, a2, a3, a4, a5, a6, v7] T := at_set h5 6 a6
  exact at_set h6 7 a7
theorem at_other8 {w : World} {G X T : Nat} {cs : Array Value} (h : At w X cs T) (hn : X ≠ G) (a0 a1 a2 a3 a4 a5 a6 a7 : Value) : At (set8 w G a0 a1 a2 a3 a4 a5 a6 a7) X cs T :=
  at_other (at_other (at_other (at_other (at_other (at_other (at_other (at_other h hn 0 a0) hn 1 a1) hn 2 a2) hn 3 a3) hn 4 a4) hn 5 a5) hn 6 a6) hn 7 a7
theorem kept_set8 {W w : World} (h : Kept W w) {G : Nat} (hG : W.heap.size ≤ G) (a0 a1 a2 a3 a4 a5 a6 a7 : Value) : Kept W (set8 w G a0 a1 a2 a3 a4 a5 a6 a7) :=
  kept_set (kept_set (kept_set (kept_set (kept_set (kept_set (kept_set (kept_set h hG 0 a0) hG 1 a1) hG 2 a2) hG 3 a3) hG 4 a4) hG 5 a5) hG 6 a6) hG 7 a7
/- What is stored is what was there. -/

theorem zero27 (w : World) : (zeroValue 42).run Tryz.prog w = .ok (.agg #[.string ⟨#[]⟩, .int .u64 0, .int .u32 0, .int .u8 0, .int .u8 0, .int .u32 0, .int .u64 0, .string ⟨#[]⟩]) w := by kernel_rfl
theorem load27 {w : World} {X T : Nat} {v0 v1 v2 v3 v4 v5 v6 v7 : Value} (h : At w X #[v0, v1, v2, v3, v4, v5, v6, v7] T) : (loadVar 42 ⟨X, 0, none⟩).run Tryz.prog w = .ok (.agg #[v0, v1, v2, v3, v4, v5, v6, v7]) w := by
  obtain ⟨c0, c1, c2, c3, c4, c5, c6, c7, -⟩ := at_cells8 h
  simp [go_sem, loadVar, c0, c1, c2, c3, c4, c5, c6, c7]
theorem res1 {fn : Func} {p : Tmp} (h : fn.results = #[.cell p 42]) (tmps : Array Value) {w : World} {X T : Nat} {v0 v1 v2 v3 v4 v5 v6 v7 : Value} (hp : tmps.getD p undef = .pointer (some ⟨X, 0, none⟩)) (hA : At w X #[v0, v1, v2, v3, v4, v5, v6, v7] T) :
    (results fn tmps).run Tryz.prog w = .ok (.agg #[v0, v1, v2, v3, v4, v5, v6, v7]) w := by
  obtain ⟨c0, c1, c2, c3, c4, c5, c6, c7, -⟩ := at_cells8 hA
  have hp' : tmps[p]?.getD undef = .pointer (some ⟨X, 0, none⟩) := by simpa using hp
  simp [results, h, go_sem, hp', c0, c1, c2, c3, c4, c5, c6, c7]
theorem res3 {fn : Func} {p u v : Tmp} (h : fn.results = #[.cell p 42, .tmp u, .tmp v]) (tmps : Array Value) {w : World} {X T : Nat} {v0 v1 v2 v3 v4 v5 v6 v7 r s : Value} (hp : tmps.getD p undef = .pointer (some ⟨X, 0, none⟩)) (hu : tmps.getD u undef = r) (hv : tmps.getD v undef = s) (hA : At w X #[v0, v1, v2, v3, v4, v5, v6, v7] T) :
    (results fn tmps).run Tryz.prog w = .ok (.tuple #[.agg #[v0, v1, v2, v3, v4, v5, v6, v7], r, s]) w := by
  obtain ⟨c0, c1, c2, c3, c4, c5, c6, c7, -⟩ := at_cells8 hA
  have hp' : tmps[p]?.getD undef = .pointer (some ⟨X, 0, none⟩) := by simpa using hp
  have hu' : tmps[u]?.getD undef = r := by simpa using hu
  have hv' : tmps[v]?.getD undef = s := by simpa using hv
  simp [results, h, go_sem, hp', hu', hv', c0, c1, c2, c3, c4, c5, c6, c7]
end Go.Proofs.YthgbdaladngpdaaGreat

/- The contract of the library's strings.Clone. The text has at most 2^47 bytes. -/
namespace Go.Proofs.YthgbdaladngpdaaGreat
open Go.ChangeShapes Go.WideShapes Go.ChangeAt Go.RowKit
set_option linter.unusedVariables false
set_option maxRecDepth 100000

/- Where the library's Clone and its types lie in this program. -/
def ren : Go.Shelf.Ren := ⟨fun x => if x = 25 then 106 else x, fun x => if x = 37 then 156 else if x = 47 then 157 else x, fun x => x⟩
theorem laid : Go.Proofs.LaysPu.n25 Tryz.prog ren :=
  { mixed := by kernel_rfl,
    f25 := by kernel_rfl,
    t0 := by kernel_rfl,
    a0 := fun _ => by kernel_rfl,
    z0 := fun _ => by kernel_rfl,
    v0 := fun _ => by kernel_rfl,
    i0 := by kernel_rfl,
    t3 := by kernel_rfl,
    a3 := fun _ => by kernel_rfl,
    z3 := fun _ => by kernel_rfl,
    v3 := fun _ => by kernel_rfl,
    i3 := by kernel_rfl,
    t4 := by kernel_rfl,
    a4 := fun _ => by kernel_rfl,
    z4 := fun _ => by kernel_rfl,
    v4 := fun _ => by kernel_rfl,
    i4 := by kernel_rfl,
    t5 := by kernel_rfl,
    a5 := fun _ => by kernel_rfl,
    z5 := fun _ => by kernel_rfl,
    v5 := fun _ => by kernel_rfl,
    i5 := by kernel_rfl,
    t9 := by kernel_rfl,
    a9 := fun _ => by kernel_rfl,
    z9 := fun _ => by kernel_rfl,
    v9 := fun _ => by kernel_rfl,
    i9 := by kernel_rfl,
    t37 := by kernel_rfl,
    a37 := fun _ => by kernel_rfl,
    z37 := fun _ => by kernel_rfl,
    v37 := fun _ => by kernel_rfl,
    i37 := by kernel_rfl,
    t47 := by kernel_rfl,
    a47 := fun _ => by kernel_rfl,
    z47 := fun _ => by kernel_rfl,
    v47 := fun _ => by kernel_rfl,
    i47 := by kernel_rfl }
theorem clone_inner (s : ByteArray) (hlim : s.size ≤ 140737488355328) (w : World) : Calls Tryz.prog 106 #[.string s] w fun e w' => e = .returned (.string s) ∧ Below w.heap.size w w' :=
  AnyPu.stringslite_Clone laid s w (by omega)
theorem clone_any (s : ByteArray) (hlim : s.size ≤ 140737488355328) (w : World) : Calls Tryz.prog 85 #[.string s] w fun e w' => e = .returned (.string s) ∧ Below w.heap.size w w' := by
  go_enter Tryz.func85, Tryz.ntmps85
  go_wp2_with (go_at_call 106; refine (clone_inner s hlim _).mono ?_; rintro e w1 ⟨rfl, hb1⟩)
  go_ret
  exact ⟨rfl, hb1⟩
end Go.Proofs.YthgbdaladngpdaaGreat

/- The contracts of the program's fresh and Join: a record whose texts are of their own; the one that stands behind. They turn nothing that was there. Texts have at most 2^47 bytes. -/
namespace Go.Proofs.YthgbdaladngpdaaGreat
open Go.ChangeShapes Go.WideShapes Go.ChangeAt Go.RowKit
set_option linter.unusedVariables false
set_option maxRecDepth 100000
set_option linter.unusedSimpArgs false

set_option maxHeartbeats 1600000 in
set_option maxRecDepth 100000 in
theorem fresh_any (r : R) (hk : r.key.size ≤ 140737488355328) (hb : r.body.size ≤ 140737488355328) (w : World) :
    Calls Tryz.prog 50 #[.agg #[.string r.key, .int .u64 r.s.p, .int .u32 r.s.l, .int .u8 r.s.n, .int .u8 r.kind, .int .u32 r.flags, .int .u64 r.exp, .string r.body]] w fun e w' => e = .returned (.agg #[.string r.key, .int .u64 r.s.p, .int .u32 r.s.l, .int .u8 r.s.n, .int .u8 r.kind, .int .u32 r.flags, .int .u64 r.exp, .string r.body]) ∧ Kept w w' := by
  have hz := zero27
  have K0 := kept_alloc (kept_alloc (kept_refl w) (.cells #[.string r.key, .int .u64 r.s.p, .int .u32 r.s.l, .int .u8 r.s.n, .int .u8 r.kind, .int .u32 r.flags, .int .u64 r.exp, .string r.body] 42)) (.cells #[.string zeroR.key, .int .u64 zeroR.s.p, .int .u32 zeroR.s.l, .int .u8 zeroR.s.n, .int .u8 zeroR.kind, .int .u32 zeroR.flags, .int .u64 zeroR.exp, .string zeroR.body] 42)
  have A0 := at_alloc (at_new w #[.string r.key, .int .u64 r.s.p, .int .u32 r.s.l, .int .u8 r.s.n, .int .u8 r.kind, .int .u32 r.flags, .int .u64 r.exp, .string r.body] 42) (.cells #[.string zeroR.key, .int .u64 zeroR.s.p, .int .u32 zeroR.s.l, .int .u8 zeroR.s.n, .int .u8 zeroR.kind, .int .u32 zeroR.flags, .int .u64 zeroR.exp, .string zeroR.body] 42)
  have B0 := at_new (w.alloc (.cells #[.string r.key, .int .u64 r.s.p, .int .u32 r.s.l, .int .u8 r.s.n, .int .u8 r.kind, .int .u32 r.flags, .int .u64 r.exp, .string r.body] 42)) #[.string zeroR.key, .int .u64 zeroR.s.p, .int .u32 zeroR.s.l, .int .u8 zeroR.s.n, .int .u8 zeroR.kind, .int .u32 zeroR.flags, .int .u64 zeroR.exp, .string zeroR.body] 42
  simp only [World.size_alloc] at B0
  have HS : Hid (∀ (u : World) (a0 a1 a2 a3 a4 a5 a6 a7 : Value), Kept w u → Kept w (set8 u (w.heap.size + 1) a0 a1 a2 a3 a4 a5 a6 a7)) := fun u a0 a1 a2 a3 a4 a5 a6 a7 h => kept_set8 h (Nat.le_succ _) _ _ _ _ _ _ _ _
  simp only [zeroR, zero] at K0 A0 B0
  go_enter Tryz.func50, Tryz.ntmps50
  go_wp2_with fail
  generalize (w.alloc (.cells #[.string r.key, .int .u64 r.s.p, .int .u32 r.s.l, .int .u8 r.s.n, .int .u8 r.kind, .int .u32 r.flags, .int .u64 r.exp, .string r.body] 42)).alloc (.cells #[.string ⟨#[]⟩, .int .u64 0, .int .u32 0, .int .u8 0, .int .u8 0, .int .u32 0, .int .u64 0, .string ⟨#[]⟩] 42) = w0 at *
  generalize w.heap.size = X at *
  generalize X + 1 = Y at *
  have k0 : Kept w0 w0.drew := kept_refl w0
  refine wp_region_noPanic ?_
  refine wp_region_held_drew (S := (fun w' => w'.cell? ⟨X, 0, none⟩ = some (.string r.key) ∧ w'.cell? ⟨X, 1, none⟩ = some (.int .u64 r.s.p) ∧ w'.cell? ⟨X, 2, none⟩ = some (.int .u32 r.s.l) ∧ w'.cell? ⟨X, 3, none⟩ = some (.int .u8 r.s.n) ∧ w'.cell? ⟨X, 4, none⟩ = some (.int .u8 r.kind) ∧ w'.cell? ⟨X, 5, none⟩ = some (.int .u32 r.flags) ∧ w'.cell? ⟨X, 6, none⟩ = some (.int .u64 r.exp) ∧ w'.cell? ⟨X, 7, none⟩ = some (.string r.body))) (by kernel_rfl) (at_cells8' (at_kept A0 (by assumption))) (fun hHeld => ?_)
  refine wpAnyH_take (i := 0) (v := .pointer (some ⟨X, 0, none⟩)) rfl (by kernel_rfl) (by kernel_rfl) (by kernel_rfl) (fun _ _ _ h => h) (Or.inl ⟨by rfl, fun w hSw => by (try dsimp only at hSw); go_simp⟩) (by assumption) ?_
  try simp only [List.getElem_toArray, List.getElem_cons_zero, List.getElem_cons_succ, Act.put, List.setIfInBounds_toArray, List.set_cons_zero, List.set_cons_succ]
  refine wpAnyH_take (i := 1) (v := .string r.key) rfl (by kernel_rfl) (by kernel_rfl) (by kernel_rfl) (fun _ _ _ h => h) (Or.inl ⟨by rfl, fun w hSw => by (try dsimp only at hSw); go_simp⟩) (by assumption) ?_
  try simp only [List.getElem_toArray, List.getElem_cons_zero, List.getElem_cons_succ, Act.put, List.setIfInBounds_toArray, List.set_cons_zero, List.set_cons_succ]
  refine wpAnyH_take (i := 3) (v := .pointer (some ⟨X, 7, none⟩)) rfl (by kernel_rfl) (by kernel_rfl) (by kernel_rfl) (fun _ _ _ h => h) (Or.inl ⟨by rfl, fun w hSw => by (try dsimp only at hSw); go_simp⟩) (by assumption) ?_
  try simp only [List.getElem_toArray, List.getElem_cons_zero, List.getElem_cons_succ, Act.put, List.setIfInBounds_toArray, List.set_cons_zero, List.set_cons_succ]
  refine wpAnyH_take (i := 4) (v := .string r.body) rfl (by kernel_rfl) (by kernel_rfl) (by kernel_rfl) (fun _ _ _ h => h) (Or.inl ⟨by rfl, fun w hSw => by (try dsimp only at hSw); go_simp⟩) (by assumption) ?_
  try simp only [List.getElem_toArray, List.getElem_cons_zero, List.getElem_cons_succ, Act.put, List.setIfInBounds_toArray, List.set_cons_zero, List.set_cons_succ]
  refine wpAnyH_ready (rs := [2]) (by kernel_rfl) (by simp) ?_
  refine AllReadyH.cons (i := 2) rfl (fun K hK => ?_) AllReadyH.nil
  go_simp
  refine (clone_any r.key hk _).mono ?_
  rintro e w3 ⟨rfl, h3⟩
  replace k0 := kept_trans k0 (kept_below h3)
  clear h3
  clear hHeld
  show K _ _
  refine hK.out _ _ (at_cells8' (at_kept A0 (by assumption))) (fun hHeld => ?_)
  clear hK K
  try simp only [List.getElem_toArray, List.getElem_cons_zero, List.getElem_cons_succ, Act.put, List.setIfInBounds_toArray, List.set_cons_zero, List.set_cons_succ]
  refine wpAnyH_take (i := 6) (v := .pointer (some ⟨X, 0, none⟩)) rfl (by kernel_rfl) (by kernel_rfl) (by kernel_rfl) (fun _ _ _ h => h) (Or.inl ⟨by rfl, fun w hSw => by (try dsimp only at hSw); go_simp⟩) (by assumption) ?_
  try simp only [List.getElem_toArray, List.getElem_cons_zero, List.getElem_cons_succ, Act.put, List.setIfInBounds_toArray, List.set_cons_zero, List.set_cons_succ]
  refine wpAnyH_ready (rs := [5]) (by kernel_rfl) (by simp) ?_
  refine AllReadyH.cons (i := 5) rfl (fun K hK => ?_) AllReadyH.nil
  go_simp
  refine (clone_any r.body hb _).mono ?_
  rintro e w3 ⟨rfl, h3⟩
  replace k0 := kept_trans k0 (kept_below h3)
  clear h3
  clear hHeld
  show K _ _
  refine hK.out _ _ (at_cells8' (at_kept A0 (by assumption))) (fun hHeld => ?_)
  clear hK K
  try simp only [List.getElem_toArray, List.getElem_cons_zero, List.getElem_cons_succ, Act.put, List.setIfInBounds_toArray, List.set_cons_zero, List.set_cons_succ]
  refine wpAnyH_ready (rs := [7]) (by kernel_rfl) (by simp) ?_
  refine AllReadyH.cons (i := 7) rfl (fun K hK => ?_) AllReadyH.nil
  have hfz := at_frozen (at_kept A0 (by assumption)) 0
  go_simp
  replace k0 := kept_again k0 (at_kept A0 k0) (o := 0) (v := .string r.key) (by simp)
  clear hfz
  clear hHeld
  show K _ _
  refine hK.out _ _ (at_cells8' (at_kept A0 (by assumption))) (fun hHeld => ?_)
  clear hK K
  try simp only [List.getElem_toArray, List.getElem_cons_zero, List.getElem_cons_succ, Act.put, List.setIfInBounds_toArray, List.set_cons_zero, List.set_cons_succ]
  refine wpAnyH_take (i := 8) (v := .pointer (some ⟨X, 7, none⟩)) rfl (by kernel_rfl) (by kernel_rfl) (by kernel_rfl) (fun _ _ _ h => h) (Or.inl ⟨by rfl, fun w hSw => by (try dsimp only at hSw); go_simp⟩) (by assumption) ?_
  try simp only [List.getElem_toArray, List.getElem_cons_zero, List.getElem_cons_succ, Act.put, List.setIfInBounds_toArray, List.set_cons_zero, List.set_cons_succ]
  refine wpAnyH_ready (rs := [9]) (by kernel_rfl) (by simp) ?_
  refine AllReadyH.cons (i := 9) rfl (fun K hK => ?_) AllReadyH.nil
  have hfz := at_frozen (at_kept A0 (by assumption)) 7
  go_simp
  replace k0 := kept_again k0 (at_kept A0 k0) (o := 7) (v := .string r.body) (by simp)
  clear hfz
  clear hHeld
  show K _ _
  refine hK.out _ _ (at_cells8' (at_kept A0 (by assumption))) (fun hHeld => ?_)
  clear hK K
  try simp only [List.getElem_toArray, List.getElem_cons_zero, List.getElem_cons_succ, Act.put, List.setIfInBounds_toArray, List.set_cons_zero, List.set_cons_succ]
  refine wpAnyH_done (by kernel_rfl) ?_ _
  refine NoPanic.normal ?_
  clear hHeld
  have K1 := kept_trans K0 k0
  have A1 := at_kept A0 k0
  have B1 := at_kept B0 k0
  clear k0 K0 A0 B0
  generalize (w3.setCell ⟨X, 0, none⟩ (.string r.key)).setCell ⟨X, 7, none⟩ (.string r.body) = w4 at *
  obtain ⟨c0, c1, c2, c3, c4, c5, c6, c7⟩ := at_cells8' A1
  obtain ⟨d0, d1, d2, d3, d4, d5, d6, d7, df⟩ := at_cells8 B1
  have E1 := at_set8 B1 (.string r.key) (.int .u64 r.s.p) (.int .u32 r.s.l) (.int .u8 r.s.n) (.int .u8 r.kind) (.int .u32 r.flags) (.int .u64 r.exp) (.string r.body)
  have E2 := HS.out w4 (.string r.key) (.int .u64 r.s.p) (.int .u32 r.s.l) (.int .u8 r.s.n) (.int .u8 r.kind) (.int .u32 r.flags) (.int .u64 r.exp) (.string r.body) K1
  have E3 := hid E1
  have E4 := hid E2
  clear E1 E2 K1 A1 B1
  go_wp2_with fail
  exact bodyPost_ret (res1 Tryz.results50 _ rfl E3.out) rfl ⟨rfl, E4.out⟩


end Go.Proofs.YthgbdaladngpdaaGreat

/- Plain mathematics of a table of keys in slots: from each key's home up to its slot no slot is empty; what setting and dropping leave of it. No condition but that there is an empty slot. -/
namespace Go.Proofs.YthgbdaladngpdaaGreat.Slo
set_option linter.unusedVariables false
set_option maxRecDepth 100000
set_option linter.unusedSimpArgs false

structure Sl where
  taken : Bool
  key : ByteArray
  v : Int
def no : Sl := ⟨false, ⟨#[]⟩, 0⟩
abbrev Tb := Nat → Sl
def upd (L : Tb) (i : Nat) (s : Sl) : Tb := fun j => if j = i then s else L j
theorem upd_at (L : Tb) (i : Nat) (s : Sl) : upd L i s i = s := if_pos rfl
theorem upd_ne (L : Tb) {i j : Nat} (s : Sl) (h : j ≠ i) : upd L i s j = L j := if_neg h
theorem upd_upd (L : Tb) (i : Nat) (s t : Sl) : upd (upd L i s) i t = upd L i t := by
  funext j; unfold upd; split <;> rfl
def nxt (m i : Nat) : Nat := if i + 1 = m then 0 else i + 1
def way (m a b : Nat) : Nat := if a ≤ b then b - a else b + m - a
theorem nxt_lt {m i : Nat} (h : i < m) : nxt m i < m := by unfold nxt; split <;> omega
theorem nxt_mod {m i : Nat} (h : i < m) : (i + 1) % m = nxt m i := by
  unfold nxt
  split
  · rename_i e; rw [e, Nat.mod_self]
  · exact Nat.mod_eq_of_lt (by omega)
theorem way_mod {m a b : Nat} (ha : a < m) (hb : b < m) : (b + m - a) % m = way m a b := by
  unfold way
  split
  · rw [show b + m - a = (b - a) + m by omega, Nat.add_mod_right]; exact Nat.mod_eq_of_lt (by omega)
  · exact Nat.mod_eq_of_lt (by omega)
theorem way_lt {m a b : Nat} (ha : a < m) (hb : b < m) : way m a b < m := by unfold way; split <;> omega
theorem way_self (m a : Nat) : way m a a = 0 := by unfold way; simp
theorem way_inj {m a b c : Nat} (ha : a < m) (hb : b < m) (hc : c < m) (h : way m a b = way m a c) : b = c := by unfold way at h; split at h <;> split at h <;> omega
theorem way_nxt {m a b : Nat} (ha : a < m) (hb : b < m) (h : nxt m b ≠ a) : way m a (nxt m b) = way m a b + 1 := by
  unfold way nxt at *; split at h <;> (repeat' split) <;> omega
theorem way_one {m a : Nat} (ha : a < m) (h1 : 1 < m) : way m a (nxt m a) = 1 := by
  unfold way nxt; (repeat' split) <;> omega

def cnt (L : Tb) : Nat → Nat
  | 0 => 0
  | n + 1 => cnt L n + if (L n).taken = true then 1 else 0
theorem cnt_le (L : Tb) (n : Nat) : cnt L n ≤ n := by
  induction n with
  | zero => exact Nat.le_refl _
  | succ n ih => unfold cnt; split <;> omega
theorem cnt_same {L M : Tb} {n : Nat} (h : ∀ i, i < n → (L i).taken = (M i).taken) : cnt L n = cnt M n := by
  induction n with
  | zero => rfl
  | succ n ih => unfold cnt; rw [ih (fun i hi => h i (by omega)), h n (by omega)]
theorem cnt_upd (L : Tb) {i n : Nat} (s : Sl) (h : i < n) : cnt (upd L i s) n + (if (L i).taken = true then 1 else 0) = cnt L n + (if s.taken = true then 1 else 0) := by
  induction n with
  | zero => omega
  | succ n ih =>
    unfold cnt
    by_cases hn : i = n
    · subst hn
      rw [upd_at, cnt_same (L := upd L i s) (M := L) (fun j hj => by rw [upd_ne _ _ (by omega)])]
      omega
    · have := ih (by omega)
      rw [upd_ne _ _ (show n ≠ i by omega)]
      omega
theorem cnt_free {L : Tb} {n : Nat} (h : cnt L n < n) : ∃ i, i < n ∧ (L i).taken = false := by
  induction n with
  | zero => omega
  | succ n ih =>
    by_cases e : (L n).taken = true
    · unfold cnt at h
      rw [if_pos e] at h
      obtain ⟨i, hi, h'⟩ := ih (by omega)
      exact ⟨i, by omega, h'⟩
    · exact ⟨n, by omega, by simpa using e⟩
theorem cnt_none {L : Tb} {n : Nat} (h : ∀ i, i < n → (L i).taken = false) : cnt L n = 0 := by
  induction n with
  | zero => rfl
  | succ n ih => unfold cnt; rw [ih (fun i hi => h i (by omega)), h n (by omega)]; simp
theorem cnt_zero {L : Tb} {n : Nat} (h : cnt L n = 0) : ∀ i, i < n → (L i).taken = false := by
  induction n with
  | zero => intro i hi; omega
  | succ n ih =>
    unfold cnt at h
    intro i hi
    by_cases e : (L n).taken = true
    · rw [if_pos e] at h; omega
    · rw [if_neg e] at h
      rcases (show i < n ∨ i = n by omega) with h' | rfl
      · exact ih (by omega) i h'
      · simpa using e

/- A table as it may be. -/
structure Ok (h : ByteArray → Nat) (m : Nat) (L : Tb) : Prop where
  home : ∀ k, h k < m
  clean : ∀ i, (L i).taken = false → L i = no
  out : ∀ i, m ≤ i → (L i).taken = false
  one : ∀ i j, (L i).taken = true → (L j).taken = true → (L i).key = (L j).key → i = j
  run : ∀ i, (L i).taken = true → ∀ j, j < m → way m (h (L i).key) j < way m (h (L i).key) i → (L j).taken = true
def Has (L : Tb) (k : ByteArray) (i : Nat) : Prop := (L i).taken = true ∧ (L i).key = k
structure Found (h : ByteArray → Nat) (m : Nat) (L : Tb) (k : ByteArray) (a : Nat) : Prop where
  lt : a < m
  past : ∀ j, j < m → way m (h k) j < way m (h k) a → (L j).taken = true ∧ (L j).key ≠ k
  mine : (L a).taken = true → (L a).key = k
  home : h k < m
section
variable {h : ByteArray → Nat} {m : Nat} {L : Tb} {k : ByteArray}
theorem Ok.lt (o : Ok h m L) {i : Nat} (t : (L i).taken = true) : i < m := by
  by_cases hi : i < m
  · exact hi
  · rw [o.out i (by omega)] at t; cases t
theorem Ok.pos (o : Ok h m L) : 0 < m := by have := o.home ⟨#[]⟩; omega
theorem found_one {a b : Nat} (f : Found h m L k a) (g : Found h m L k b) : a = b := by
  rcases Nat.lt_trichotomy (way m (h k) a) (way m (h k) b) with w | w | w
  · have := g.past a f.lt w; exact absurd (f.mine this.1) this.2
  · exact way_inj f.home f.lt g.lt w
  · have := f.past b g.lt w; exact absurd (g.mine this.1) this.2
theorem has_found (o : Ok h m L) {i : Nat} (t : Has L k i) : Found h m L k i := by
  obtain ⟨t1, rfl⟩ := t
  refine ⟨o.lt t1, fun j hj hw => ?_, fun _ => rfl, o.home _⟩
  have tj := o.run i t1 j hj hw
  refine ⟨tj, fun e => ?_⟩
  have := o.one j i tj t1 e
  subst this
  omega
theorem found_not (o : Ok h m L) {a : Nat} (f : Found h m L k a) (t : (L a).taken = false) (i : Nat) : ¬ Has L k i := by
  intro g
  have := found_one f (has_found o g)
  subst this
  rw [g.1] at t; cases t
theorem found_has {a : Nat} (f : Found h m L k a) (t : (L a).taken = true) : Has L k a := ⟨t, f.mine t⟩
/- Whether a slot is the one at which a key is looked for, and that slot itself. -/
def foundB (h : ByteArray → Nat) (m : Nat) (L : Tb) (k : ByteArray) (a : Nat) : Bool :=
  decide (h k < m) && (!(L a).taken || decide ((L a).key.data = k.data)) && (List.range m).all (fun j => !decide (way m (h k) j < way m (h k) a) || ((L j).taken && !decide ((L j).key.data = k.data)))
theorem data_eq {x y : ByteArray} (e : x.data = y.data) : x = y := by cases x; cases y; simpa using e
theorem foundB_is {a : Nat} (ha : a < m) : foundB h m L k a = true ↔ Found h m L k a := by
  unfold foundB
  simp only [Bool.and_eq_true, Bool.or_eq_true, Bool.not_eq_true', decide_eq_true_eq, decide_eq_false_iff_not, List.all_eq_true, List.mem_range]
  constructor
  · rintro ⟨⟨h1, h2⟩, h3⟩
    refine ⟨ha, fun j hj hw => ?_, fun t => ?_, h1⟩
    · rcases h3 j hj with g | g
      · exact absurd hw g
      · exact ⟨g.1, fun e => g.2 (by rw [e])⟩
    · rcases h2 with g | g
      · rw [g] at t; cases t
      · exact data_eq g
  · intro f
    refine ⟨⟨f.home, ?_⟩, fun j hj => ?_⟩
    · cases t : (L a).taken with
      | false => exact .inl rfl
      | true => exact .inr (by rw [f.mine t])
    · by_cases hw : way m (h k) j < way m (h k) a
      · exact .inr ⟨(f.past j hj hw).1, fun e => (f.past j hj hw).2 (data_eq e)⟩
      · exact .inl hw
def spot (h : ByteArray → Nat) (m : Nat) (L : Tb) (k : ByteArray) : Nat := ((List.range m).find? (foundB h m L k)).getD 0
theorem spot_eq {a : Nat} (f : Found h m L k a) : spot h m L k = a := by
  unfold spot
  cases e : (List.range m).find? (foundB h m L k) with
  | none =>
    have := List.find?_eq_none.1 e a (List.mem_range.2 f.lt)
    exact absurd ((foundB_is f.lt).2 f) this
  | some b =>
    have hb := List.mem_range.1 (List.mem_of_find?_eq_some e)
    exact found_one ((foundB_is hb).1 (List.find?_some e)) f
/- What looking for a key comes by. -/
def Past (h : ByteArray → Nat) (m : Nat) (L : Tb) (k : ByteArray) (a : Nat) : Prop :=
  a < m ∧ ∀ j, j < m → way m (h k) j < way m (h k) a → (L j).taken = true ∧ (L j).key ≠ k
theorem past_home (o : Ok h m L) : Past h m L k (h k) := ⟨o.home k, fun j _ hw => by rw [way_self] at hw; omega⟩
/- There is an empty slot, so looking on does not come round. -/
theorem past_next (hk : h k < m) {a : Nat} (p : Past h m L k a) (c : cnt L m < m) (t : (L a).taken = true) (e : (L a).key ≠ k) :
    Past h m L k (nxt m a) ∧ way m (h k) (nxt m a) = way m (h k) a + 1 := by
  have hn : nxt m a ≠ h k := by
    intro hn
    obtain ⟨i, hi, ti⟩ := cnt_free c
    by_cases hia : i = a
    · subst hia; rw [t] at ti; cases ti
    · have : way m (h k) i < way m (h k) a := by
        have h1 := p.1
        rw [← hn]
        unfold way nxt
        (repeat' split) <;> omega
      rw [(p.2 i hi this).1] at ti; cases ti
  have hw := way_nxt hk p.1 hn
  refine ⟨⟨nxt_lt p.1, fun j hj hj2 => ?_⟩, hw⟩
  rw [hw] at hj2
  rcases (show way m (h k) j < way m (h k) a ∨ way m (h k) j = way m (h k) a by omega) with h1 | h1
  · exact p.2 j hj h1
  · have := way_inj hk hj p.1 h1
    subst this
    exact ⟨t, e⟩
theorem past_found (hk : h k < m) {a : Nat} (p : Past h m L k a) (t : (L a).taken = true → (L a).key = k) : Found h m L k a := ⟨p.1, p.2, t, hk⟩
theorem found_any (o : Ok h m L) (c : cnt L m < m) (k : ByteArray) : ∃ a, Found h m L k a := by
  have key : ∀ f a, Past h m L k a → m - way m (h k) a ≤ f → ∃ a, Found h m L k a := by
    intro f
    induction f with
    | zero => intro a p hf; have := way_lt (o.home k) p.1; omega
    | succ f ih =>
      intro a p hf
      by_cases t : (L a).taken = true ∧ (L a).key ≠ k
      · obtain ⟨p2, hw⟩ := past_next (o.home k) p c t.1 t.2
        exact ih _ p2 (by have := way_lt (o.home k) p2.1; omega)
      · exact ⟨a, past_found (o.home k) p (fun t1 => Classical.byContradiction fun e => t ⟨t1, e⟩)⟩
  exact key m _ (past_home o) (by omega)
theorem spot_found (o : Ok h m L) (c : cnt L m < m) : Found h m L k (spot h m L k) := by
  obtain ⟨a, f⟩ := found_any o c k
  rw [spot_eq f]; exact f
theorem ok_new (hh : ∀ k, h k < m) : Ok h m (fun _ => no) :=
  ⟨hh, fun _ _ => rfl, fun _ _ => rfl, fun _ _ t _ _ => (by cases t), fun _ t => (by cases t)⟩
theorem cnt_new (n : Nat) : cnt (fun _ => no) n = 0 := cnt_none (fun _ _ => rfl)

/- Setting. -/
theorem ok_put (o : Ok h m L) {a : Nat} (f : Found h m L k a) (v : Int) : Ok h m (upd L a ⟨true, k, v⟩) := by
  have hk : ∀ j, j ≠ a → (L j).taken = true → (L j).key ≠ k := fun j hj t e => hj (found_one (has_found o ⟨t, e⟩) f)
  refine ⟨o.home, fun i t => ?_, fun i hi => ?_, fun i j ti tj e => ?_, fun i ti j hj hw => ?_⟩
  · by_cases hi : i = a
    · subst hi; rw [upd_at] at t; cases t
    · rw [upd_ne _ _ hi] at *; exact o.clean i t
  · rw [upd_ne _ _ (by have := f.lt; omega)]; exact o.out i hi
  · by_cases hi : i = a
    · by_cases hj : j = a
      · rw [hi, hj]
      · subst hi
        rw [upd_at, upd_ne _ _ hj] at e
        rw [upd_ne _ _ hj] at tj
        exact absurd e.symm (hk j hj tj)
    · by_cases hj : j = a
      · subst hj
        rw [upd_at, upd_ne _ _ hi] at e
        rw [upd_ne _ _ hi] at ti
        exact absurd e (hk i hi ti)
      · rw [upd_ne _ _ hi] at ti e
        rw [upd_ne _ _ hj] at tj e
        exact o.one i j ti tj e
  · by_cases hja : j = a
    · subst hja; rw [upd_at]
    · rw [upd_ne _ _ hja]
      by_cases hi : i = a
      · subst hi
        rw [upd_at] at hw
        exact (f.past j hj hw).1
      · rw [upd_ne _ _ hi] at ti hw
        exact o.run i ti j hj hw
theorem ent_put (o : Ok h m L) {a : Nat} (f : Found h m L k a) (v : Int) (s : Sl) (t : s.taken = true) :
    (∃ i, upd L a ⟨true, k, v⟩ i = s) ↔ s = ⟨true, k, v⟩ ∨ ((∃ i, L i = s) ∧ s.key ≠ k) := by
  constructor
  · rintro ⟨i, e⟩
    by_cases hi : i = a
    · subst hi; rw [upd_at] at e; exact .inl e.symm
    · rw [upd_ne _ _ hi] at e
      refine .inr ⟨⟨i, e⟩, fun ek => hi (found_one (has_found o ⟨by rw [e]; exact t, by rw [e]; exact ek⟩) f)⟩
  · rintro (rfl | ⟨⟨i, e⟩, hk⟩)
    · exact ⟨a, upd_at _ _ _⟩
    · refine ⟨i, ?_⟩
      by_cases hi : i = a
      · subst hi
        exact absurd (e ▸ f.mine (e ▸ t)) hk
      · rw [upd_ne _ _ hi]; exact e
def setT (h : ByteArray → Nat) (m most : Nat) (L : Tb) (k : ByteArray) (v : Int) : Nat × Tb :=
  if (L (spot h m L k)).taken = true then (0, upd L (spot h m L k) ⟨true, k, v⟩)
  else if cnt L m = most then (6, L) else (0, upd L (spot h m L k) ⟨true, k, v⟩)

/- Closing up behind a hole. -/
def cl (h : ByteArray → Nat) (m : Nat) : Nat → Tb → Nat → Nat → Tb × Nat
  | 0, L, hole, _ => (L, hole)
  | f + 1, L, hole, i =>
    if (L i).taken = true then
      if way m hole i ≤ way m (h (L i).key) i then cl h m f (upd L hole (L i)) i (nxt m i) else cl h m f L hole (nxt m i)
    else (L, hole)
structure Cl (h : ByteArray → Nat) (m : Nat) (L : Tb) (o a e : Nat) : Prop where
  ho : o < m
  ha : a < m
  he : e < m
  te : (L e).taken = false
  ne : e ≠ o
  nea : a ≠ o
  sum : way m o a + way m a e = way m o e
  clean : ∀ i, (upd L o no i).taken = false → upd L o no i = no
  out : ∀ i, m ≤ i → (upd L o no i).taken = false
  one : ∀ i j, (upd L o no i).taken = true → (upd L o no j).taken = true → (upd L o no i).key = (upd L o no j).key → i = j
  run : ∀ i, (upd L o no i).taken = true → ∀ j, j < m → way m (h (upd L o no i).key) j < way m (h (upd L o no i).key) i → (upd L o no j).taken = true ∨ (j = o ∧ way m o a ≤ way m o i)
theorem cl_free {o a e : Nat} (c : Cl h m L o a e) (t : (L a).taken = true) : a ≠ e := by
  rintro rfl; rw [c.te] at t; cases t
theorem cl_end (hh : ∀ k, h k < m) {o a e : Nat} (c : Cl h m L o a e) (t : (L a).taken = false) : Ok h m (upd L o no) := by
  refine ⟨hh, c.clean, c.out, c.one, fun i ti j hj hw => ?_⟩
  rcases c.run i ti j hj hw with g | ⟨rfl, g⟩
  · exact g
  · exfalso
    have hi : i ≠ j := by rintro rfl; rw [upd_at] at ti; cases ti
    have hia : i ≠ a := by rintro rfl; rw [upd_ne _ _ c.nea, t] at ti; cases ti
    have him : i < m := by
      by_cases hi : i < m
      · exact hi
      · rw [c.out i (by omega)] at ti; cases ti
    have hH := hh (upd L j no i).key
    generalize hHe : h (upd L j no i).key = H at *
    have ho := c.ho; have ha := c.ha; have hn := c.nea
    have : way m H a < way m H i := by
      unfold way at *
      (repeat' split) <;> (repeat' split at hw) <;> (repeat' split at g) <;> omega
    rcases c.run i ti a ha (by rw [hHe]; exact this) with g2 | ⟨g2, _⟩
    · rw [upd_ne _ _ c.nea, t] at g2; cases g2
    · exact hn g2
theorem cl_stay (hh : ∀ k, h k < m) {o a e : Nat} (c : Cl h m L o a e) (t : (L a).taken = true) (w : ¬ way m o a ≤ way m (h (L a).key) a) :
    Cl h m L o (nxt m a) e ∧ way m (nxt m a) e + 1 = way m a e := by
  have hae := cl_free c t
  have ho := c.ho; have ha := c.ha; have he := c.he; have hn := c.nea; have hs := c.sum; have hne := c.ne
  have hw1 : way m o (nxt m a) = way m o a + 1 ∧ way m (nxt m a) e + 1 = way m a e ∧ nxt m a ≠ o := by
    unfold way nxt at *
    (repeat' split at hs) <;> (repeat' split) <;> omega
  refine ⟨⟨ho, nxt_lt ha, he, c.te, hne, hw1.2.2, by omega, c.clean, c.out, c.one, fun i ti j hj hw => ?_⟩, hw1.2.1⟩
  rcases c.run i ti j hj hw with g | ⟨g1, g⟩
  · exact .inl g
  · refine .inr ⟨g1, ?_⟩
    subst g1
    have him : i < m := by
      by_cases hi : i < m
      · exact hi
      · rw [c.out i (by omega)] at ti; cases ti
    have hia : i ≠ a := by
      rintro rfl
      rw [upd_ne _ _ hn] at hw
      have hH := hh (L i).key
      generalize h (L i).key = H at *
      unfold way at w hw
      (repeat' split at w) <;> (repeat' split at hw) <;> omega
    have : way m j a ≠ way m j i := fun e => hia (way_inj ho him ha e.symm)
    omega
theorem cl_move (hh : ∀ k, h k < m) {o a e : Nat} (c : Cl h m L o a e) (t : (L a).taken = true) (w : way m o a ≤ way m (h (L a).key) a) :
    Cl h m (upd L o (L a)) a (nxt m a) e ∧ way m (nxt m a) e + 1 = way m a e := by
  have hae := cl_free c t
  have ho := c.ho; have ha := c.ha; have he := c.he; have hn := c.nea; have hs := c.sum; have hne := c.ne
  have hw1 : way m a (nxt m a) = 1 ∧ way m (nxt m a) e + 1 = way m a e ∧ nxt m a ≠ a := by
    unfold way nxt at *
    (repeat' split at hs) <;> (repeat' split) <;> omega
  have e1 : ∀ j, j ≠ a → j ≠ o → upd (upd L o (L a)) a no j = upd L o no j := fun j h1 h2 => by rw [upd_ne _ _ h1, upd_ne _ _ h2, upd_ne _ _ h2]
  have e2 : upd (upd L o (L a)) a no o = L a := by rw [upd_ne _ _ (Ne.symm hn), upd_at]
  have e3 : upd L o no a = L a := upd_ne _ _ hn
  have e4 : (upd (upd L o (L a)) a no a) = no := upd_at _ _ _
  have e5 : upd L o no o = no := upd_at _ _ _
  refine ⟨⟨ha, nxt_lt ha, he, by rw [upd_ne _ _ hne]; exact c.te, Ne.symm hae, hw1.2.2, by omega, fun i ti => ?_, fun i hi => ?_, fun i j ti tj ek => ?_, fun i ti j hj hw => ?_⟩, hw1.2.1⟩
  · by_cases h1 : i = a
    · subst h1; exact e4
    · by_cases h2 : i = o
      · subst h2; rw [e2, t] at ti; cases ti
      · rw [e1 i h1 h2] at *; exact c.clean i ti
  · rw [e1 i (by omega) (by omega)]; exact c.out i hi
  · have g1 : i ≠ a := by rintro rfl; rw [e4] at ti; cases ti
    have g2 : j ≠ a := by rintro rfl; rw [e4] at tj; cases tj
    by_cases h1 : i = o
    · by_cases h2 : j = o
      · rw [h1, h2]
      · subst h1
        rw [e1 j g2 h2] at tj ek
        rw [e2] at ek
        exact absurd (c.one a j (by rw [e3]; exact t) tj (by rw [e3]; exact ek)) (Ne.symm g2)
    · rw [e1 i g1 h1] at ti ek
      by_cases h2 : j = o
      · subst h2
        rw [e2] at ek
        exact absurd (c.one i a ti (by rw [e3]; exact t) (by rw [e3]; exact ek)) g1
      · rw [e1 j g2 h2] at tj ek
        exact c.one i j ti tj ek
  · have g1 : i ≠ a := by rintro rfl; rw [e4] at ti; cases ti
    by_cases h1 : i = o
    · subst h1
      rw [e2] at hw
      have hH := hh (L a).key
      have hw2 : way m (h (L a).key) j < way m (h (L a).key) a ∧ j ≠ i := by
        generalize h (L a).key = H at *
        unfold way at w hw ⊢
        (repeat' split at w) <;> (repeat' split at hw) <;> (repeat' split) <;> omega
      have := c.run a (by rw [e3]; exact t) j hj (by rw [e3]; exact hw2.1)
      rcases this with g | ⟨g, _⟩
      · by_cases hja : j = a
        · subst hja; omega
        · rw [e1 j hja hw2.2]; exact .inl g
      · exact absurd g hw2.2
    · rw [e1 i g1 h1] at ti hw
      have him : i < m := by
        by_cases hi : i < m
        · exact hi
        · rw [c.out i (by omega)] at ti; cases ti
      by_cases hja : j = a
      · subst hja
        refine .inr ⟨rfl, ?_⟩
        have : way m j i ≠ way m j j := fun e => g1 (way_inj ha him ha e)
        rw [way_self] at this
        omega
      · by_cases hjo : j = o
        · subst hjo; rw [e2]; exact .inl t
        · rw [e1 j hja hjo]
          rcases c.run i ti j hj hw with g | ⟨g, _⟩
          · exact .inl g
          · exact absurd g hjo
theorem cnt_move {o a : Nat} (ho : o < m) (ha : a < m) (hn : a ≠ o) : cnt (upd (upd L o (L a)) a no) m = cnt (upd L o no) m := by
  have h1 := cnt_upd (upd L o (L a)) (i := a) (n := m) no ha
  have h2 := cnt_upd L (i := o) (n := m) (L a) ho
  have h3 := cnt_upd L (i := o) (n := m) no ho
  rw [upd_ne _ _ hn] at h1
  simp only [no] at *
  omega
theorem ent_move {o a : Nat} (hn : a ≠ o) (s : Sl) (t : s.taken = true) : (∃ i, upd (upd L o (L a)) a no i = s) ↔ (∃ i, upd L o no i = s) := by
  have ns : no ≠ s := by rintro rfl; cases t
  constructor
  · rintro ⟨i, e⟩
    by_cases h1 : i = a
    · subst h1; rw [upd_at] at e; exact absurd e ns
    · rw [upd_ne _ _ h1] at e
      by_cases h2 : i = o
      · subst h2; rw [upd_at] at e; exact ⟨a, by rw [upd_ne _ _ hn]; exact e⟩
      · rw [upd_ne _ _ h2] at e; exact ⟨i, by rw [upd_ne _ _ h2]; exact e⟩
  · rintro ⟨i, e⟩
    by_cases h1 : i = o
    · subst h1; rw [upd_at] at e; exact absurd e ns
    · rw [upd_ne _ _ h1] at e
      by_cases h2 : i = a
      · subst h2; exact ⟨o, by rw [upd_ne _ _ (Ne.symm h1), upd_at]; exact e⟩
      · exact ⟨i, by rw [upd_ne _ _ h2, upd_ne _ _ h1]; exact e⟩
/- What closing up comes to, whatever its purse, if that is enough. -/
theorem cl_all (hh : ∀ k, h k < m) : ∀ (f : Nat) (L : Tb) (o a e : Nat), Cl h m L o a e → way m a e ≤ f →
    Ok h m (upd (cl h m f L o a).1 (cl h m f L o a).2 no) ∧ (cl h m f L o a).2 < m ∧
    cnt (upd (cl h m f L o a).1 (cl h m f L o a).2 no) m = cnt (upd L o no) m ∧
    ∀ s : Sl, s.taken = true → ((∃ i, upd (cl h m f L o a).1 (cl h m f L o a).2 no i = s) ↔ (∃ i, upd L o no i = s)) := by
  intro f
  induction f with
  | zero =>
    intro L o a e c hf
    have : a = e := by have := way_inj c.ha c.ha c.he (by rw [way_self]; omega); exact this
    subst this
    exact ⟨cl_end hh c c.te, c.ho, rfl, fun _ _ => Iff.rfl⟩
  | succ f ih =>
    intro L o a e c hf
    unfold cl
    by_cases t : (L a).taken = true
    · rw [if_pos t]
      by_cases w : way m o a ≤ way m (h (L a).key) a
      · rw [if_pos w]
        obtain ⟨c2, hw⟩ := cl_move hh c t w
        obtain ⟨g1, g2, g3, g4⟩ := ih _ _ _ _ c2 (by omega)
        refine ⟨g1, g2, g3.trans (cnt_move c.ho c.ha c.nea), fun s ts => (g4 s ts).trans (ent_move c.nea s ts)⟩
      · rw [if_neg w]
        obtain ⟨c2, hw⟩ := cl_stay hh c t w
        exact ih _ _ _ _ c2 (by omega)
    · rw [if_neg t]
      exact ⟨cl_end hh c (by simpa using t), c.ho, rfl, fun _ _ => Iff.rfl⟩
/- The first empty slot behind a hole. -/
theorem cl_begin (o : Ok h m L) (c : cnt L m < m) {p : Nat} (t : (L p).taken = true) : ∃ e, Cl h m L p (nxt m p) e ∧ way m (nxt m p) e ≤ m := by
  obtain ⟨e, he, te⟩ := cnt_free c
  have hp := o.lt t
  have hne : e ≠ p := by rintro rfl; rw [t] at te; cases te
  have hw1 : way m p (nxt m p) = 1 ∧ way m (nxt m p) e + 1 = way m p e ∧ nxt m p ≠ p := by
    unfold way nxt
    (repeat' split) <;> omega
  refine ⟨e, ⟨hp, nxt_lt hp, he, te, hne, hw1.2.2, by omega, fun i ti => ?_, fun i hi => ?_, fun i j ti tj ek => ?_, fun i ti j hj hw => ?_⟩, by have := way_lt hp he; omega⟩
  · by_cases h1 : i = p
    · subst h1; exact upd_at _ _ _
    · rw [upd_ne _ _ h1] at *; exact o.clean i ti
  · rw [upd_ne _ _ (by omega)]; exact o.out i hi
  · have g1 : i ≠ p := by rintro rfl; rw [upd_at] at ti; cases ti
    have g2 : j ≠ p := by rintro rfl; rw [upd_at] at tj; cases tj
    rw [upd_ne _ _ g1] at ti ek
    rw [upd_ne _ _ g2] at tj ek
    exact o.one i j ti tj ek
  · have g1 : i ≠ p := by rintro rfl; rw [upd_at] at ti; cases ti
    rw [upd_ne _ _ g1] at ti hw
    by_cases h1 : j = p
    · subst h1
      refine .inr ⟨rfl, ?_⟩
      have : way m j i ≠ way m j j := fun e => g1 (way_inj hp (o.lt ti) hp e)
      rw [way_self] at this
      omega
    · rw [upd_ne _ _ h1]; exact .inl (o.run i ti j hj hw)
def closed (h : ByteArray → Nat) (m : Nat) (L : Tb) (p : Nat) : Tb := upd (cl h m m L p (nxt m p)).1 (cl h m m L p (nxt m p)).2 no
theorem closed_all (o : Ok h m L) (c : cnt L m < m) {p : Nat} (t : (L p).taken = true) :
    Ok h m (closed h m L p) ∧ cnt (closed h m L p) m + 1 = cnt L m ∧
    ∀ s : Sl, s.taken = true → ((∃ i, closed h m L p i = s) ↔ (∃ i, L i = s) ∧ s.key ≠ (L p).key) := by
  obtain ⟨e, ce, he⟩ := cl_begin o c t
  obtain ⟨g1, g2, g3, g4⟩ := cl_all o.home m L p (nxt m p) e ce he
  refine ⟨g1, ?_, fun s ts => (g4 s ts).trans ?_⟩
  · have := cnt_upd L (i := p) (n := m) no (o.lt t)
    rw [if_pos t] at this
    unfold closed
    rw [g3]
    simp only [no] at *
    simpa using this
  · constructor
    · rintro ⟨i, ei⟩
      by_cases h1 : i = p
      · subst h1; rw [upd_at] at ei; subst ei; cases ts
      · rw [upd_ne _ _ h1] at ei
        exact ⟨⟨i, ei⟩, fun ek => h1 (o.one i p (by rw [ei]; exact ts) t (by rw [ei]; exact ek))⟩
    · rintro ⟨⟨i, ei⟩, hk⟩
      refine ⟨i, ?_⟩
      by_cases h1 : i = p
      · subst h1; rw [ei] at hk; exact absurd rfl hk
      · rw [upd_ne _ _ h1]; exact ei
def dropT (h : ByteArray → Nat) (m : Nat) (L : Tb) (k : ByteArray) : Bool × Tb :=
  if (L (spot h m L k)).taken = true then (true, closed h m L (spot h m L k)) else (false, L)
end
end Go.Proofs.YthgbdaladngpdaaGreat.Slo
