/- The contracts of the program's fresh and Join: a record whose texts are of their own; the one that stands behind. They turn nothing that was there. Texts have at most 2^47 bytes. -/
import Derived.Test.YthgbdaladngpdaaGreatBox
import Derived.Test.YthgbdaladngpdaaGreatClone
namespace Go.Proofs.YthgbdaladngpdaaGreat
open Go.ChangeShapes Go.WideShapes Go.ChangeAt Go.RowKit
set_option linter.unusedVariables false
set_option maxRecDepth 100000
set_option linter.unusedSimpArgs false

set_option maxHeartbeats 1600000 in
set_option maxRecDepth 100000 in
theorem fresh_any (r : R) (hk : r.key.size ≤ 140737488355328) (hb : r.body.size ≤ 140737488355328) (w : World) :
    Calls Tryz.prog 50 #[.agg #[.string r.key, .int .u64 r.s.p, .int .u32 r.s.l, .int .u8 r.s.n, .int .u8 r.kind, .int .u32 r.flags, .int .u64 r.exp, .string r.body]] w fun e w' => e = .returned (.agg #[.string r.key, .int .u64 r.s.p, .int .u32 r.s.l, .int .u8 r.s.n, .int .u8 r.kind, .int .u32 r.flags, .int .u64 r.exp, .string r.body]) ∧ Kept w w' := by
  have hz := zero27
  have K0 := kept_alloc (kept_alloc (kept_refl w) (.cells #[.string r.key, .int .u64 r.s.p, .int .u32 r.s.l, .int .u8 r.s.n, .int .u8 r.kind, .int .u32 r.flags, .int .u64 r.exp, .string r.body] 42)) (.cells #[.string zeroR.key, .int .u64 zeroR.s.p, .int .u32 zeroR.s.l, .int .u8 zeroR.s.n, .int .u8 zeroR.kind, .int .u32 zeroR.flags, .int .u64 zeroR.exp, .string zeroR.body] 42)
  have A0 := at_alloc (at_new w #[.string r.key, .int .u64 r.s.p, .int .u32 r.s.l, .int .u8 r.s.n, .int .u8 r.kind, .int .u32 r.flags, .int .u64 r.exp, .string r.body] 42) (.cells #[.string zeroR.key, .int .u64 zeroR.s.p, .int .u32 zeroR.s.l, .int .u8 zeroR.s.n, .int .u8 zeroR.kind, .int .u32 zeroR.flags, .int .u64 zeroR.exp, .string zeroR.body] 42)
  have B0 := at_new (w.alloc (.cells #[.string r.key, .int .u64 r.s.p, .int .u32 r.s.l, .int .u8 r.s.n, .int .u8 r.kind, .int .u32 r.flags, .int .u64 r.exp, .string r.body] 42)) #[.string zeroR.key, .int .u64 zeroR.s.p, .int .u32 zeroR.s.l, .int .u8 zeroR.s.n, .int .u8 zeroR.kind, .int .u32 zeroR.flags, .int .u64 zeroR.exp, .string zeroR.body] 42
  simp only [World.size_alloc] at B0
  have HS : Hid (∀ (u : World) (a0 a1 a2 a3 a4 a5 a6 a7 : Value), Kept w u → Kept w (set8 u (w.heap.size + 1) a0 a1 a2 a3 a4 a5 a6 a7)) := fun u a0 a1 a2 a3 a4 a5 a6 a7 h => kept_set8 h (Nat.le_succ _) _ _ _ _ _ _ _ _
  simp only [zeroR, zero] at K0 A0 B0
  go_enter Tryz.func50, Tryz.ntmps50
  go_wp2_with fail
  generalize (w.alloc (.cells #[.string r.key, .int .u64 r.s.p, .int .u32 r.s.l, .int .u8 r.s.n, .int .u8 r.kind, .int .u32 r.flags, .int .u64 r.exp, .string r.body] 42)).alloc (.cells #[.string ⟨#[]⟩, .int .u64 0, .int .u32 0, .int .u8 0, .int .u8 0, .int .u32 0, .int .u64 0, .string ⟨#[]⟩] 42) = w0 at *
  generalize w.heap.size = X at *
  generalize X + 1 = Y at *
  have k0 : Kept w0 w0.drew := kept_refl w0
  refine wp_region_noPanic ?_
  refine wp_region_held_drew (S := (fun w' => w'.cell? ⟨X, 0, none⟩ = some (.string r.key) ∧ w'.cell? ⟨X, 1, none⟩ = some (.int .u64 r.s.p) ∧ w'.cell? ⟨X, 2, none⟩ = some (.int .u32 r.s.l) ∧ w'.cell? ⟨X, 3, none⟩ = some (.int .u8 r.s.n) ∧ w'.cell? ⟨X, 4, none⟩ = some (.int .u8 r.kind) ∧ w'.cell? ⟨X, 5, none⟩ = some (.int .u32 r.flags) ∧ w'.cell? ⟨X, 6, none⟩ = some (.int .u64 r.exp) ∧ w'.cell? ⟨X, 7, none⟩ = some (.string r.body))) (by kernel_rfl) (at_cells8' (at_kept A0 (by assumption))) (fun hHeld => ?_)
  refine wpAnyH_take (i := 0) (v := .pointer (some ⟨X, 0, none⟩)) rfl (by kernel_rfl) (by kernel_rfl) (by kernel_rfl) (fun _ _ _ h => h) (Or.inl ⟨by rfl, fun w hSw => by (try dsimp only at hSw); go_simp⟩) (by assumption) ?_
  try simp only [List.getElem_toArray, List.getElem_cons_zero, List.getElem_cons_succ, Act.put, List.setIfInBounds_toArray, List.set_cons_zero, List.set_cons_succ]
  refine wpAnyH_take (i := 1) (v := .string r.key) rfl (by kernel_rfl) (by kernel_rfl) (by kernel_rfl) (fun _ _ _ h => h) (Or.inl ⟨by rfl, fun w hSw => by (try dsimp only at hSw); go_simp⟩) (by assumption) ?_
  try simp only [List.getElem_toArray, List.getElem_cons_zero, List.getElem_cons_succ, Act.put, List.setIfInBounds_toArray, List.set_cons_zero, List.set_cons_succ]
  refine wpAnyH_take (i := 3) (v := .pointer (some ⟨X, 7, none⟩)) rfl (by kernel_rfl) (by kernel_rfl) (by kernel_rfl) (fun _ _ _ h => h) (Or.inl ⟨by rfl, fun w hSw => by (try dsimp only at hSw); go_simp⟩) (by assumption) ?_
  try simp only [List.getElem_toArray, List.getElem_cons_zero, List.getElem_cons_succ, Act.put, List.setIfInBounds_toArray, List.set_cons_zero, List.set_cons_succ]
  refine wpAnyH_take (i := 4) (v := .string r.body) rfl (by kernel_rfl) (by kernel_rfl) (by kernel_rfl) (fun _ _ _ h => h) (Or.inl ⟨by rfl, fun w hSw => by (try dsimp only at hSw); go_simp⟩) (by assumption) ?_
  try simp only [List.getElem_toArray, List.getElem_cons_zero, List.getElem_cons_succ, Act.put, List.setIfInBounds_toArray, List.set_cons_zero, List.set_cons_succ]
  refine wpAnyH_ready (rs := [2]) (by kernel_rfl) (by simp) ?_
  refine AllReadyH.cons (i := 2) rfl (fun K hK => ?_) AllReadyH.nil
  go_simp
  refine (clone_any r.key hk _).mono ?_
  rintro e w3 ⟨rfl, h3⟩
  replace k0 := kept_trans k0 (kept_below h3)
  clear h3
  clear hHeld
  show K _ _
  refine hK.out _ _ (at_cells8' (at_kept A0 (by assumption))) (fun hHeld => ?_)
  clear hK K
  try simp only [List.getElem_toArray, List.getElem_cons_zero, List.getElem_cons_succ, Act.put, List.setIfInBounds_toArray, List.set_cons_zero, List.set_cons_succ]
  refine wpAnyH_take (i := 6) (v := .pointer (some ⟨X, 0, none⟩)) rfl (by kernel_rfl) (by kernel_rfl) (by kernel_rfl) (fun _ _ _ h => h) (Or.inl ⟨by rfl, fun w hSw => by (try dsimp only at hSw); go_simp⟩) (by assumption) ?_
  try simp only [List.getElem_toArray, List.getElem_cons_zero, List.getElem_cons_succ, Act.put, List.setIfInBounds_toArray, List.set_cons_zero, List.set_cons_succ]
  refine wpAnyH_ready (rs := [5]) (by kernel_rfl) (by simp) ?_
  refine AllReadyH.cons (i := 5) rfl (fun K hK => ?_) AllReadyH.nil
  go_simp
  refine (clone_any r.body hb _).mono ?_
  rintro e w3 ⟨rfl, h3⟩
  replace k0 := kept_trans k0 (kept_below h3)
  clear h3
  clear hHeld
  show K _ _
  refine hK.out _ _ (at_cells8' (at_kept A0 (by assumption))) (fun hHeld => ?_)
  clear hK K
  try simp only [List.getElem_toArray, List.getElem_cons_zero, List.getElem_cons_succ, Act.put, List.setIfInBounds_toArray, List.set_cons_zero, List.set_cons_succ]
  refine wpAnyH_ready (rs := [7]) (by kernel_rfl) (by simp) ?_
  refine AllReadyH.cons (i := 7) rfl (fun K hK => ?_) AllReadyH.nil
  have hfz := at_frozen (at_kept A0 (by assumption)) 0
  go_simp
  replace k0 := kept_again k0 (at_kept A0 k0) (o := 0) (v := .string r.key) (by simp)
  clear hfz
  clear hHeld
  show K _ _
  refine hK.out _ _ (at_cells8' (at_kept A0 (by assumption))) (fun hHeld => ?_)
  clear hK K
  try simp only [List.getElem_toArray, List.getElem_cons_zero, List.getElem_cons_succ, Act.put, List.setIfInBounds_toArray, List.set_cons_zero, List.set_cons_succ]
  refine wpAnyH_take (i := 8) (v := .pointer (some ⟨X, 7, none⟩)) rfl (by kernel_rfl) (by kernel_rfl) (by kernel_rfl) (fun _ _ _ h => h) (Or.inl ⟨by rfl, fun w hSw => by (try dsimp only at hSw); go_simp⟩) (by assumption) ?_
  try simp only [List.getElem_toArray, List.getElem_cons_zero, List.getElem_cons_succ, Act.put, List.setIfInBounds_toArray, List.set_cons_zero, List.set_cons_succ]
  refine wpAnyH_ready (rs := [9]) (by kernel_rfl) (by simp) ?_
  refine AllReadyH.cons (i := 9) rfl (fun K hK => ?_) AllReadyH.nil
  have hfz := at_frozen (at_kept A0 (by assumption)) 7
  go_simp
  replace k0 := kept_again k0 (at_kept A0 k0) (o := 7) (v := .string r.body) (by simp)
  clear hfz
  clear hHeld
  show K _ _
  refine hK.out _ _ (at_cells8' (at_kept A0 (by assumption))) (fun hHeld => ?_)
  clear hK K
  try simp only [List.getElem_toArray, List.getElem_cons_zero, List.getElem_cons_succ, Act.put, List.setIfInBounds_toArray, List.set_cons_zero, List.set_cons_succ]
  refine wpAnyH_done (by kernel_rfl) ?_ _
  refine NoPanic.normal ?_
  clear hHeld
  have K1 := kept_trans K0 k0
  have A1 := at_kept A0 k0
  have B1 := at_kept B0 k0
  clear k0 K0 A0 B0
  generalize (w3.setCell ⟨X, 0, none⟩ (.string r.key)).setCell ⟨X, 7, none⟩ (.string r.body) = w4 at *
  obtain ⟨c0, c1, c2, c3, c4, c5, c6, c7⟩ := at_cells8' A1
  obtain ⟨d0, d1, d2, d3, d4, d5, d6, d7, df⟩ := at_cells8 B1
  have E1 := at_set8 B1 (.string r.key) (.int .u64 r.s.p) (.int .u32 r.s.l) (.int .u8 r.s.n) (.int .u8 r.kind) (.int .u32 r.flags) (.int .u64 r.exp) (.string r.body)
  have E2 := HS.out w4 (.string r.key) (.int .u64 r.s.p) (.int .u32 r.s.l) (.int .u8 r.s.n) (.int .u8 r.kind) (.int .u32 r.flags) (.int .u64 r.exp) (.string r.body) K1
  have E3 := hid E1
  have E4 := hid E2
  clear E1 E2 K1 A1 B1
  go_wp2_with fail
  exact bodyPost_ret (res1 Tryz.results50 _ rfl E3.out) rfl ⟨rfl, E4.out⟩


end Go.Proofs.YthgbdaladngpdaaGreat
