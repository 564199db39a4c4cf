/- The contract of Put, where there is none of its key. A key has at most 1000 bytes, a body at most 3000; the store has at most 500 records. -/
import Derived.Test.YthgbdaladngpdaaGreatP15
/- The contract of Put, where there is none of its key. A key has at most 1000 bytes, a body at most 3000; the store has at most 500 records. -/
namespace Go.Proofs.YthgbdaladngpdaaGreat
open Go.ChangeShapes Go.WideShapes Go.ChangeAt Go.RowKit
open Go.Proofs.YthgbdaladngpdaaGreat.Whl (Tn tn_kept tn_refl tn_trans tn_set tn_alloc at_tn kept_tn It)
set_option linter.unusedVariables false
set_option linter.unusedSimpArgs false
set_option maxRecDepth 100000

set_option maxHeartbeats 3200000 in
theorem put_floor {F : Nat → Prop} {X : Nat} {c : Cf} {pl : Nat → R} {l : List Nat} {fl : Nat → Stp} {ev : Nat} (hc : c.may) (r : R) (hk : r.key.size ≤ 1000) (hb : r.body.size ≤ 3000) (hok : r.ok) (now : Int) (w : World) (h : StI w F X c pl l fl ev (fun _ => False)) (hm : mayR r = true) (hnow : ¬ r.s.p + (c.K : Int) ≤ now) (hno : findK (l.map pl) r.key = none) (hfl : ¬ cmp (fl (rg r.key)) r.s < 0) :
    Calls Tryz.prog 14 #[.pointer (some ⟨X, 0, none⟩), .agg #[.string r.key, .int .u64 r.s.p, .int .u32 r.s.l, .int .u8 r.s.n, .int .u8 r.kind, .int .u32 r.flags, .int .u64 r.exp, .string r.body], .int .u64 now] w fun e w' => e = .returned (.tuple #[.bool false, .int .i64 8]) ∧ Kept w w' := by
  have hkm : r.key.size ≤ maxLen := by unfold maxLen; omega
  have hbm : r.body.size ≤ maxLen := by unfold maxLen; omega
  have hp0 : 0 ≤ r.s.p := hok.2.1.1
  have K1 := kept_alloc (kept_refl w) (.cells #[.string r.key, .int .u64 r.s.p, .int .u32 r.s.l, .int .u8 r.s.n, .int .u8 r.kind, .int .u32 r.flags, .int .u64 r.exp, .string r.body] 42)
  have A1 := at_new w #[.string r.key, .int .u64 r.s.p, .int .u32 r.s.l, .int .u8 r.s.n, .int .u8 r.kind, .int .u32 r.flags, .int .u64 r.exp, .string r.body] 42
  obtain ⟨w1, hw1⟩ : ∃ w1, w.alloc (.cells #[.string r.key, .int .u64 r.s.p, .int .u32 r.s.l, .int .u8 r.s.n, .int .u8 r.kind, .int .u32 r.flags, .int .u64 r.exp, .string r.body] 42) = w1 := ⟨_, rfl⟩
  obtain ⟨Y, hYs⟩ : ∃ Y, w.heap.size = Y := ⟨_, rfl⟩
  have HY : Hid (¬ F Y) := hid (fun hf => by have := sti_low h _ hf; omega)
  rw [hw1] at K1 A1
  rw [hYs] at A1
  have HYs := hid hYs
  have HA1 := hid A1
  have HK1 := hid K1
  have HI1 := hid (sti_kept h K1)
  clear h K1 A1
  obtain ⟨d0, d1, d2, d3, d4, d5, d6, d7⟩ := at_cells8' HA1.out
  go_enter Tryz.func14, Tryz.ntmps14
  go_wp2_with fail
  refine (May_any r hkm hbm _).mono ?_
  rintro e w2 ⟨rfl, k2⟩
  rw [hm]
  have HK2 := hid (kept_trans HK1.out k2)
  have HA2 := hid (at_kept HA1.out k2)
  have HI2 := hid (sti_kept HI1.out k2)
  clear k2 HK1 HA1 HI1 d0 d1 d2 d3 d4 d5 d6 d7 hw1
  have hp1 : r.s.p ≤ 281474976710655 := may_p hm
  obtain ⟨d0, d1, d2, d3, d4, d5, d6, d7⟩ := at_cells8' HA2.out
  obtain ⟨f, M, a, hm2, hco⟩ := HI2.out
  have hOld := oldAt_any hc r hp0 hp1 w2 hm2
  have HM2 := hid hm2
  have HCo := hid hco
  clear hm2 hco
  go_wp2_with fail
  refine hOld.mono ?_
  rintro e w3 ⟨rfl, k3⟩
  have HK3 := hid (kept_trans HK2.out k3)
  have HA3 := hid (at_kept HA2.out k3)
  have HW3 := hid (sm_kept HM2.out k3)
  clear k3 hOld HK2 HA2 HI2 HM2 d0 d1 d2 d3 d4 d5 d6 d7
  have hfk : f r.key = none := (coh_none HCo.out).2 hno
  have hnow2 : decide (r.s.p + (c.K : Int) ≤ now) = false := decide_eq_false (by omega)
  have hGet : ∀ u, Kept w3 u → Calls Tryz.prog 38 #[.pointer (some ⟨a.Xt, 0, none⟩), .string r.key] u fun e w' => e = .returned (.tuple #[.int .i64 0, .bool false]) ∧ Kept u w' := fun u ku => by
    have := Slo.get_any r.key hkm u (sm_kept HW3.out ku).tab
    rw [Slo.valI_mp, Slo.taken_mp, HW3.out.mp, hfk] at this
    exact this
  have HS : Hid (∀ u, Kept w3 u → (u.cell? ⟨X, 1, none⟩ = some (.pointer (some ⟨a.Xt, 0, none⟩))) ∧ (u.cell? ⟨Y, 0, none⟩ = some (.string r.key))) := hid (fun u ku => ⟨(sm_cells (sm_kept HW3.out ku)).1.2.1, at_cell (at_kept HA3.out ku) 0⟩)
  have k0 : Kept w3 w3.drew := kept_refl w3
  go_wp2_with fail
  refine wp_region_noPanic ?_
  refine wp_region_held_drew (S := (fun w' => (w'.cell? ⟨X, 1, none⟩ = some (.pointer (some ⟨a.Xt, 0, none⟩))) ∧ (w'.cell? ⟨Y, 0, none⟩ = some (.string r.key)))) (by kernel_rfl) (HS.out _ k0) (fun hHeld => ?_)
  refine wpAnyH_take (i := 0) (v := .pointer (some ⟨X, 0, none⟩)) rfl (by kernel_rfl) (by kernel_rfl) (by kernel_rfl) (fun _ _ _ h => h) (Or.inl ⟨by rfl, fun w hSw => by (try dsimp only at hSw); go_simp⟩) (by assumption) ?_
  try simp only [List.getElem_toArray, List.getElem_cons_zero, List.getElem_cons_succ, Act.put, List.setIfInBounds_toArray, List.set_cons_zero, List.set_cons_succ]
  refine wpAnyH_take (i := 1) (v := .pointer (some ⟨X, 0, none⟩)) rfl (by kernel_rfl) (by kernel_rfl) (by kernel_rfl) (fun _ _ _ h => h) (Or.inl ⟨by rfl, fun w hSw => by (try dsimp only at hSw); go_simp⟩) (by assumption) ?_
  try simp only [List.getElem_toArray, List.getElem_cons_zero, List.getElem_cons_succ, Act.put, List.setIfInBounds_toArray, List.set_cons_zero, List.set_cons_succ]
  refine wpAnyH_take (i := 2) (v := .pointer (some ⟨X, 1, none⟩)) rfl (by kernel_rfl) (by kernel_rfl) (by kernel_rfl) (fun _ _ _ h => h) (Or.inl ⟨by rfl, fun w hSw => by (try dsimp only at hSw); go_simp⟩) (by assumption) ?_
  try simp only [List.getElem_toArray, List.getElem_cons_zero, List.getElem_cons_succ, Act.put, List.setIfInBounds_toArray, List.set_cons_zero, List.set_cons_succ]
  refine wpAnyH_take (i := 3) (v := .pointer (some ⟨a.Xt, 0, none⟩)) rfl (by kernel_rfl) (by kernel_rfl) (by kernel_rfl) (fun _ _ _ h => h) (Or.inl ⟨by rfl, fun w hSw => by (try dsimp only at hSw); go_simp⟩) (by assumption) ?_
  try simp only [List.getElem_toArray, List.getElem_cons_zero, List.getElem_cons_succ, Act.put, List.setIfInBounds_toArray, List.set_cons_zero, List.set_cons_succ]
  refine wpAnyH_take (i := 4) (v := .pointer (some ⟨Y, 0, none⟩)) rfl (by kernel_rfl) (by kernel_rfl) (by kernel_rfl) (fun _ _ _ h => h) (Or.inl ⟨by rfl, fun w hSw => by (try dsimp only at hSw); go_simp⟩) (by assumption) ?_
  try simp only [List.getElem_toArray, List.getElem_cons_zero, List.getElem_cons_succ, Act.put, List.setIfInBounds_toArray, List.set_cons_zero, List.set_cons_succ]
  refine wpAnyH_take (i := 5) (v := .string r.key) rfl (by kernel_rfl) (by kernel_rfl) (by kernel_rfl) (fun _ _ _ h => h) (Or.inl ⟨by rfl, fun w hSw => by (try dsimp only at hSw); go_simp⟩) (by assumption) ?_
  try simp only [List.getElem_toArray, List.getElem_cons_zero, List.getElem_cons_succ, Act.put, List.setIfInBounds_toArray, List.set_cons_zero, List.set_cons_succ]
  refine wpAnyH_ready (rs := [6]) (by kernel_rfl) (by simp) ?_
  refine AllReadyH.cons (i := 6) rfl (fun K hK => ?_) AllReadyH.nil
  go_simp
  refine (hGet _ k0).mono ?_
  rintro e w4 ⟨rfl, h3⟩
  replace k0 := kept_trans k0 h3
  clear h3
  clear hHeld
  show K _ _
  refine hK.out _ _ (HS.out _ k0) (fun hHeld => ?_)
  clear hK K
  try simp only [List.getElem_toArray, List.getElem_cons_zero, List.getElem_cons_succ, Act.put, List.setIfInBounds_toArray, List.set_cons_zero, List.set_cons_succ]
  refine wpAnyH_take (i := 7) (v := .tuple #[.int .i64 0, .bool false]) rfl (by kernel_rfl) (by kernel_rfl) (by kernel_rfl) (fun _ _ _ h => h) (Or.inl ⟨by rfl, fun w hSw => by (try dsimp only at hSw); go_simp⟩) (by assumption) ?_
  try simp only [List.getElem_toArray, List.getElem_cons_zero, List.getElem_cons_succ, Act.put, List.setIfInBounds_toArray, List.set_cons_zero, List.set_cons_succ]
  refine wpAnyH_take (i := 8) (v := .int .i64 0) rfl (by kernel_rfl) (by kernel_rfl) (by kernel_rfl) (fun _ _ _ h => h) (Or.inl ⟨by rfl, fun w hSw => by (try dsimp only at hSw); go_simp⟩) (by assumption) ?_
  try simp only [List.getElem_toArray, List.getElem_cons_zero, List.getElem_cons_succ, Act.put, List.setIfInBounds_toArray, List.set_cons_zero, List.set_cons_succ]
  refine wpAnyH_take (i := 9) (v := .bool false) rfl (by kernel_rfl) (by kernel_rfl) (by kernel_rfl) (fun _ _ _ h => h) (Or.inl ⟨by rfl, fun w hSw => by (try dsimp only at hSw); go_simp⟩) (by assumption) ?_
  try simp only [List.getElem_toArray, List.getElem_cons_zero, List.getElem_cons_succ, Act.put, List.setIfInBounds_toArray, List.set_cons_zero, List.set_cons_succ]
  refine wpAnyH_take (i := 10) (v := .int .i64 0) rfl (by kernel_rfl) (by kernel_rfl) (by kernel_rfl) (fun _ _ _ h => h) (Or.inl ⟨by rfl, fun w hSw => by (try dsimp only at hSw); go_simp⟩) (by assumption) ?_
  try simp only [List.getElem_toArray, List.getElem_cons_zero, List.getElem_cons_succ, Act.put, List.setIfInBounds_toArray, List.set_cons_zero, List.set_cons_succ]
  refine wpAnyH_take (i := 11) (v := .bool false) rfl (by kernel_rfl) (by kernel_rfl) (by kernel_rfl) (fun _ _ _ h => h) (Or.inl ⟨by rfl, fun w hSw => by (try dsimp only at hSw); go_simp⟩) (by assumption) ?_
  try simp only [List.getElem_toArray, List.getElem_cons_zero, List.getElem_cons_succ, Act.put, List.setIfInBounds_toArray, List.set_cons_zero, List.set_cons_succ]
  refine wpAnyH_done (by kernel_rfl) ?_ _
  refine NoPanic.normal ?_
  clear hHeld HS hGet
  have HS : Hid (∀ u, Kept w3 u → (u.cell? ⟨Y, 0, none⟩ = some (.string r.key) ∧ u.cell? ⟨Y, 1, none⟩ = some (.int .u64 r.s.p) ∧ u.cell? ⟨Y, 2, none⟩ = some (.int .u32 r.s.l) ∧ u.cell? ⟨Y, 3, none⟩ = some (.int .u8 r.s.n) ∧ u.cell? ⟨Y, 4, none⟩ = some (.int .u8 r.kind) ∧ u.cell? ⟨Y, 5, none⟩ = some (.int .u32 r.flags) ∧ u.cell? ⟨Y, 6, none⟩ = some (.int .u64 r.exp) ∧ u.cell? ⟨Y, 7, none⟩ = some (.string r.body))) := hid (fun u ku => at_cells8' (at_kept HA3.out ku))
  replace k0 : Kept w3 w4.drew := k0
  go_wp2_with fail
  refine wp_region_noPanic ?_
  refine wp_region_held_drew (S := (fun w' => (w'.cell? ⟨Y, 0, none⟩ = some (.string r.key) ∧ w'.cell? ⟨Y, 1, none⟩ = some (.int .u64 r.s.p) ∧ w'.cell? ⟨Y, 2, none⟩ = some (.int .u32 r.s.l) ∧ w'.cell? ⟨Y, 3, none⟩ = some (.int .u8 r.s.n) ∧ w'.cell? ⟨Y, 4, none⟩ = some (.int .u8 r.kind) ∧ w'.cell? ⟨Y, 5, none⟩ = some (.int .u32 r.flags) ∧ w'.cell? ⟨Y, 6, none⟩ = some (.int .u64 r.exp) ∧ w'.cell? ⟨Y, 7, none⟩ = some (.string r.body)))) (by kernel_rfl) (HS.out _ k0) (fun hHeld => ?_)
  refine wpAnyH_take (i := 0) (v := .bool false) rfl (by kernel_rfl) (by kernel_rfl) (by kernel_rfl) (fun _ _ _ h => h) (Or.inl ⟨by rfl, fun w hSw => by (try dsimp only at hSw); go_simp⟩) (by assumption) ?_
  try simp only [List.getElem_toArray, List.getElem_cons_zero, List.getElem_cons_succ, Act.put, List.setIfInBounds_toArray, List.set_cons_zero, List.set_cons_succ]
  refine wpAnyH_take (i := 1) (v := .bool false) rfl (by kernel_rfl) (by kernel_rfl) (by kernel_rfl) (fun _ _ _ h => h) (Or.inl ⟨by rfl, fun w hSw => by (try dsimp only at hSw); go_simp⟩) (by assumption) ?_
  try simp only [List.getElem_toArray, List.getElem_cons_zero, List.getElem_cons_succ, Act.put, List.setIfInBounds_toArray, List.set_cons_zero, List.set_cons_succ]
  refine wpAnyH_take (i := 2) (v := undef) rfl (by kernel_rfl) (by kernel_rfl) (by kernel_rfl) (fun _ _ _ h => h) (Or.inr ⟨by rfl, rfl⟩) (by assumption) ?_
  try simp only [List.getElem_toArray, List.getElem_cons_zero, List.getElem_cons_succ, Act.put, List.setIfInBounds_toArray, List.set_cons_zero, List.set_cons_succ]
  refine wpAnyH_take (i := 3) (v := undef) rfl (by kernel_rfl) (by kernel_rfl) (by kernel_rfl) (fun _ _ _ h => h) (Or.inr ⟨by rfl, rfl⟩) (by assumption) ?_
  try simp only [List.getElem_toArray, List.getElem_cons_zero, List.getElem_cons_succ, Act.put, List.setIfInBounds_toArray, List.set_cons_zero, List.set_cons_succ]
  refine wpAnyH_take (i := 4) (v := undef) rfl (by kernel_rfl) (by kernel_rfl) (by kernel_rfl) (fun _ _ _ h => h) (Or.inr ⟨by rfl, rfl⟩) (by assumption) ?_
  try simp only [List.getElem_toArray, List.getElem_cons_zero, List.getElem_cons_succ, Act.put, List.setIfInBounds_toArray, List.set_cons_zero, List.set_cons_succ]
  refine wpAnyH_take (i := 5) (v := undef) rfl (by kernel_rfl) (by kernel_rfl) (by kernel_rfl) (fun _ _ _ h => h) (Or.inr ⟨by rfl, rfl⟩) (by assumption) ?_
  try simp only [List.getElem_toArray, List.getElem_cons_zero, List.getElem_cons_succ, Act.put, List.setIfInBounds_toArray, List.set_cons_zero, List.set_cons_succ]
  refine wpAnyH_take (i := 6) (v := undef) rfl (by kernel_rfl) (by kernel_rfl) (by kernel_rfl) (fun _ _ _ h => h) (Or.inr ⟨by rfl, rfl⟩) (by assumption) ?_
  try simp only [List.getElem_toArray, List.getElem_cons_zero, List.getElem_cons_succ, Act.put, List.setIfInBounds_toArray, List.set_cons_zero, List.set_cons_succ]
  refine wpAnyH_take (i := 7) (v := undef) rfl (by kernel_rfl) (by kernel_rfl) (by kernel_rfl) (fun _ _ _ h => h) (Or.inr ⟨by rfl, rfl⟩) (by assumption) ?_
  try simp only [List.getElem_toArray, List.getElem_cons_zero, List.getElem_cons_succ, Act.put, List.setIfInBounds_toArray, List.set_cons_zero, List.set_cons_succ]
  refine wpAnyH_take (i := 8) (v := undef) rfl (by kernel_rfl) (by kernel_rfl) (by kernel_rfl) (fun _ _ _ h => h) (Or.inr ⟨by rfl, rfl⟩) (by assumption) ?_
  try simp only [List.getElem_toArray, List.getElem_cons_zero, List.getElem_cons_succ, Act.put, List.setIfInBounds_toArray, List.set_cons_zero, List.set_cons_succ]
  refine wpAnyH_take (i := 9) (v := undef) rfl (by kernel_rfl) (by kernel_rfl) (by kernel_rfl) (fun _ _ _ h => h) (Or.inr ⟨by rfl, rfl⟩) (by assumption) ?_
  try simp only [List.getElem_toArray, List.getElem_cons_zero, List.getElem_cons_succ, Act.put, List.setIfInBounds_toArray, List.set_cons_zero, List.set_cons_succ]
  refine wpAnyH_take (i := 10) (v := undef) rfl (by kernel_rfl) (by kernel_rfl) (by kernel_rfl) (fun _ _ _ h => h) (Or.inr ⟨by rfl, rfl⟩) (by assumption) ?_
  try simp only [List.getElem_toArray, List.getElem_cons_zero, List.getElem_cons_succ, Act.put, List.setIfInBounds_toArray, List.set_cons_zero, List.set_cons_succ]
  refine wpAnyH_take (i := 11) (v := undef) rfl (by kernel_rfl) (by kernel_rfl) (by kernel_rfl) (fun _ _ _ h => h) (Or.inr ⟨by rfl, rfl⟩) (by assumption) ?_
  try simp only [List.getElem_toArray, List.getElem_cons_zero, List.getElem_cons_succ, Act.put, List.setIfInBounds_toArray, List.set_cons_zero, List.set_cons_succ]
  refine wpAnyH_take (i := 12) (v := .bool false) rfl (by kernel_rfl) (by kernel_rfl) (by kernel_rfl) (fun _ _ _ h => h) (Or.inl ⟨by rfl, fun w hSw => by (try dsimp only at hSw); go_simp⟩) (by assumption) ?_
  try simp only [List.getElem_toArray, List.getElem_cons_zero, List.getElem_cons_succ, Act.put, List.setIfInBounds_toArray, List.set_cons_zero, List.set_cons_succ]
  refine wpAnyH_done (by kernel_rfl) ?_ _
  refine NoPanic.normal ?_
  clear hHeld
  have hAb : ∀ u, Kept w3 u → _ := fun u ku => above_any r hkm u (sm_kept HW3.out ku)
  have hfl2 : decide (cmp (fl (rg r.key)) r.s < 0) = false := decide_eq_false (by omega)
  simp only [hfl2] at hAb
  replace k0 : Kept w3 w4.drew.drew := k0
  go_wp2_with fail
  refine wp_region_noPanic ?_
  refine wp_region_held_drew (S := (fun w' => (w'.cell? ⟨Y, 0, none⟩ = some (.string r.key) ∧ w'.cell? ⟨Y, 1, none⟩ = some (.int .u64 r.s.p) ∧ w'.cell? ⟨Y, 2, none⟩ = some (.int .u32 r.s.l) ∧ w'.cell? ⟨Y, 3, none⟩ = some (.int .u8 r.s.n) ∧ w'.cell? ⟨Y, 4, none⟩ = some (.int .u8 r.kind) ∧ w'.cell? ⟨Y, 5, none⟩ = some (.int .u32 r.flags) ∧ w'.cell? ⟨Y, 6, none⟩ = some (.int .u64 r.exp) ∧ w'.cell? ⟨Y, 7, none⟩ = some (.string r.body)))) (by kernel_rfl) (HS.out _ k0) (fun hHeld => ?_)
  refine wpAnyH_take (i := 0) (v := .bool false) rfl (by kernel_rfl) (by kernel_rfl) (by kernel_rfl) (fun _ _ _ h => h) (Or.inl ⟨by rfl, fun w hSw => by (try dsimp only at hSw); go_simp⟩) (by assumption) ?_
  try simp only [List.getElem_toArray, List.getElem_cons_zero, List.getElem_cons_succ, Act.put, List.setIfInBounds_toArray, List.set_cons_zero, List.set_cons_succ]
  refine wpAnyH_take (i := 1) (v := .bool false) rfl (by kernel_rfl) (by kernel_rfl) (by kernel_rfl) (fun _ _ _ h => h) (Or.inl ⟨by rfl, fun w hSw => by (try dsimp only at hSw); go_simp⟩) (by assumption) ?_
  try simp only [List.getElem_toArray, List.getElem_cons_zero, List.getElem_cons_succ, Act.put, List.setIfInBounds_toArray, List.set_cons_zero, List.set_cons_succ]
  refine wpAnyH_take (i := 2) (v := undef) rfl (by kernel_rfl) (by kernel_rfl) (by kernel_rfl) (fun _ _ _ h => h) (Or.inr ⟨by rfl, rfl⟩) (by assumption) ?_
  try simp only [List.getElem_toArray, List.getElem_cons_zero, List.getElem_cons_succ, Act.put, List.setIfInBounds_toArray, List.set_cons_zero, List.set_cons_succ]
  refine wpAnyH_take (i := 3) (v := undef) rfl (by kernel_rfl) (by kernel_rfl) (by kernel_rfl) (fun _ _ _ h => h) (Or.inr ⟨by rfl, rfl⟩) (by assumption) ?_
  try simp only [List.getElem_toArray, List.getElem_cons_zero, List.getElem_cons_succ, Act.put, List.setIfInBounds_toArray, List.set_cons_zero, List.set_cons_succ]
  refine wpAnyH_take (i := 4) (v := undef) rfl (by kernel_rfl) (by kernel_rfl) (by kernel_rfl) (fun _ _ _ h => h) (Or.inr ⟨by rfl, rfl⟩) (by assumption) ?_
  try simp only [List.getElem_toArray, List.getElem_cons_zero, List.getElem_cons_succ, Act.put, List.setIfInBounds_toArray, List.set_cons_zero, List.set_cons_succ]
  refine wpAnyH_take (i := 5) (v := undef) rfl (by kernel_rfl) (by kernel_rfl) (by kernel_rfl) (fun _ _ _ h => h) (Or.inr ⟨by rfl, rfl⟩) (by assumption) ?_
  try simp only [List.getElem_toArray, List.getElem_cons_zero, List.getElem_cons_succ, Act.put, List.setIfInBounds_toArray, List.set_cons_zero, List.set_cons_succ]
  refine wpAnyH_take (i := 6) (v := undef) rfl (by kernel_rfl) (by kernel_rfl) (by kernel_rfl) (fun _ _ _ h => h) (Or.inr ⟨by rfl, rfl⟩) (by assumption) ?_
  try simp only [List.getElem_toArray, List.getElem_cons_zero, List.getElem_cons_succ, Act.put, List.setIfInBounds_toArray, List.set_cons_zero, List.set_cons_succ]
  refine wpAnyH_take (i := 7) (v := undef) rfl (by kernel_rfl) (by kernel_rfl) (by kernel_rfl) (fun _ _ _ h => h) (Or.inr ⟨by rfl, rfl⟩) (by assumption) ?_
  try simp only [List.getElem_toArray, List.getElem_cons_zero, List.getElem_cons_succ, Act.put, List.setIfInBounds_toArray, List.set_cons_zero, List.set_cons_succ]
  refine wpAnyH_take (i := 8) (v := undef) rfl (by kernel_rfl) (by kernel_rfl) (by kernel_rfl) (fun _ _ _ h => h) (Or.inr ⟨by rfl, rfl⟩) (by assumption) ?_
  try simp only [List.getElem_toArray, List.getElem_cons_zero, List.getElem_cons_succ, Act.put, List.setIfInBounds_toArray, List.set_cons_zero, List.set_cons_succ]
  refine wpAnyH_take (i := 9) (v := undef) rfl (by kernel_rfl) (by kernel_rfl) (by kernel_rfl) (fun _ _ _ h => h) (Or.inr ⟨by rfl, rfl⟩) (by assumption) ?_
  try simp only [List.getElem_toArray, List.getElem_cons_zero, List.getElem_cons_succ, Act.put, List.setIfInBounds_toArray, List.set_cons_zero, List.set_cons_succ]
  refine wpAnyH_take (i := 10) (v := undef) rfl (by kernel_rfl) (by kernel_rfl) (by kernel_rfl) (fun _ _ _ h => h) (Or.inr ⟨by rfl, rfl⟩) (by assumption) ?_
  try simp only [List.getElem_toArray, List.getElem_cons_zero, List.getElem_cons_succ, Act.put, List.setIfInBounds_toArray, List.set_cons_zero, List.set_cons_succ]
  refine wpAnyH_take (i := 11) (v := undef) rfl (by kernel_rfl) (by kernel_rfl) (by kernel_rfl) (fun _ _ _ h => h) (Or.inr ⟨by rfl, rfl⟩) (by assumption) ?_
  try simp only [List.getElem_toArray, List.getElem_cons_zero, List.getElem_cons_succ, Act.put, List.setIfInBounds_toArray, List.set_cons_zero, List.set_cons_succ]
  refine wpAnyH_take (i := 12) (v := .bool false) rfl (by kernel_rfl) (by kernel_rfl) (by kernel_rfl) (fun _ _ _ h => h) (Or.inl ⟨by rfl, fun w hSw => by (try dsimp only at hSw); go_simp⟩) (by assumption) ?_
  try simp only [List.getElem_toArray, List.getElem_cons_zero, List.getElem_cons_succ, Act.put, List.setIfInBounds_toArray, List.set_cons_zero, List.set_cons_succ]
  refine wpAnyH_take (i := 13) (v := .bool false) rfl (by kernel_rfl) (by kernel_rfl) (by kernel_rfl) (fun _ _ _ h => h) (Or.inl ⟨by rfl, fun w hSw => by (try dsimp only at hSw); go_simp⟩) (by assumption) ?_
  try simp only [List.getElem_toArray, List.getElem_cons_zero, List.getElem_cons_succ, Act.put, List.setIfInBounds_toArray, List.set_cons_zero, List.set_cons_succ]
  refine wpAnyH_take (i := 14) (v := .bool false) rfl (by kernel_rfl) (by kernel_rfl) (by kernel_rfl) (fun _ _ _ h => h) (Or.inl ⟨by rfl, fun w hSw => by (try dsimp only at hSw); go_simp⟩) (by assumption) ?_
  try simp only [List.getElem_toArray, List.getElem_cons_zero, List.getElem_cons_succ, Act.put, List.setIfInBounds_toArray, List.set_cons_zero, List.set_cons_succ]
  refine wpAnyH_take (i := 15) (v := .bool true) rfl (by kernel_rfl) (by kernel_rfl) (by kernel_rfl) (fun _ _ _ h => h) (Or.inl ⟨by rfl, fun w hSw => by (try dsimp only at hSw); go_simp⟩) (by assumption) ?_
  try simp only [List.getElem_toArray, List.getElem_cons_zero, List.getElem_cons_succ, Act.put, List.setIfInBounds_toArray, List.set_cons_zero, List.set_cons_succ]
  refine wpAnyH_take (i := 16) (v := .bool true) rfl (by kernel_rfl) (by kernel_rfl) (by kernel_rfl) (fun _ _ _ h => h) (Or.inl ⟨by rfl, fun w hSw => by (try dsimp only at hSw); go_simp⟩) (by assumption) ?_
  try simp only [List.getElem_toArray, List.getElem_cons_zero, List.getElem_cons_succ, Act.put, List.setIfInBounds_toArray, List.set_cons_zero, List.set_cons_succ]
  refine wpAnyH_take (i := 17) (v := .pointer (some ⟨X, 0, none⟩)) rfl (by kernel_rfl) (by kernel_rfl) (by kernel_rfl) (fun _ _ _ h => h) (Or.inl ⟨by rfl, fun w hSw => by (try dsimp only at hSw); go_simp⟩) (by assumption) ?_
  try simp only [List.getElem_toArray, List.getElem_cons_zero, List.getElem_cons_succ, Act.put, List.setIfInBounds_toArray, List.set_cons_zero, List.set_cons_succ]
  refine wpAnyH_take (i := 18) (v := .agg #[.string r.key, .int .u64 r.s.p, .int .u32 r.s.l, .int .u8 r.s.n, .int .u8 r.kind, .int .u32 r.flags, .int .u64 r.exp, .string r.body]) rfl (by kernel_rfl) (by kernel_rfl) (by kernel_rfl) (fun _ _ _ h => h) (Or.inl ⟨by rfl, fun w hSw => by (try dsimp only at hSw); go_simp⟩) (by assumption) ?_
  try simp only [List.getElem_toArray, List.getElem_cons_zero, List.getElem_cons_succ, Act.put, List.setIfInBounds_toArray, List.set_cons_zero, List.set_cons_succ]
  refine wpAnyH_ready (rs := [19]) (by kernel_rfl) (by simp) ?_
  refine AllReadyH.cons (i := 19) rfl (fun K hK => ?_) AllReadyH.nil
  go_simp
  refine (hAb _ k0).mono ?_
  rintro e w6 ⟨rfl, h3⟩
  replace k0 := kept_trans k0 h3
  clear h3
  clear hHeld
  show K _ _
  refine hK.out _ _ (HS.out _ k0) (fun hHeld => ?_)
  clear hK K
  try simp only [List.getElem_toArray, List.getElem_cons_zero, List.getElem_cons_succ, Act.put, List.setIfInBounds_toArray, List.set_cons_zero, List.set_cons_succ]
  refine wpAnyH_take (i := 20) (v := .bool true) rfl (by kernel_rfl) (by kernel_rfl) (by kernel_rfl) (fun _ _ _ h => h) (Or.inl ⟨by rfl, fun w hSw => by (try dsimp only at hSw); go_simp⟩) (by assumption) ?_
  try simp only [List.getElem_toArray, List.getElem_cons_zero, List.getElem_cons_succ, Act.put, List.setIfInBounds_toArray, List.set_cons_zero, List.set_cons_succ]
  refine wpAnyH_take (i := 21) (v := .bool true) rfl (by kernel_rfl) (by kernel_rfl) (by kernel_rfl) (fun _ _ _ h => h) (Or.inl ⟨by rfl, fun w hSw => by (try dsimp only at hSw); go_simp⟩) (by assumption) ?_
  try simp only [List.getElem_toArray, List.getElem_cons_zero, List.getElem_cons_succ, Act.put, List.setIfInBounds_toArray, List.set_cons_zero, List.set_cons_succ]
  refine wpAnyH_take (i := 22) (v := .bool true) rfl (by kernel_rfl) (by kernel_rfl) (by kernel_rfl) (fun _ _ _ h => h) (Or.inl ⟨by rfl, fun w hSw => by (try dsimp only at hSw); go_simp⟩) (by assumption) ?_
  try simp only [List.getElem_toArray, List.getElem_cons_zero, List.getElem_cons_succ, Act.put, List.setIfInBounds_toArray, List.set_cons_zero, List.set_cons_succ]
  refine wpAnyH_done (by kernel_rfl) ?_ _
  refine NoPanic.normal ?_
  clear hHeld hAb
  have HKe := hid (kept_trans HK3.out k0)
  clear k0
  go_wp2_with fail
  go_ret2
  exact ⟨rfl, HKe.out⟩
set_option maxHeartbeats 3200000 in
theorem put_big2 {F : Nat → Prop} {X : Nat} {c : Cf} {pl : Nat → R} {l : List Nat} {fl : Nat → Stp} {ev : Nat} (hc : c.may) (r : R) (hk : r.key.size ≤ 1000) (hb : r.body.size ≤ 3000) (hok : r.ok) (now : Int) (w : World) (h : StI w F X c pl l fl ev (fun _ => False)) (hm : mayR r = true) (hnow : ¬ r.s.p + (c.K : Int) ≤ now) (hno : findK (l.map pl) r.key = none) (hfl : cmp (fl (rg r.key)) r.s < 0) (hbig : c.B < lenR r) :
    Calls Tryz.prog 14 #[.pointer (some ⟨X, 0, none⟩), .agg #[.string r.key, .int .u64 r.s.p, .int .u32 r.s.l, .int .u8 r.s.n, .int .u8 r.kind, .int .u32 r.flags, .int .u64 r.exp, .string r.body], .int .u64 now] w fun e w' => e = .returned (.tuple #[.bool false, .int .i64 6]) ∧ Kept w w' := by
  have hkm : r.key.size ≤ maxLen := by unfold maxLen; omega
  have hbm : r.body.size ≤ maxLen := by unfold maxLen; omega
  have hp0 : 0 ≤ r.s.p := hok.2.1.1
  have K1 := kept_alloc (kept_refl w) (.cells #[.string r.key, .int .u64 r.s.p, .int .u32 r.s.l, .int .u8 r.s.n, .int .u8 r.kind, .int .u32 r.flags, .int .u64 r.exp, .string r.body] 42)
  have A1 := at_new w #[.string r.key, .int .u64 r.s.p, .int .u32 r.s.l, .int .u8 r.s.n, .int .u8 r.kind, .int .u32 r.flags, .int .u64 r.exp, .string r.body] 42
  obtain ⟨w1, hw1⟩ : ∃ w1, w.alloc (.cells #[.string r.key, .int .u64 r.s.p, .int .u32 r.s.l, .int .u8 r.s.n, .int .u8 r.kind, .int .u32 r.flags, .int .u64 r.exp, .string r.body] 42) = w1 := ⟨_, rfl⟩
  obtain ⟨Y, hYs⟩ : ∃ Y, w.heap.size = Y := ⟨_, rfl⟩
  have HY : Hid (¬ F Y) := hid (fun hf => by have := sti_low h _ hf; omega)
  rw [hw1] at K1 A1
  rw [hYs] at A1
  have HYs := hid hYs
  have HA1 := hid A1
  have HK1 := hid K1
  have HI1 := hid (sti_kept h K1)
  clear h K1 A1
  obtain ⟨d0, d1, d2, d3, d4, d5, d6, d7⟩ := at_cells8' HA1.out
  go_enter Tryz.func14, Tryz.ntmps14
  go_wp2_with fail
  refine (May_any r hkm hbm _).mono ?_
  rintro e w2 ⟨rfl, k2⟩
  rw [hm]
  have HK2 := hid (kept_trans HK1.out k2)
  have HA2 := hid (at_kept HA1.out k2)
  have HI2 := hid (sti_kept HI1.out k2)
  clear k2 HK1 HA1 HI1 d0 d1 d2 d3 d4 d5 d6 d7 hw1
  have hp1 : r.s.p ≤ 281474976710655 := may_p hm
  obtain ⟨d0, d1, d2, d3, d4, d5, d6, d7⟩ := at_cells8' HA2.out
  obtain ⟨f, M, a, hm2, hco⟩ := HI2.out
  have hOld := oldAt_any hc r hp0 hp1 w2 hm2
  have HM2 := hid hm2
  have HCo := hid hco
  clear hm2 hco
  go_wp2_with fail
  refine hOld.mono ?_
  rintro e w3 ⟨rfl, k3⟩
  have HK3 := hid (kept_trans HK2.out k3)
  have HA3 := hid (at_kept HA2.out k3)
  have HW3 := hid (sm_kept HM2.out k3)
  clear k3 hOld HK2 HA2 HI2 HM2 d0 d1 d2 d3 d4 d5 d6 d7
  have hfk : f r.key = none := (coh_none HCo.out).2 hno
  have hnow2 : decide (r.s.p + (c.K : Int) ≤ now) = false := decide_eq_false (by omega)
  have hGet : ∀ u, Kept w3 u → Calls Tryz.prog 38 #[.pointer (some ⟨a.Xt, 0, none⟩), .string r.key] u fun e w' => e = .returned (.tuple #[.int .i64 0, .bool false]) ∧ Kept u w' := fun u ku => by
    have := Slo.get_any r.key hkm u (sm_kept HW3.out ku).tab
    rw [Slo.valI_mp, Slo.taken_mp, HW3.out.mp, hfk] at this
    exact this
  have HS : Hid (∀ u, Kept w3 u → (u.cell? ⟨X, 1, none⟩ = some (.pointer (some ⟨a.Xt, 0, none⟩))) ∧ (u.cell? ⟨Y, 0, none⟩ = some (.string r.key))) := hid (fun u ku => ⟨(sm_cells (sm_kept HW3.out ku)).1.2.1, at_cell (at_kept HA3.out ku) 0⟩)
  have k0 : Kept w3 w3.drew := kept_refl w3
  go_wp2_with fail
  refine wp_region_noPanic ?_
  refine wp_region_held_drew (S := (fun w' => (w'.cell? ⟨X, 1, none⟩ = some (.pointer (some ⟨a.Xt, 0, none⟩))) ∧ (w'.cell? ⟨Y, 0, none⟩ = some (.string r.key)))) (by kernel_rfl) (HS.out _ k0) (fun hHeld => ?_)
  refine wpAnyH_take (i := 0) (v := .pointer (some ⟨X, 0, none⟩)) rfl (by kernel_rfl) (by kernel_rfl) (by kernel_rfl) (fun _ _ _ h => h) (Or.inl ⟨by rfl, fun w hSw => by (try dsimp only at hSw); go_simp⟩) (by assumption) ?_
  try simp only [List.getElem_toArray, List.getElem_cons_zero, List.getElem_cons_succ, Act.put, List.setIfInBounds_toArray, List.set_cons_zero, List.set_cons_succ]
  refine wpAnyH_take (i := 1) (v := .pointer (some ⟨X, 0, none⟩)) rfl (by kernel_rfl) (by kernel_rfl) (by kernel_rfl) (fun _ _ _ h => h) (Or.inl ⟨by rfl, fun w hSw => by (try dsimp only at hSw); go_simp⟩) (by assumption) ?_
  try simp only [List.getElem_toArray, List.getElem_cons_zero, List.getElem_cons_succ, Act.put, List.setIfInBounds_toArray, List.set_cons_zero, List.set_cons_succ]
  refine wpAnyH_take (i := 2) (v := .pointer (some ⟨X, 1, none⟩)) rfl (by kernel_rfl) (by kernel_rfl) (by kernel_rfl) (fun _ _ _ h => h) (Or.inl ⟨by rfl, fun w hSw => by (try dsimp only at hSw); go_simp⟩) (by assumption) ?_
  try simp only [List.getElem_toArray, List.getElem_cons_zero, List.getElem_cons_succ, Act.put, List.setIfInBounds_toArray, List.set_cons_zero, List.set_cons_succ]
  refine wpAnyH_take (i := 3) (v := .pointer (some ⟨a.Xt, 0, none⟩)) rfl (by kernel_rfl) (by kernel_rfl) (by kernel_rfl) (fun _ _ _ h => h) (Or.inl ⟨by rfl, fun w hSw => by (try dsimp only at hSw); go_simp⟩) (by assumption) ?_
  try simp only [List.getElem_toArray, List.getElem_cons_zero, List.getElem_cons_succ, Act.put, List.setIfInBounds_toArray, List.set_cons_zero, List.set_cons_succ]
  refine wpAnyH_take (i := 4) (v := .pointer (some ⟨Y, 0, none⟩)) rfl (by kernel_rfl) (by kernel_rfl) (by kernel_rfl) (fun _ _ _ h => h) (Or.inl ⟨by rfl, fun w hSw => by (try dsimp only at hSw); go_simp⟩) (by assumption) ?_
  try simp only [List.getElem_toArray, List.getElem_cons_zero, List.getElem_cons_succ, Act.put, List.setIfInBounds_toArray, List.set_cons_zero, List.set_cons_succ]
  refine wpAnyH_take (i := 5) (v := .string r.key) rfl (by kernel_rfl) (by kernel_rfl) (by kernel_rfl) (fun _ _ _ h => h) (Or.inl ⟨by rfl, fun w hSw => by (try dsimp only at hSw); go_simp⟩) (by assumption) ?_
  try simp only [List.getElem_toArray, List.getElem_cons_zero, List.getElem_cons_succ, Act.put, List.setIfInBounds_toArray, List.set_cons_zero, List.set_cons_succ]
  refine wpAnyH_ready (rs := [6]) (by kernel_rfl) (by simp) ?_
  refine AllReadyH.cons (i := 6) rfl (fun K hK => ?_) AllReadyH.nil
  go_simp
  refine (hGet _ k0).mono ?_
  rintro e w4 ⟨rfl, h3⟩
  replace k0 := kept_trans k0 h3
  clear h3
  clear hHeld
  show K _ _
  refine hK.out _ _ (HS.out _ k0) (fun hHeld => ?_)
  clear hK K
  try simp only [List.getElem_toArray, List.getElem_cons_zero, List.getElem_cons_succ, Act.put, List.setIfInBounds_toArray, List.set_cons_zero, List.set_cons_succ]
  refine wpAnyH_take (i := 7) (v := .tuple #[.int .i64 0, .bool false]) rfl (by kernel_rfl) (by kernel_rfl) (by kernel_rfl) (fun _ _ _ h => h) (Or.inl ⟨by rfl, fun w hSw => by (try dsimp only at hSw); go_simp⟩) (by assumption) ?_
  try simp only [List.getElem_toArray, List.getElem_cons_zero, List.getElem_cons_succ, Act.put, List.setIfInBounds_toArray, List.set_cons_zero, List.set_cons_succ]
  refine wpAnyH_take (i := 8) (v := .int .i64 0) rfl (by kernel_rfl) (by kernel_rfl) (by kernel_rfl) (fun _ _ _ h => h) (Or.inl ⟨by rfl, fun w hSw => by (try dsimp only at hSw); go_simp⟩) (by assumption) ?_
  try simp only [List.getElem_toArray, List.getElem_cons_zero, List.getElem_cons_succ, Act.put, List.setIfInBounds_toArray, List.set_cons_zero, List.set_cons_succ]
  refine wpAnyH_take (i := 9) (v := .bool false) rfl (by kernel_rfl) (by kernel_rfl) (by kernel_rfl) (fun _ _ _ h => h) (Or.inl ⟨by rfl, fun w hSw => by (try dsimp only at hSw); go_simp⟩) (by assumption) ?_
  try simp only [List.getElem_toArray, List.getElem_cons_zero, List.getElem_cons_succ, Act.put, List.setIfInBounds_toArray, List.set_cons_zero, List.set_cons_succ]
  refine wpAnyH_take (i := 10) (v := .int .i64 0) rfl (by kernel_rfl) (by kernel_rfl) (by kernel_rfl) (fun _ _ _ h => h) (Or.inl ⟨by rfl, fun w hSw => by (try dsimp only at hSw); go_simp⟩) (by assumption) ?_
  try simp only [List.getElem_toArray, List.getElem_cons_zero, List.getElem_cons_succ, Act.put, List.setIfInBounds_toArray, List.set_cons_zero, List.set_cons_succ]
  refine wpAnyH_take (i := 11) (v := .bool false) rfl (by kernel_rfl) (by kernel_rfl) (by kernel_rfl) (fun _ _ _ h => h) (Or.inl ⟨by rfl, fun w hSw => by (try dsimp only at hSw); go_simp⟩) (by assumption) ?_
  try simp only [List.getElem_toArray, List.getElem_cons_zero, List.getElem_cons_succ, Act.put, List.setIfInBounds_toArray, List.set_cons_zero, List.set_cons_succ]
  refine wpAnyH_done (by kernel_rfl) ?_ _
  refine NoPanic.normal ?_
  clear hHeld HS hGet
  have HS : Hid (∀ u, Kept w3 u → (u.cell? ⟨Y, 0, none⟩ = some (.string r.key) ∧ u.cell? ⟨Y, 1, none⟩ = some (.int .u64 r.s.p) ∧ u.cell? ⟨Y, 2, none⟩ = some (.int .u32 r.s.l) ∧ u.cell? ⟨Y, 3, none⟩ = some (.int .u8 r.s.n) ∧ u.cell? ⟨Y, 4, none⟩ = some (.int .u8 r.kind) ∧ u.cell? ⟨Y, 5, none⟩ = some (.int .u32 r.flags) ∧ u.cell? ⟨Y, 6, none⟩ = some (.int .u64 r.exp) ∧ u.cell? ⟨Y, 7, none⟩ = some (.string r.body))) := hid (fun u ku => at_cells8' (at_kept HA3.out ku))
  replace k0 : Kept w3 w4.drew := k0
  go_wp2_with fail
  refine wp_region_noPanic ?_
  refine wp_region_held_drew (S := (fun w' => (w'.cell? ⟨Y, 0, none⟩ = some (.string r.key) ∧ w'.cell? ⟨Y, 1, none⟩ = some (.int .u64 r.s.p) ∧ w'.cell? ⟨Y, 2, none⟩ = some (.int .u32 r.s.l) ∧ w'.cell? ⟨Y, 3, none⟩ = some (.int .u8 r.s.n) ∧ w'.cell? ⟨Y, 4, none⟩ = some (.int .u8 r.kind) ∧ w'.cell? ⟨Y, 5, none⟩ = some (.int .u32 r.flags) ∧ w'.cell? ⟨Y, 6, none⟩ = some (.int .u64 r.exp) ∧ w'.cell? ⟨Y, 7, none⟩ = some (.string r.body)))) (by kernel_rfl) (HS.out _ k0) (fun hHeld => ?_)
  refine wpAnyH_take (i := 0) (v := .bool false) rfl (by kernel_rfl) (by kernel_rfl) (by kernel_rfl) (fun _ _ _ h => h) (Or.inl ⟨by rfl, fun w hSw => by (try dsimp only at hSw); go_simp⟩) (by assumption) ?_
  try simp only [List.getElem_toArray, List.getElem_cons_zero, List.getElem_cons_succ, Act.put, List.setIfInBounds_toArray, List.set_cons_zero, List.set_cons_succ]
  refine wpAnyH_take (i := 1) (v := .bool false) rfl (by kernel_rfl) (by kernel_rfl) (by kernel_rfl) (fun _ _ _ h => h) (Or.inl ⟨by rfl, fun w hSw => by (try dsimp only at hSw); go_simp⟩) (by assumption) ?_
  try simp only [List.getElem_toArray, List.getElem_cons_zero, List.getElem_cons_succ, Act.put, List.setIfInBounds_toArray, List.set_cons_zero, List.set_cons_succ]
  refine wpAnyH_take (i := 2) (v := undef) rfl (by kernel_rfl) (by kernel_rfl) (by kernel_rfl) (fun _ _ _ h => h) (Or.inr ⟨by rfl, rfl⟩) (by assumption) ?_
  try simp only [List.getElem_toArray, List.getElem_cons_zero, List.getElem_cons_succ, Act.put, List.setIfInBounds_toArray, List.set_cons_zero, List.set_cons_succ]
  refine wpAnyH_take (i := 3) (v := undef) rfl (by kernel_rfl) (by kernel_rfl) (by kernel_rfl) (fun _ _ _ h => h) (Or.inr ⟨by rfl, rfl⟩) (by assumption) ?_
  try simp only [List.getElem_toArray, List.getElem_cons_zero, List.getElem_cons_succ, Act.put, List.setIfInBounds_toArray, List.set_cons_zero, List.set_cons_succ]
  refine wpAnyH_take (i := 4) (v := undef) rfl (by kernel_rfl) (by kernel_rfl) (by kernel_rfl) (fun _ _ _ h => h) (Or.inr ⟨by rfl, rfl⟩) (by assumption) ?_
  try simp only [List.getElem_toArray, List.getElem_cons_zero, List.getElem_cons_succ, Act.put, List.setIfInBounds_toArray, List.set_cons_zero, List.set_cons_succ]
  refine wpAnyH_take (i := 5) (v := undef) rfl (by kernel_rfl) (by kernel_rfl) (by kernel_rfl) (fun _ _ _ h => h) (Or.inr ⟨by rfl, rfl⟩) (by assumption) ?_
  try simp only [List.getElem_toArray, List.getElem_cons_zero, List.getElem_cons_succ, Act.put, List.setIfInBounds_toArray, List.set_cons_zero, List.set_cons_succ]
  refine wpAnyH_take (i := 6) (v := undef) rfl (by kernel_rfl) (by kernel_rfl) (by kernel_rfl) (fun _ _ _ h => h) (Or.inr ⟨by rfl, rfl⟩) (by assumption) ?_
  try simp only [List.getElem_toArray, List.getElem_cons_zero, List.getElem_cons_succ, Act.put, List.setIfInBounds_toArray, List.set_cons_zero, List.set_cons_succ]
  refine wpAnyH_take (i := 7) (v := undef) rfl (by kernel_rfl) (by kernel_rfl) (by kernel_rfl) (fun _ _ _ h => h) (Or.inr ⟨by rfl, rfl⟩) (by assumption) ?_
  try simp only [List.getElem_toArray, List.getElem_cons_zero, List.getElem_cons_succ, Act.put, List.setIfInBounds_toArray, List.set_cons_zero, List.set_cons_succ]
  refine wpAnyH_take (i := 8) (v := undef) rfl (by kernel_rfl) (by kernel_rfl) (by kernel_rfl) (fun _ _ _ h => h) (Or.inr ⟨by rfl, rfl⟩) (by assumption) ?_
  try simp only [List.getElem_toArray, List.getElem_cons_zero, List.getElem_cons_succ, Act.put, List.setIfInBounds_toArray, List.set_cons_zero, List.set_cons_succ]
  refine wpAnyH_take (i := 9) (v := undef) rfl (by kernel_rfl) (by kernel_rfl) (by kernel_rfl) (fun _ _ _ h => h) (Or.inr ⟨by rfl, rfl⟩) (by assumption) ?_
  try simp only [List.getElem_toArray, List.getElem_cons_zero, List.getElem_cons_succ, Act.put, List.setIfInBounds_toArray, List.set_cons_zero, List.set_cons_succ]
  refine wpAnyH_take (i := 10) (v := undef) rfl (by kernel_rfl) (by kernel_rfl) (by kernel_rfl) (fun _ _ _ h => h) (Or.inr ⟨by rfl, rfl⟩) (by assumption) ?_
  try simp only [List.getElem_toArray, List.getElem_cons_zero, List.getElem_cons_succ, Act.put, List.setIfInBounds_toArray, List.set_cons_zero, List.set_cons_succ]
  refine wpAnyH_take (i := 11) (v := undef) rfl (by kernel_rfl) (by kernel_rfl) (by kernel_rfl) (fun _ _ _ h => h) (Or.inr ⟨by rfl, rfl⟩) (by assumption) ?_
  try simp only [List.getElem_toArray, List.getElem_cons_zero, List.getElem_cons_succ, Act.put, List.setIfInBounds_toArray, List.set_cons_zero, List.set_cons_succ]
  refine wpAnyH_take (i := 12) (v := .bool false) rfl (by kernel_rfl) (by kernel_rfl) (by kernel_rfl) (fun _ _ _ h => h) (Or.inl ⟨by rfl, fun w hSw => by (try dsimp only at hSw); go_simp⟩) (by assumption) ?_
  try simp only [List.getElem_toArray, List.getElem_cons_zero, List.getElem_cons_succ, Act.put, List.setIfInBounds_toArray, List.set_cons_zero, List.set_cons_succ]
  refine wpAnyH_done (by kernel_rfl) ?_ _
  refine NoPanic.normal ?_
  clear hHeld
  have hAb : ∀ u, Kept w3 u → _ := fun u ku => above_any r hkm u (sm_kept HW3.out ku)
  have hfl2 : decide (cmp (fl (rg r.key)) r.s < 0) = true := decide_eq_true hfl
  simp only [hfl2] at hAb
  replace k0 : Kept w3 w4.drew.drew := k0
  go_wp2_with fail
  refine wp_region_noPanic ?_
  refine wp_region_held_drew (S := (fun w' => (w'.cell? ⟨Y, 0, none⟩ = some (.string r.key) ∧ w'.cell? ⟨Y, 1, none⟩ = some (.int .u64 r.s.p) ∧ w'.cell? ⟨Y, 2, none⟩ = some (.int .u32 r.s.l) ∧ w'.cell? ⟨Y, 3, none⟩ = some (.int .u8 r.s.n) ∧ w'.cell? ⟨Y, 4, none⟩ = some (.int .u8 r.kind) ∧ w'.cell? ⟨Y, 5, none⟩ = some (.int .u32 r.flags) ∧ w'.cell? ⟨Y, 6, none⟩ = some (.int .u64 r.exp) ∧ w'.cell? ⟨Y, 7, none⟩ = some (.string r.body)))) (by kernel_rfl) (HS.out _ k0) (fun hHeld => ?_)
  refine wpAnyH_take (i := 0) (v := .bool false) rfl (by kernel_rfl) (by kernel_rfl) (by kernel_rfl) (fun _ _ _ h => h) (Or.inl ⟨by rfl, fun w hSw => by (try dsimp only at hSw); go_simp⟩) (by assumption) ?_
  try simp only [List.getElem_toArray, List.getElem_cons_zero, List.getElem_cons_succ, Act.put, List.setIfInBounds_toArray, List.set_cons_zero, List.set_cons_succ]
  refine wpAnyH_take (i := 1) (v := .bool false) rfl (by kernel_rfl) (by kernel_rfl) (by kernel_rfl) (fun _ _ _ h => h) (Or.inl ⟨by rfl, fun w hSw => by (try dsimp only at hSw); go_simp⟩) (by assumption) ?_
  try simp only [List.getElem_toArray, List.getElem_cons_zero, List.getElem_cons_succ, Act.put, List.setIfInBounds_toArray, List.set_cons_zero, List.set_cons_succ]
  refine wpAnyH_take (i := 2) (v := undef) rfl (by kernel_rfl) (by kernel_rfl) (by kernel_rfl) (fun _ _ _ h => h) (Or.inr ⟨by rfl, rfl⟩) (by assumption) ?_
  try simp only [List.getElem_toArray, List.getElem_cons_zero, List.getElem_cons_succ, Act.put, List.setIfInBounds_toArray, List.set_cons_zero, List.set_cons_succ]
  refine wpAnyH_take (i := 3) (v := undef) rfl (by kernel_rfl) (by kernel_rfl) (by kernel_rfl) (fun _ _ _ h => h) (Or.inr ⟨by rfl, rfl⟩) (by assumption) ?_
  try simp only [List.getElem_toArray, List.getElem_cons_zero, List.getElem_cons_succ, Act.put, List.setIfInBounds_toArray, List.set_cons_zero, List.set_cons_succ]
  refine wpAnyH_take (i := 4) (v := undef) rfl (by kernel_rfl) (by kernel_rfl) (by kernel_rfl) (fun _ _ _ h => h) (Or.inr ⟨by rfl, rfl⟩) (by assumption) ?_
  try simp only [List.getElem_toArray, List.getElem_cons_zero, List.getElem_cons_succ, Act.put, List.setIfInBounds_toArray, List.set_cons_zero, List.set_cons_succ]
  refine wpAnyH_take (i := 5) (v := undef) rfl (by kernel_rfl) (by kernel_rfl) (by kernel_rfl) (fun _ _ _ h => h) (Or.inr ⟨by rfl, rfl⟩) (by assumption) ?_
  try simp only [List.getElem_toArray, List.getElem_cons_zero, List.getElem_cons_succ, Act.put, List.setIfInBounds_toArray, List.set_cons_zero, List.set_cons_succ]
  refine wpAnyH_take (i := 6) (v := undef) rfl (by kernel_rfl) (by kernel_rfl) (by kernel_rfl) (fun _ _ _ h => h) (Or.inr ⟨by rfl, rfl⟩) (by assumption) ?_
  try simp only [List.getElem_toArray, List.getElem_cons_zero, List.getElem_cons_succ, Act.put, List.setIfInBounds_toArray, List.set_cons_zero, List.set_cons_succ]
  refine wpAnyH_take (i := 7) (v := undef) rfl (by kernel_rfl) (by kernel_rfl) (by kernel_rfl) (fun _ _ _ h => h) (Or.inr ⟨by rfl, rfl⟩) (by assumption) ?_
  try simp only [List.getElem_toArray, List.getElem_cons_zero, List.getElem_cons_succ, Act.put, List.setIfInBounds_toArray, List.set_cons_zero, List.set_cons_succ]
  refine wpAnyH_take (i := 8) (v := undef) rfl (by kernel_rfl) (by kernel_rfl) (by kernel_rfl) (fun _ _ _ h => h) (Or.inr ⟨by rfl, rfl⟩) (by assumption) ?_
  try simp only [List.getElem_toArray, List.getElem_cons_zero, List.getElem_cons_succ, Act.put, List.setIfInBounds_toArray, List.set_cons_zero, List.set_cons_succ]
  refine wpAnyH_take (i := 9) (v := undef) rfl (by kernel_rfl) (by kernel_rfl) (by kernel_rfl) (fun _ _ _ h => h) (Or.inr ⟨by rfl, rfl⟩) (by assumption) ?_
  try simp only [List.getElem_toArray, List.getElem_cons_zero, List.getElem_cons_succ, Act.put, List.setIfInBounds_toArray, List.set_cons_zero, List.set_cons_succ]
  refine wpAnyH_take (i := 10) (v := undef) rfl (by kernel_rfl) (by kernel_rfl) (by kernel_rfl) (fun _ _ _ h => h) (Or.inr ⟨by rfl, rfl⟩) (by assumption) ?_
  try simp only [List.getElem_toArray, List.getElem_cons_zero, List.getElem_cons_succ, Act.put, List.setIfInBounds_toArray, List.set_cons_zero, List.set_cons_succ]
  refine wpAnyH_take (i := 11) (v := undef) rfl (by kernel_rfl) (by kernel_rfl) (by kernel_rfl) (fun _ _ _ h => h) (Or.inr ⟨by rfl, rfl⟩) (by assumption) ?_
  try simp only [List.getElem_toArray, List.getElem_cons_zero, List.getElem_cons_succ, Act.put, List.setIfInBounds_toArray, List.set_cons_zero, List.set_cons_succ]
  refine wpAnyH_take (i := 12) (v := .bool false) rfl (by kernel_rfl) (by kernel_rfl) (by kernel_rfl) (fun _ _ _ h => h) (Or.inl ⟨by rfl, fun w hSw => by (try dsimp only at hSw); go_simp⟩) (by assumption) ?_
  try simp only [List.getElem_toArray, List.getElem_cons_zero, List.getElem_cons_succ, Act.put, List.setIfInBounds_toArray, List.set_cons_zero, List.set_cons_succ]
  refine wpAnyH_take (i := 13) (v := .bool false) rfl (by kernel_rfl) (by kernel_rfl) (by kernel_rfl) (fun _ _ _ h => h) (Or.inl ⟨by rfl, fun w hSw => by (try dsimp only at hSw); go_simp⟩) (by assumption) ?_
  try simp only [List.getElem_toArray, List.getElem_cons_zero, List.getElem_cons_succ, Act.put, List.setIfInBounds_toArray, List.set_cons_zero, List.set_cons_succ]
  refine wpAnyH_take (i := 14) (v := .bool false) rfl (by kernel_rfl) (by kernel_rfl) (by kernel_rfl) (fun _ _ _ h => h) (Or.inl ⟨by rfl, fun w hSw => by (try dsimp only at hSw); go_simp⟩) (by assumption) ?_
  try simp only [List.getElem_toArray, List.getElem_cons_zero, List.getElem_cons_succ, Act.put, List.setIfInBounds_toArray, List.set_cons_zero, List.set_cons_succ]
  refine wpAnyH_take (i := 15) (v := .bool true) rfl (by kernel_rfl) (by kernel_rfl) (by kernel_rfl) (fun _ _ _ h => h) (Or.inl ⟨by rfl, fun w hSw => by (try dsimp only at hSw); go_simp⟩) (by assumption) ?_
  try simp only [List.getElem_toArray, List.getElem_cons_zero, List.getElem_cons_succ, Act.put, List.setIfInBounds_toArray, List.set_cons_zero, List.set_cons_succ]
  refine wpAnyH_take (i := 16) (v := .bool true) rfl (by kernel_rfl) (by kernel_rfl) (by kernel_rfl) (fun _ _ _ h => h) (Or.inl ⟨by rfl, fun w hSw => by (try dsimp only at hSw); go_simp⟩) (by assumption) ?_
  try simp only [List.getElem_toArray, List.getElem_cons_zero, List.getElem_cons_succ, Act.put, List.setIfInBounds_toArray, List.set_cons_zero, List.set_cons_succ]
  refine wpAnyH_take (i := 17) (v := .pointer (some ⟨X, 0, none⟩)) rfl (by kernel_rfl) (by kernel_rfl) (by kernel_rfl) (fun _ _ _ h => h) (Or.inl ⟨by rfl, fun w hSw => by (try dsimp only at hSw); go_simp⟩) (by assumption) ?_
  try simp only [List.getElem_toArray, List.getElem_cons_zero, List.getElem_cons_succ, Act.put, List.setIfInBounds_toArray, List.set_cons_zero, List.set_cons_succ]
  refine wpAnyH_take (i := 18) (v := .agg #[.string r.key, .int .u64 r.s.p, .int .u32 r.s.l, .int .u8 r.s.n, .int .u8 r.kind, .int .u32 r.flags, .int .u64 r.exp, .string r.body]) rfl (by kernel_rfl) (by kernel_rfl) (by kernel_rfl) (fun _ _ _ h => h) (Or.inl ⟨by rfl, fun w hSw => by (try dsimp only at hSw); go_simp⟩) (by assumption) ?_
  try simp only [List.getElem_toArray, List.getElem_cons_zero, List.getElem_cons_succ, Act.put, List.setIfInBounds_toArray, List.set_cons_zero, List.set_cons_succ]
  refine wpAnyH_ready (rs := [19]) (by kernel_rfl) (by simp) ?_
  refine AllReadyH.cons (i := 19) rfl (fun K hK => ?_) AllReadyH.nil
  go_simp
  refine (hAb _ k0).mono ?_
  rintro e w6 ⟨rfl, h3⟩
  replace k0 := kept_trans k0 h3
  clear h3
  clear hHeld
  show K _ _
  refine hK.out _ _ (HS.out _ k0) (fun hHeld => ?_)
  clear hK K
  try simp only [List.getElem_toArray, List.getElem_cons_zero, List.getElem_cons_succ, Act.put, List.setIfInBounds_toArray, List.set_cons_zero, List.set_cons_succ]
  refine wpAnyH_take (i := 20) (v := .bool false) rfl (by kernel_rfl) (by kernel_rfl) (by kernel_rfl) (fun _ _ _ h => h) (Or.inl ⟨by rfl, fun w hSw => by (try dsimp only at hSw); go_simp⟩) (by assumption) ?_
  try simp only [List.getElem_toArray, List.getElem_cons_zero, List.getElem_cons_succ, Act.put, List.setIfInBounds_toArray, List.set_cons_zero, List.set_cons_succ]
  refine wpAnyH_take (i := 21) (v := .bool false) rfl (by kernel_rfl) (by kernel_rfl) (by kernel_rfl) (fun _ _ _ h => h) (Or.inl ⟨by rfl, fun w hSw => by (try dsimp only at hSw); go_simp⟩) (by assumption) ?_
  try simp only [List.getElem_toArray, List.getElem_cons_zero, List.getElem_cons_succ, Act.put, List.setIfInBounds_toArray, List.set_cons_zero, List.set_cons_succ]
  refine wpAnyH_take (i := 22) (v := .bool false) rfl (by kernel_rfl) (by kernel_rfl) (by kernel_rfl) (fun _ _ _ h => h) (Or.inl ⟨by rfl, fun w hSw => by (try dsimp only at hSw); go_simp⟩) (by assumption) ?_
  try simp only [List.getElem_toArray, List.getElem_cons_zero, List.getElem_cons_succ, Act.put, List.setIfInBounds_toArray, List.set_cons_zero, List.set_cons_succ]
  refine wpAnyH_done (by kernel_rfl) ?_ _
  refine NoPanic.normal ?_
  clear hHeld hAb
  clear HS
  have HS : Hid (∀ u, Kept w3 u → (u.cell? ⟨X, 260, none⟩ = some (.int .i64 (c.B : Int))) ∧ (u.cell? ⟨Y, 0, none⟩ = some (.string r.key) ∧ u.cell? ⟨Y, 1, none⟩ = some (.int .u64 r.s.p) ∧ u.cell? ⟨Y, 2, none⟩ = some (.int .u32 r.s.l) ∧ u.cell? ⟨Y, 3, none⟩ = some (.int .u8 r.s.n) ∧ u.cell? ⟨Y, 4, none⟩ = some (.int .u8 r.kind) ∧ u.cell? ⟨Y, 5, none⟩ = some (.int .u32 r.flags) ∧ u.cell? ⟨Y, 6, none⟩ = some (.int .u64 r.exp) ∧ u.cell? ⟨Y, 7, none⟩ = some (.string r.body))) := hid (fun u ku => ⟨(sm_cells (sm_kept HW3.out ku)).1.2.2.2.2.1, at_cells8' (at_kept HA3.out ku)⟩)
  have hbg : decide ((c.B : Int) < (lenR r : Int)) = true := by simp; omega
  replace k0 : Kept w3 w6.drew := k0
  go_wp2_with fail
  refine wp_region_noPanic ?_
  refine wp_region_held_drew (S := (fun w' => (w'.cell? ⟨X, 260, none⟩ = some (.int .i64 (c.B : Int))) ∧ (w'.cell? ⟨Y, 0, none⟩ = some (.string r.key) ∧ w'.cell? ⟨Y, 1, none⟩ = some (.int .u64 r.s.p) ∧ w'.cell? ⟨Y, 2, none⟩ = some (.int .u32 r.s.l) ∧ w'.cell? ⟨Y, 3, none⟩ = some (.int .u8 r.s.n) ∧ w'.cell? ⟨Y, 4, none⟩ = some (.int .u8 r.kind) ∧ w'.cell? ⟨Y, 5, none⟩ = some (.int .u32 r.flags) ∧ w'.cell? ⟨Y, 6, none⟩ = some (.int .u64 r.exp) ∧ w'.cell? ⟨Y, 7, none⟩ = some (.string r.body)))) (by kernel_rfl) (HS.out _ k0) (fun hHeld => ?_)
  refine wpAnyH_take (i := 0) (v := .agg #[.string r.key, .int .u64 r.s.p, .int .u32 r.s.l, .int .u8 r.s.n, .int .u8 r.kind, .int .u32 r.flags, .int .u64 r.exp, .string r.body]) rfl (by kernel_rfl) (by kernel_rfl) (by kernel_rfl) (fun _ _ _ h => h) (Or.inl ⟨by rfl, fun w hSw => by (try dsimp only at hSw); go_simp⟩) (by assumption) ?_
  try simp only [List.getElem_toArray, List.getElem_cons_zero, List.getElem_cons_succ, Act.put, List.setIfInBounds_toArray, List.set_cons_zero, List.set_cons_succ]
  refine wpAnyH_take (i := 2) (v := .pointer (some ⟨X, 0, none⟩)) rfl (by kernel_rfl) (by kernel_rfl) (by kernel_rfl) (fun _ _ _ h => h) (Or.inl ⟨by rfl, fun w hSw => by (try dsimp only at hSw); go_simp⟩) (by assumption) ?_
  try simp only [List.getElem_toArray, List.getElem_cons_zero, List.getElem_cons_succ, Act.put, List.setIfInBounds_toArray, List.set_cons_zero, List.set_cons_succ]
  refine wpAnyH_take (i := 3) (v := .pointer (some ⟨X, 0, none⟩)) rfl (by kernel_rfl) (by kernel_rfl) (by kernel_rfl) (fun _ _ _ h => h) (Or.inl ⟨by rfl, fun w hSw => by (try dsimp only at hSw); go_simp⟩) (by assumption) ?_
  try simp only [List.getElem_toArray, List.getElem_cons_zero, List.getElem_cons_succ, Act.put, List.setIfInBounds_toArray, List.set_cons_zero, List.set_cons_succ]
  refine wpAnyH_take (i := 4) (v := .pointer (some ⟨X, 260, none⟩)) rfl (by kernel_rfl) (by kernel_rfl) (by kernel_rfl) (fun _ _ _ h => h) (Or.inl ⟨by rfl, fun w hSw => by (try dsimp only at hSw); go_simp⟩) (by assumption) ?_
  try simp only [List.getElem_toArray, List.getElem_cons_zero, List.getElem_cons_succ, Act.put, List.setIfInBounds_toArray, List.set_cons_zero, List.set_cons_succ]
  refine wpAnyH_take (i := 5) (v := .int .i64 (c.B : Int)) rfl (by kernel_rfl) (by kernel_rfl) (by kernel_rfl) (fun _ _ _ h => h) (Or.inl ⟨by rfl, fun w hSw => by (try dsimp only at hSw); go_simp⟩) (by assumption) ?_
  try simp only [List.getElem_toArray, List.getElem_cons_zero, List.getElem_cons_succ, Act.put, List.setIfInBounds_toArray, List.set_cons_zero, List.set_cons_succ]
  refine wpAnyH_ready (rs := [1]) (by kernel_rfl) (by simp) ?_
  refine AllReadyH.cons (i := 1) rfl (fun K hK => ?_) AllReadyH.nil
  go_simp
  refine (length_any r hk hb _).mono ?_
  rintro e w7 ⟨rfl, h3⟩
  replace k0 := kept_trans k0 h3
  clear h3
  clear hHeld
  show K _ _
  refine hK.out _ _ (HS.out _ k0) (fun hHeld => ?_)
  clear hK K
  try simp only [List.getElem_toArray, List.getElem_cons_zero, List.getElem_cons_succ, Act.put, List.setIfInBounds_toArray, List.set_cons_zero, List.set_cons_succ]
  refine wpAnyH_take (i := 6) (v := .bool true) rfl (by kernel_rfl) (by kernel_rfl) (by kernel_rfl) (fun _ _ _ h => h) (Or.inl ⟨by rfl, fun w hSw => by (try dsimp only at hSw); go_simp⟩) (by assumption) ?_
  try simp only [List.getElem_toArray, List.getElem_cons_zero, List.getElem_cons_succ, Act.put, List.setIfInBounds_toArray, List.set_cons_zero, List.set_cons_succ]
  refine wpAnyH_done (by kernel_rfl) ?_ _
  refine NoPanic.normal ?_
  clear hHeld HS
  have HKe := hid (kept_trans HK3.out k0)
  clear k0
  go_wp2_with fail
  go_ret2
  exact ⟨rfl, HKe.out⟩
set_option maxHeartbeats 3200000 in
theorem put_new {F : Nat → Prop} {X : Nat} {c : Cf} {pl : Nat → R} {l : List Nat} {fl : Nat → Stp} {ev : Nat} (hc : c.may) (r : R) (hk : r.key.size ≤ 1000) (hb : r.body.size ≤ 3000) (hok : r.ok) (now : Int) (w : World) (h : StI w F X c pl l fl ev (fun _ => False)) (hm : mayR r = true) (hnow : ¬ r.s.p + (c.K : Int) ≤ now) (hno : findK (l.map pl) r.key = none) (hfl : cmp (fl (rg r.key)) r.s < 0) (hbig : lenR r ≤ c.B) (hl : l.length ≤ 500) (hev : ev ≤ 900000000) :
    Calls Tryz.prog 14 #[.pointer (some ⟨X, 0, none⟩), .agg #[.string r.key, .int .u64 r.s.p, .int .u32 r.s.l, .int .u8 r.s.n, .int .u8 r.kind, .int .u32 r.flags, .int .u64 r.exp, .string r.body], .int .u64 now] w fun e w' => e = .returned (.tuple #[.bool true, .int .i64 0]) ∧ ∃ F', Whl.Stp F F' w w' ∧ St w' F' X c (newer c ⟨l.map pl, fl, ev⟩ r) := by
  have hkm : r.key.size ≤ maxLen := by unfold maxLen; omega
  have hbm : r.body.size ≤ maxLen := by unfold maxLen; omega
  have hp0 : 0 ≤ r.s.p := hok.2.1.1
  have K1 := kept_alloc (kept_refl w) (.cells #[.string r.key, .int .u64 r.s.p, .int .u32 r.s.l, .int .u8 r.s.n, .int .u8 r.kind, .int .u32 r.flags, .int .u64 r.exp, .string r.body] 42)
  have A1 := at_new w #[.string r.key, .int .u64 r.s.p, .int .u32 r.s.l, .int .u8 r.s.n, .int .u8 r.kind, .int .u32 r.flags, .int .u64 r.exp, .string r.body] 42
  obtain ⟨w1, hw1⟩ : ∃ w1, w.alloc (.cells #[.string r.key, .int .u64 r.s.p, .int .u32 r.s.l, .int .u8 r.s.n, .int .u8 r.kind, .int .u32 r.flags, .int .u64 r.exp, .string r.body] 42) = w1 := ⟨_, rfl⟩
  obtain ⟨Y, hYs⟩ : ∃ Y, w.heap.size = Y := ⟨_, rfl⟩
  have HY : Hid (¬ F Y) := hid (fun hf => by have := sti_low h _ hf; omega)
  rw [hw1] at K1 A1
  rw [hYs] at A1
  have HYs := hid hYs
  have HA1 := hid A1
  have HK1 := hid K1
  have HI1 := hid (sti_kept h K1)
  clear h K1 A1
  obtain ⟨d0, d1, d2, d3, d4, d5, d6, d7⟩ := at_cells8' HA1.out
  go_enter Tryz.func14, Tryz.ntmps14
  go_wp2_with fail
  refine (May_any r hkm hbm _).mono ?_
  rintro e w2 ⟨rfl, k2⟩
  rw [hm]
  have HK2 := hid (kept_trans HK1.out k2)
  have HA2 := hid (at_kept HA1.out k2)
  have HI2 := hid (sti_kept HI1.out k2)
  clear k2 HK1 HA1 HI1 d0 d1 d2 d3 d4 d5 d6 d7 hw1
  have hp1 : r.s.p ≤ 281474976710655 := may_p hm
  obtain ⟨d0, d1, d2, d3, d4, d5, d6, d7⟩ := at_cells8' HA2.out
  obtain ⟨f, M, a, hm2, hco⟩ := HI2.out
  have hOld := oldAt_any hc r hp0 hp1 w2 hm2
  have HM2 := hid hm2
  have HCo := hid hco
  clear hm2 hco
  go_wp2_with fail
  refine hOld.mono ?_
  rintro e w3 ⟨rfl, k3⟩
  have HK3 := hid (kept_trans HK2.out k3)
  have HA3 := hid (at_kept HA2.out k3)
  have HW3 := hid (sm_kept HM2.out k3)
  clear k3 hOld HK2 HA2 HI2 HM2 d0 d1 d2 d3 d4 d5 d6 d7
  have hfk : f r.key = none := (coh_none HCo.out).2 hno
  have hnow2 : decide (r.s.p + (c.K : Int) ≤ now) = false := decide_eq_false (by omega)
  have hGet : ∀ u, Kept w3 u → Calls Tryz.prog 38 #[.pointer (some ⟨a.Xt, 0, none⟩), .string r.key] u fun e w' => e = .returned (.tuple #[.int .i64 0, .bool false]) ∧ Kept u w' := fun u ku => by
    have := Slo.get_any r.key hkm u (sm_kept HW3.out ku).tab
    rw [Slo.valI_mp, Slo.taken_mp, HW3.out.mp, hfk] at this
    exact this
  have HS : Hid (∀ u, Kept w3 u → (u.cell? ⟨X, 1, none⟩ = some (.pointer (some ⟨a.Xt, 0, none⟩))) ∧ (u.cell? ⟨Y, 0, none⟩ = some (.string r.key))) := hid (fun u ku => ⟨(sm_cells (sm_kept HW3.out ku)).1.2.1, at_cell (at_kept HA3.out ku) 0⟩)
  have k0 : Kept w3 w3.drew := kept_refl w3
  go_wp2_with fail
  refine wp_region_noPanic ?_
  refine wp_region_held_drew (S := (fun w' => (w'.cell? ⟨X, 1, none⟩ = some (.pointer (some ⟨a.Xt, 0, none⟩))) ∧ (w'.cell? ⟨Y, 0, none⟩ = some (.string r.key)))) (by kernel_rfl) (HS.out _ k0) (fun hHeld => ?_)
  refine wpAnyH_take (i := 0) (v := .pointer (some ⟨X, 0, none⟩)) rfl (by kernel_rfl) (by kernel_rfl) (by kernel_rfl) (fun _ _ _ h => h) (Or.inl ⟨by rfl, fun w hSw => by (try dsimp only at hSw); go_simp⟩) (by assumption) ?_
  try simp only [List.getElem_toArray, List.getElem_cons_zero, List.getElem_cons_succ, Act.put, List.setIfInBounds_toArray, List.set_cons_zero, List.set_cons_succ]
  refine wpAnyH_take (i := 1) (v := .pointer (some ⟨X, 0, none⟩)) rfl (by kernel_rfl) (by kernel_rfl) (by kernel_rfl) (fun _ _ _ h => h) (Or.inl ⟨by rfl, fun w hSw => by (try dsimp only at hSw); go_simp⟩) (by assumption) ?_
  try simp only [List.getElem_toArray, List.getElem_cons_zero, List.getElem_cons_succ, Act.put, List.setIfInBounds_toArray, List.set_cons_zero, List.set_cons_succ]
  refine wpAnyH_take (i := 2) (v := .pointer (some ⟨X, 1, none⟩)) rfl (by kernel_rfl) (by kernel_rfl) (by kernel_rfl) (fun _ _ _ h => h) (Or.inl ⟨by rfl, fun w hSw => by (try dsimp only at hSw); go_simp⟩) (by assumption) ?_
  try simp only [List.getElem_toArray, List.getElem_cons_zero, List.getElem_cons_succ, Act.put, List.setIfInBounds_toArray, List.set_cons_zero, List.set_cons_succ]
  refine wpAnyH_take (i := 3) (v := .pointer (some ⟨a.Xt, 0, none⟩)) rfl (by kernel_rfl) (by kernel_rfl) (by kernel_rfl) (fun _ _ _ h => h) (Or.inl ⟨by rfl, fun w hSw => by (try dsimp only at hSw); go_simp⟩) (by assumption) ?_
  try simp only [List.getElem_toArray, List.getElem_cons_zero, List.getElem_cons_succ, Act.put, List.setIfInBounds_toArray, List.set_cons_zero, List.set_cons_succ]
  refine wpAnyH_take (i := 4) (v := .pointer (some ⟨Y, 0, none⟩)) rfl (by kernel_rfl) (by kernel_rfl) (by kernel_rfl) (fun _ _ _ h => h) (Or.inl ⟨by rfl, fun w hSw => by (try dsimp only at hSw); go_simp⟩) (by assumption) ?_
  try simp only [List.getElem_toArray, List.getElem_cons_zero, List.getElem_cons_succ, Act.put, List.setIfInBounds_toArray, List.set_cons_zero, List.set_cons_succ]
  refine wpAnyH_take (i := 5) (v := .string r.key) rfl (by kernel_rfl) (by kernel_rfl) (by kernel_rfl) (fun _ _ _ h => h) (Or.inl ⟨by rfl, fun w hSw => by (try dsimp only at hSw); go_simp⟩) (by assumption) ?_
  try simp only [List.getElem_toArray, List.getElem_cons_zero, List.getElem_cons_succ, Act.put, List.setIfInBounds_toArray, List.set_cons_zero, List.set_cons_succ]
  refine wpAnyH_ready (rs := [6]) (by kernel_rfl) (by simp) ?_
  refine AllReadyH.cons (i := 6) rfl (fun K hK => ?_) AllReadyH.nil
  go_simp
  refine (hGet _ k0).mono ?_
  rintro e w4 ⟨rfl, h3⟩
  replace k0 := kept_trans k0 h3
  clear h3
  clear hHeld
  show K _ _
  refine hK.out _ _ (HS.out _ k0) (fun hHeld => ?_)
  clear hK K
  try simp only [List.getElem_toArray, List.getElem_cons_zero, List.getElem_cons_succ, Act.put, List.setIfInBounds_toArray, List.set_cons_zero, List.set_cons_succ]
  refine wpAnyH_take (i := 7) (v := .tuple #[.int .i64 0, .bool false]) rfl (by kernel_rfl) (by kernel_rfl) (by kernel_rfl) (fun _ _ _ h => h) (Or.inl ⟨by rfl, fun w hSw => by (try dsimp only at hSw); go_simp⟩) (by assumption) ?_
  try simp only [List.getElem_toArray, List.getElem_cons_zero, List.getElem_cons_succ, Act.put, List.setIfInBounds_toArray, List.set_cons_zero, List.set_cons_succ]
  refine wpAnyH_take (i := 8) (v := .int .i64 0) rfl (by kernel_rfl) (by kernel_rfl) (by kernel_rfl) (fun _ _ _ h => h) (Or.inl ⟨by rfl, fun w hSw => by (try dsimp only at hSw); go_simp⟩) (by assumption) ?_
  try simp only [List.getElem_toArray, List.getElem_cons_zero, List.getElem_cons_succ, Act.put, List.setIfInBounds_toArray, List.set_cons_zero, List.set_cons_succ]
  refine wpAnyH_take (i := 9) (v := .bool false) rfl (by kernel_rfl) (by kernel_rfl) (by kernel_rfl) (fun _ _ _ h => h) (Or.inl ⟨by rfl, fun w hSw => by (try dsimp only at hSw); go_simp⟩) (by assumption) ?_
  try simp only [List.getElem_toArray, List.getElem_cons_zero, List.getElem_cons_succ, Act.put, List.setIfInBounds_toArray, List.set_cons_zero, List.set_cons_succ]
  refine wpAnyH_take (i := 10) (v := .int .i64 0) rfl (by kernel_rfl) (by kernel_rfl) (by kernel_rfl) (fun _ _ _ h => h) (Or.inl ⟨by rfl, fun w hSw => by (try dsimp only at hSw); go_simp⟩) (by assumption) ?_
  try simp only [List.getElem_toArray, List.getElem_cons_zero, List.getElem_cons_succ, Act.put, List.setIfInBounds_toArray, List.set_cons_zero, List.set_cons_succ]
  refine wpAnyH_take (i := 11) (v := .bool false) rfl (by kernel_rfl) (by kernel_rfl) (by kernel_rfl) (fun _ _ _ h => h) (Or.inl ⟨by rfl, fun w hSw => by (try dsimp only at hSw); go_simp⟩) (by assumption) ?_
  try simp only [List.getElem_toArray, List.getElem_cons_zero, List.getElem_cons_succ, Act.put, List.setIfInBounds_toArray, List.set_cons_zero, List.set_cons_succ]
  refine wpAnyH_done (by kernel_rfl) ?_ _
  refine NoPanic.normal ?_
  clear hHeld HS hGet
  have HS : Hid (∀ u, Kept w3 u → (u.cell? ⟨Y, 0, none⟩ = some (.string r.key) ∧ u.cell? ⟨Y, 1, none⟩ = some (.int .u64 r.s.p) ∧ u.cell? ⟨Y, 2, none⟩ = some (.int .u32 r.s.l) ∧ u.cell? ⟨Y, 3, none⟩ = some (.int .u8 r.s.n) ∧ u.cell? ⟨Y, 4, none⟩ = some (.int .u8 r.kind) ∧ u.cell? ⟨Y, 5, none⟩ = some (.int .u32 r.flags) ∧ u.cell? ⟨Y, 6, none⟩ = some (.int .u64 r.exp) ∧ u.cell? ⟨Y, 7, none⟩ = some (.string r.body))) := hid (fun u ku => at_cells8' (at_kept HA3.out ku))
  replace k0 : Kept w3 w4.drew := k0
  go_wp2_with fail
  refine wp_region_noPanic ?_
  refine wp_region_held_drew (S := (fun w' => (w'.cell? ⟨Y, 0, none⟩ = some (.string r.key) ∧ w'.cell? ⟨Y, 1, none⟩ = some (.int .u64 r.s.p) ∧ w'.cell? ⟨Y, 2, none⟩ = some (.int .u32 r.s.l) ∧ w'.cell? ⟨Y, 3, none⟩ = some (.int .u8 r.s.n) ∧ w'.cell? ⟨Y, 4, none⟩ = some (.int .u8 r.kind) ∧ w'.cell? ⟨Y, 5, none⟩ = some (.int .u32 r.flags) ∧ w'.cell? ⟨Y, 6, none⟩ = some (.int .u64 r.exp) ∧ w'.cell? ⟨Y, 7, none⟩ = some (.string r.body)))) (by kernel_rfl) (HS.out _ k0) (fun hHeld => ?_)
  refine wpAnyH_take (i := 0) (v := .bool false) rfl (by kernel_rfl) (by kernel_rfl) (by kernel_rfl) (fun _ _ _ h => h) (Or.inl ⟨by rfl, fun w hSw => by (try dsimp only at hSw); go_simp⟩) (by assumption) ?_
  try simp only [List.getElem_toArray, List.getElem_cons_zero, List.getElem_cons_succ, Act.put, List.setIfInBounds_toArray, List.set_cons_zero, List.set_cons_succ]
  refine wpAnyH_take (i := 1) (v := .bool false) rfl (by kernel_rfl) (by kernel_rfl) (by kernel_rfl) (fun _ _ _ h => h) (Or.inl ⟨by rfl, fun w hSw => by (try dsimp only at hSw); go_simp⟩) (by assumption) ?_
  try simp only [List.getElem_toArray, List.getElem_cons_zero, List.getElem_cons_succ, Act.put, List.setIfInBounds_toArray, List.set_cons_zero, List.set_cons_succ]
  refine wpAnyH_take (i := 2) (v := undef) rfl (by kernel_rfl) (by kernel_rfl) (by kernel_rfl) (fun _ _ _ h => h) (Or.inr ⟨by rfl, rfl⟩) (by assumption) ?_
  try simp only [List.getElem_toArray, List.getElem_cons_zero, List.getElem_cons_succ, Act.put, List.setIfInBounds_toArray, List.set_cons_zero, List.set_cons_succ]
  refine wpAnyH_take (i := 3) (v := undef) rfl (by kernel_rfl) (by kernel_rfl) (by kernel_rfl) (fun _ _ _ h => h) (Or.inr ⟨by rfl, rfl⟩) (by assumption) ?_
  try simp only [List.getElem_toArray, List.getElem_cons_zero, List.getElem_cons_succ, Act.put, List.setIfInBounds_toArray, List.set_cons_zero, List.set_cons_succ]
  refine wpAnyH_take (i := 4) (v := undef) rfl (by kernel_rfl) (by kernel_rfl) (by kernel_rfl) (fun _ _ _ h => h) (Or.inr ⟨by rfl, rfl⟩) (by assumption) ?_
  try simp only [List.getElem_toArray, List.getElem_cons_zero, List.getElem_cons_succ, Act.put, List.setIfInBounds_toArray, List.set_cons_zero, List.set_cons_succ]
  refine wpAnyH_take (i := 5) (v := undef) rfl (by kernel_rfl) (by kernel_rfl) (by kernel_rfl) (fun _ _ _ h => h) (Or.inr ⟨by rfl, rfl⟩) (by assumption) ?_
  try simp only [List.getElem_toArray, List.getElem_cons_zero, List.getElem_cons_succ, Act.put, List.setIfInBounds_toArray, List.set_cons_zero, List.set_cons_succ]
  refine wpAnyH_take (i := 6) (v := undef) rfl (by kernel_rfl) (by kernel_rfl) (by kernel_rfl) (fun _ _ _ h => h) (Or.inr ⟨by rfl, rfl⟩) (by assumption) ?_
  try simp only [List.getElem_toArray, List.getElem_cons_zero, List.getElem_cons_succ, Act.put, List.setIfInBounds_toArray, List.set_cons_zero, List.set_cons_succ]
  refine wpAnyH_take (i := 7) (v := undef) rfl (by kernel_rfl) (by kernel_rfl) (by kernel_rfl) (fun _ _ _ h => h) (Or.inr ⟨by rfl, rfl⟩) (by assumption) ?_
  try simp only [List.getElem_toArray, List.getElem_cons_zero, List.getElem_cons_succ, Act.put, List.setIfInBounds_toArray, List.set_cons_zero, List.set_cons_succ]
  refine wpAnyH_take (i := 8) (v := undef) rfl (by kernel_rfl) (by kernel_rfl) (by kernel_rfl) (fun _ _ _ h => h) (Or.inr ⟨by rfl, rfl⟩) (by assumption) ?_
  try simp only [List.getElem_toArray, List.getElem_cons_zero, List.getElem_cons_succ, Act.put, List.setIfInBounds_toArray, List.set_cons_zero, List.set_cons_succ]
  refine wpAnyH_take (i := 9) (v := undef) rfl (by kernel_rfl) (by kernel_rfl) (by kernel_rfl) (fun _ _ _ h => h) (Or.inr ⟨by rfl, rfl⟩) (by assumption) ?_
  try simp only [List.getElem_toArray, List.getElem_cons_zero, List.getElem_cons_succ, Act.put, List.setIfInBounds_toArray, List.set_cons_zero, List.set_cons_succ]
  refine wpAnyH_take (i := 10) (v := undef) rfl (by kernel_rfl) (by kernel_rfl) (by kernel_rfl) (fun _ _ _ h => h) (Or.inr ⟨by rfl, rfl⟩) (by assumption) ?_
  try simp only [List.getElem_toArray, List.getElem_cons_zero, List.getElem_cons_succ, Act.put, List.setIfInBounds_toArray, List.set_cons_zero, List.set_cons_succ]
  refine wpAnyH_take (i := 11) (v := undef) rfl (by kernel_rfl) (by kernel_rfl) (by kernel_rfl) (fun _ _ _ h => h) (Or.inr ⟨by rfl, rfl⟩) (by assumption) ?_
  try simp only [List.getElem_toArray, List.getElem_cons_zero, List.getElem_cons_succ, Act.put, List.setIfInBounds_toArray, List.set_cons_zero, List.set_cons_succ]
  refine wpAnyH_take (i := 12) (v := .bool false) rfl (by kernel_rfl) (by kernel_rfl) (by kernel_rfl) (fun _ _ _ h => h) (Or.inl ⟨by rfl, fun w hSw => by (try dsimp only at hSw); go_simp⟩) (by assumption) ?_
  try simp only [List.getElem_toArray, List.getElem_cons_zero, List.getElem_cons_succ, Act.put, List.setIfInBounds_toArray, List.set_cons_zero, List.set_cons_succ]
  refine wpAnyH_done (by kernel_rfl) ?_ _
  refine NoPanic.normal ?_
  clear hHeld
  have hAb : ∀ u, Kept w3 u → _ := fun u ku => above_any r hkm u (sm_kept HW3.out ku)
  have hfl2 : decide (cmp (fl (rg r.key)) r.s < 0) = true := decide_eq_true hfl
  simp only [hfl2] at hAb
  replace k0 : Kept w3 w4.drew.drew := k0
  go_wp2_with fail
  refine wp_region_noPanic ?_
  refine wp_region_held_drew (S := (fun w' => (w'.cell? ⟨Y, 0, none⟩ = some (.string r.key) ∧ w'.cell? ⟨Y, 1, none⟩ = some (.int .u64 r.s.p) ∧ w'.cell? ⟨Y, 2, none⟩ = some (.int .u32 r.s.l) ∧ w'.cell? ⟨Y, 3, none⟩ = some (.int .u8 r.s.n) ∧ w'.cell? ⟨Y, 4, none⟩ = some (.int .u8 r.kind) ∧ w'.cell? ⟨Y, 5, none⟩ = some (.int .u32 r.flags) ∧ w'.cell? ⟨Y, 6, none⟩ = some (.int .u64 r.exp) ∧ w'.cell? ⟨Y, 7, none⟩ = some (.string r.body)))) (by kernel_rfl) (HS.out _ k0) (fun hHeld => ?_)
  refine wpAnyH_take (i := 0) (v := .bool false) rfl (by kernel_rfl) (by kernel_rfl) (by kernel_rfl) (fun _ _ _ h => h) (Or.inl ⟨by rfl, fun w hSw => by (try dsimp only at hSw); go_simp⟩) (by assumption) ?_
  try simp only [List.getElem_toArray, List.getElem_cons_zero, List.getElem_cons_succ, Act.put, List.setIfInBounds_toArray, List.set_cons_zero, List.set_cons_succ]
  refine wpAnyH_take (i := 1) (v := .bool false) rfl (by kernel_rfl) (by kernel_rfl) (by kernel_rfl) (fun _ _ _ h => h) (Or.inl ⟨by rfl, fun w hSw => by (try dsimp only at hSw); go_simp⟩) (by assumption) ?_
  try simp only [List.getElem_toArray, List.getElem_cons_zero, List.getElem_cons_succ, Act.put, List.setIfInBounds_toArray, List.set_cons_zero, List.set_cons_succ]
  refine wpAnyH_take (i := 2) (v := undef) rfl (by kernel_rfl) (by kernel_rfl) (by kernel_rfl) (fun _ _ _ h => h) (Or.inr ⟨by rfl, rfl⟩) (by assumption) ?_
  try simp only [List.getElem_toArray, List.getElem_cons_zero, List.getElem_cons_succ, Act.put, List.setIfInBounds_toArray, List.set_cons_zero, List.set_cons_succ]
  refine wpAnyH_take (i := 3) (v := undef) rfl (by kernel_rfl) (by kernel_rfl) (by kernel_rfl) (fun _ _ _ h => h) (Or.inr ⟨by rfl, rfl⟩) (by assumption) ?_
  try simp only [List.getElem_toArray, List.getElem_cons_zero, List.getElem_cons_succ, Act.put, List.setIfInBounds_toArray, List.set_cons_zero, List.set_cons_succ]
  refine wpAnyH_take (i := 4) (v := undef) rfl (by kernel_rfl) (by kernel_rfl) (by kernel_rfl) (fun _ _ _ h => h) (Or.inr ⟨by rfl, rfl⟩) (by assumption) ?_
  try simp only [List.getElem_toArray, List.getElem_cons_zero, List.getElem_cons_succ, Act.put, List.setIfInBounds_toArray, List.set_cons_zero, List.set_cons_succ]
  refine wpAnyH_take (i := 5) (v := undef) rfl (by kernel_rfl) (by kernel_rfl) (by kernel_rfl) (fun _ _ _ h => h) (Or.inr ⟨by rfl, rfl⟩) (by assumption) ?_
  try simp only [List.getElem_toArray, List.getElem_cons_zero, List.getElem_cons_succ, Act.put, List.setIfInBounds_toArray, List.set_cons_zero, List.set_cons_succ]
  refine wpAnyH_take (i := 6) (v := undef) rfl (by kernel_rfl) (by kernel_rfl) (by kernel_rfl) (fun _ _ _ h => h) (Or.inr ⟨by rfl, rfl⟩) (by assumption) ?_
  try simp only [List.getElem_toArray, List.getElem_cons_zero, List.getElem_cons_succ, Act.put, List.setIfInBounds_toArray, List.set_cons_zero, List.set_cons_succ]
  refine wpAnyH_take (i := 7) (v := undef) rfl (by kernel_rfl) (by kernel_rfl) (by kernel_rfl) (fun _ _ _ h => h) (Or.inr ⟨by rfl, rfl⟩) (by assumption) ?_
  try simp only [List.getElem_toArray, List.getElem_cons_zero, List.getElem_cons_succ, Act.put, List.setIfInBounds_toArray, List.set_cons_zero, List.set_cons_succ]
  refine wpAnyH_take (i := 8) (v := undef) rfl (by kernel_rfl) (by kernel_rfl) (by kernel_rfl) (fun _ _ _ h => h) (Or.inr ⟨by rfl, rfl⟩) (by assumption) ?_
  try simp only [List.getElem_toArray, List.getElem_cons_zero, List.getElem_cons_succ, Act.put, List.setIfInBounds_toArray, List.set_cons_zero, List.set_cons_succ]
  refine wpAnyH_take (i := 9) (v := undef) rfl (by kernel_rfl) (by kernel_rfl) (by kernel_rfl) (fun _ _ _ h => h) (Or.inr ⟨by rfl, rfl⟩) (by assumption) ?_
  try simp only [List.getElem_toArray, List.getElem_cons_zero, List.getElem_cons_succ, Act.put, List.setIfInBounds_toArray, List.set_cons_zero, List.set_cons_succ]
  refine wpAnyH_take (i := 10) (v := undef) rfl (by kernel_rfl) (by kernel_rfl) (by kernel_rfl) (fun _ _ _ h => h) (Or.inr ⟨by rfl, rfl⟩) (by assumption) ?_
  try simp only [List.getElem_toArray, List.getElem_cons_zero, List.getElem_cons_succ, Act.put, List.setIfInBounds_toArray, List.set_cons_zero, List.set_cons_succ]
  refine wpAnyH_take (i := 11) (v := undef) rfl (by kernel_rfl) (by kernel_rfl) (by kernel_rfl) (fun _ _ _ h => h) (Or.inr ⟨by rfl, rfl⟩) (by assumption) ?_
  try simp only [List.getElem_toArray, List.getElem_cons_zero, List.getElem_cons_succ, Act.put, List.setIfInBounds_toArray, List.set_cons_zero, List.set_cons_succ]
  refine wpAnyH_take (i := 12) (v := .bool false) rfl (by kernel_rfl) (by kernel_rfl) (by kernel_rfl) (fun _ _ _ h => h) (Or.inl ⟨by rfl, fun w hSw => by (try dsimp only at hSw); go_simp⟩) (by assumption) ?_
  try simp only [List.getElem_toArray, List.getElem_cons_zero, List.getElem_cons_succ, Act.put, List.setIfInBounds_toArray, List.set_cons_zero, List.set_cons_succ]
  refine wpAnyH_take (i := 13) (v := .bool false) rfl (by kernel_rfl) (by kernel_rfl) (by kernel_rfl) (fun _ _ _ h => h) (Or.inl ⟨by rfl, fun w hSw => by (try dsimp only at hSw); go_simp⟩) (by assumption) ?_
  try simp only [List.getElem_toArray, List.getElem_cons_zero, List.getElem_cons_succ, Act.put, List.setIfInBounds_toArray, List.set_cons_zero, List.set_cons_succ]
  refine wpAnyH_take (i := 14) (v := .bool false) rfl (by kernel_rfl) (by kernel_rfl) (by kernel_rfl) (fun _ _ _ h => h) (Or.inl ⟨by rfl, fun w hSw => by (try dsimp only at hSw); go_simp⟩) (by assumption) ?_
  try simp only [List.getElem_toArray, List.getElem_cons_zero, List.getElem_cons_succ, Act.put, List.setIfInBounds_toArray, List.set_cons_zero, List.set_cons_succ]
  refine wpAnyH_take (i := 15) (v := .bool true) rfl (by kernel_rfl) (by kernel_rfl) (by kernel_rfl) (fun _ _ _ h => h) (Or.inl ⟨by rfl, fun w hSw => by (try dsimp only at hSw); go_simp⟩) (by assumption) ?_
  try simp only [List.getElem_toArray, List.getElem_cons_zero, List.getElem_cons_succ, Act.put, List.setIfInBounds_toArray, List.set_cons_zero, List.set_cons_succ]
  refine wpAnyH_take (i := 16) (v := .bool true) rfl (by kernel_rfl) (by kernel_rfl) (by kernel_rfl) (fun _ _ _ h => h) (Or.inl ⟨by rfl, fun w hSw => by (try dsimp only at hSw); go_simp⟩) (by assumption) ?_
  try simp only [List.getElem_toArray, List.getElem_cons_zero, List.getElem_cons_succ, Act.put, List.setIfInBounds_toArray, List.set_cons_zero, List.set_cons_succ]
  refine wpAnyH_take (i := 17) (v := .pointer (some ⟨X, 0, none⟩)) rfl (by kernel_rfl) (by kernel_rfl) (by kernel_rfl) (fun _ _ _ h => h) (Or.inl ⟨by rfl, fun w hSw => by (try dsimp only at hSw); go_simp⟩) (by assumption) ?_
  try simp only [List.getElem_toArray, List.getElem_cons_zero, List.getElem_cons_succ, Act.put, List.setIfInBounds_toArray, List.set_cons_zero, List.set_cons_succ]
  refine wpAnyH_take (i := 18) (v := .agg #[.string r.key, .int .u64 r.s.p, .int .u32 r.s.l, .int .u8 r.s.n, .int .u8 r.kind, .int .u32 r.flags, .int .u64 r.exp, .string r.body]) rfl (by kernel_rfl) (by kernel_rfl) (by kernel_rfl) (fun _ _ _ h => h) (Or.inl ⟨by rfl, fun w hSw => by (try dsimp only at hSw); go_simp⟩) (by assumption) ?_
  try simp only [List.getElem_toArray, List.getElem_cons_zero, List.getElem_cons_succ, Act.put, List.setIfInBounds_toArray, List.set_cons_zero, List.set_cons_succ]
  refine wpAnyH_ready (rs := [19]) (by kernel_rfl) (by simp) ?_
  refine AllReadyH.cons (i := 19) rfl (fun K hK => ?_) AllReadyH.nil
  go_simp
  refine (hAb _ k0).mono ?_
  rintro e w6 ⟨rfl, h3⟩
  replace k0 := kept_trans k0 h3
  clear h3
  clear hHeld
  show K _ _
  refine hK.out _ _ (HS.out _ k0) (fun hHeld => ?_)
  clear hK K
  try simp only [List.getElem_toArray, List.getElem_cons_zero, List.getElem_cons_succ, Act.put, List.setIfInBounds_toArray, List.set_cons_zero, List.set_cons_succ]
  refine wpAnyH_take (i := 20) (v := .bool false) rfl (by kernel_rfl) (by kernel_rfl) (by kernel_rfl) (fun _ _ _ h => h) (Or.inl ⟨by rfl, fun w hSw => by (try dsimp only at hSw); go_simp⟩) (by assumption) ?_
  try simp only [List.getElem_toArray, List.getElem_cons_zero, List.getElem_cons_succ, Act.put, List.setIfInBounds_toArray, List.set_cons_zero, List.set_cons_succ]
  refine wpAnyH_take (i := 21) (v := .bool false) rfl (by kernel_rfl) (by kernel_rfl) (by kernel_rfl) (fun _ _ _ h => h) (Or.inl ⟨by rfl, fun w hSw => by (try dsimp only at hSw); go_simp⟩) (by assumption) ?_
  try simp only [List.getElem_toArray, List.getElem_cons_zero, List.getElem_cons_succ, Act.put, List.setIfInBounds_toArray, List.set_cons_zero, List.set_cons_succ]
  refine wpAnyH_take (i := 22) (v := .bool false) rfl (by kernel_rfl) (by kernel_rfl) (by kernel_rfl) (fun _ _ _ h => h) (Or.inl ⟨by rfl, fun w hSw => by (try dsimp only at hSw); go_simp⟩) (by assumption) ?_
  try simp only [List.getElem_toArray, List.getElem_cons_zero, List.getElem_cons_succ, Act.put, List.setIfInBounds_toArray, List.set_cons_zero, List.set_cons_succ]
  refine wpAnyH_done (by kernel_rfl) ?_ _
  refine NoPanic.normal ?_
  clear hHeld hAb
  clear HS
  have HS : Hid (∀ u, Kept w3 u → (u.cell? ⟨X, 260, none⟩ = some (.int .i64 (c.B : Int))) ∧ (u.cell? ⟨Y, 0, none⟩ = some (.string r.key) ∧ u.cell? ⟨Y, 1, none⟩ = some (.int .u64 r.s.p) ∧ u.cell? ⟨Y, 2, none⟩ = some (.int .u32 r.s.l) ∧ u.cell? ⟨Y, 3, none⟩ = some (.int .u8 r.s.n) ∧ u.cell? ⟨Y, 4, none⟩ = some (.int .u8 r.kind) ∧ u.cell? ⟨Y, 5, none⟩ = some (.int .u32 r.flags) ∧ u.cell? ⟨Y, 6, none⟩ = some (.int .u64 r.exp) ∧ u.cell? ⟨Y, 7, none⟩ = some (.string r.body))) := hid (fun u ku => ⟨(sm_cells (sm_kept HW3.out ku)).1.2.2.2.2.1, at_cells8' (at_kept HA3.out ku)⟩)
  have hbg : decide ((c.B : Int) < (lenR r : Int)) = false := by simp; omega
  replace k0 : Kept w3 w6.drew := k0
  go_wp2_with fail
  refine wp_region_noPanic ?_
  refine wp_region_held_drew (S := (fun w' => (w'.cell? ⟨X, 260, none⟩ = some (.int .i64 (c.B : Int))) ∧ (w'.cell? ⟨Y, 0, none⟩ = some (.string r.key) ∧ w'.cell? ⟨Y, 1, none⟩ = some (.int .u64 r.s.p) ∧ w'.cell? ⟨Y, 2, none⟩ = some (.int .u32 r.s.l) ∧ w'.cell? ⟨Y, 3, none⟩ = some (.int .u8 r.s.n) ∧ w'.cell? ⟨Y, 4, none⟩ = some (.int .u8 r.kind) ∧ w'.cell? ⟨Y, 5, none⟩ = some (.int .u32 r.flags) ∧ w'.cell? ⟨Y, 6, none⟩ = some (.int .u64 r.exp) ∧ w'.cell? ⟨Y, 7, none⟩ = some (.string r.body)))) (by kernel_rfl) (HS.out _ k0) (fun hHeld => ?_)
  refine wpAnyH_take (i := 0) (v := .agg #[.string r.key, .int .u64 r.s.p, .int .u32 r.s.l, .int .u8 r.s.n, .int .u8 r.kind, .int .u32 r.flags, .int .u64 r.exp, .string r.body]) rfl (by kernel_rfl) (by kernel_rfl) (by kernel_rfl) (fun _ _ _ h => h) (Or.inl ⟨by rfl, fun w hSw => by (try dsimp only at hSw); go_simp⟩) (by assumption) ?_
  try simp only [List.getElem_toArray, List.getElem_cons_zero, List.getElem_cons_succ, Act.put, List.setIfInBounds_toArray, List.set_cons_zero, List.set_cons_succ]
  refine wpAnyH_take (i := 2) (v := .pointer (some ⟨X, 0, none⟩)) rfl (by kernel_rfl) (by kernel_rfl) (by kernel_rfl) (fun _ _ _ h => h) (Or.inl ⟨by rfl, fun w hSw => by (try dsimp only at hSw); go_simp⟩) (by assumption) ?_
  try simp only [List.getElem_toArray, List.getElem_cons_zero, List.getElem_cons_succ, Act.put, List.setIfInBounds_toArray, List.set_cons_zero, List.set_cons_succ]
  refine wpAnyH_take (i := 3) (v := .pointer (some ⟨X, 0, none⟩)) rfl (by kernel_rfl) (by kernel_rfl) (by kernel_rfl) (fun _ _ _ h => h) (Or.inl ⟨by rfl, fun w hSw => by (try dsimp only at hSw); go_simp⟩) (by assumption) ?_
  try simp only [List.getElem_toArray, List.getElem_cons_zero, List.getElem_cons_succ, Act.put, List.setIfInBounds_toArray, List.set_cons_zero, List.set_cons_succ]
  refine wpAnyH_take (i := 4) (v := .pointer (some ⟨X, 260, none⟩)) rfl (by kernel_rfl) (by kernel_rfl) (by kernel_rfl) (fun _ _ _ h => h) (Or.inl ⟨by rfl, fun w hSw => by (try dsimp only at hSw); go_simp⟩) (by assumption) ?_
  try simp only [List.getElem_toArray, List.getElem_cons_zero, List.getElem_cons_succ, Act.put, List.setIfInBounds_toArray, List.set_cons_zero, List.set_cons_succ]
  refine wpAnyH_take (i := 5) (v := .int .i64 (c.B : Int)) rfl (by kernel_rfl) (by kernel_rfl) (by kernel_rfl) (fun _ _ _ h => h) (Or.inl ⟨by rfl, fun w hSw => by (try dsimp only at hSw); go_simp⟩) (by assumption) ?_
  try simp only [List.getElem_toArray, List.getElem_cons_zero, List.getElem_cons_succ, Act.put, List.setIfInBounds_toArray, List.set_cons_zero, List.set_cons_succ]
  refine wpAnyH_ready (rs := [1]) (by kernel_rfl) (by simp) ?_
  refine AllReadyH.cons (i := 1) rfl (fun K hK => ?_) AllReadyH.nil
  go_simp
  refine (length_any r hk hb _).mono ?_
  rintro e w7 ⟨rfl, h3⟩
  replace k0 := kept_trans k0 h3
  clear h3
  clear hHeld
  show K _ _
  refine hK.out _ _ (HS.out _ k0) (fun hHeld => ?_)
  clear hK K
  try simp only [List.getElem_toArray, List.getElem_cons_zero, List.getElem_cons_succ, Act.put, List.setIfInBounds_toArray, List.set_cons_zero, List.set_cons_succ]
  refine wpAnyH_take (i := 6) (v := .bool false) rfl (by kernel_rfl) (by kernel_rfl) (by kernel_rfl) (fun _ _ _ h => h) (Or.inl ⟨by rfl, fun w hSw => by (try dsimp only at hSw); go_simp⟩) (by assumption) ?_
  try simp only [List.getElem_toArray, List.getElem_cons_zero, List.getElem_cons_succ, Act.put, List.setIfInBounds_toArray, List.set_cons_zero, List.set_cons_succ]
  refine wpAnyH_done (by kernel_rfl) ?_ _
  refine NoPanic.normal ?_
  clear hHeld HS
  have HKe := hid (kept_trans HK3.out k0)
  have HA7 := hid (at_kept HA3.out k0)
  have HI7 : Hid (StI w7 F X c pl l fl ev (fun _ => False)) := hid ⟨f, M, a, sm_kept HW3.out k0, HCo.out⟩
  have HL8 : Hid (l.map pl = woK (l.map pl) r.key) := hid (wo_none (find_none.1 hno)).symm
  have HN8 : Hid (∀ j ∈ l, (pl j).key ≠ r.key) := hid (fun j hj => find_none.1 hno _ (List.mem_map_of_mem hj))
  have hl8 : l.length ≤ 500 := hl
  have HT8 := hid (tn_kept (F := F) HKe.out)
  have HA8 := HA7
  have HI8 := HI7
  clear k0 HW3 HK3 HA3 HCo HKe HA7 HI7
  obtain ⟨w8, hw8⟩ : ∃ w8, w8 = w7 := ⟨_, rfl⟩
  obtain ⟨l8, hl9⟩ : ∃ l8, l8 = l := ⟨_, rfl⟩
  obtain ⟨pl8, hpl8⟩ : ∃ pl8, pl8 = pl := ⟨_, rfl⟩
  rw [← hl9, ← hpl8] at HI8
  rw [← hl9, ← hpl8] at HN8
  rw [← hl9] at hl8
  replace HL8 : Hid (l8.map pl8 = woK (l.map pl) r.key) := hid (by rw [hl9, hpl8]; exact HL8.out)
  rw [← hw8] at HT8 HA8 HI8
  clear hl9 hpl8
  subst hw8
  obtain ⟨d0, d1, d2, d3, d4, d5, d6, d7⟩ := at_cells8' HA8.out
  go_wp2_with fail
  refine (length_any r hk hb _).mono ?_
  rintro e w9 ⟨rfl, k9⟩
  have HT9 := hid (tn_trans HT8.out (tn_kept k9))
  have HA9 := hid (at_kept HA8.out k9)
  have HI9 := hid (sti_kept HI8.out k9)
  clear d0 d1 d2 d3 d4 d5 d6 d7 k9 HT8 HA8 HI8
  go_wp2_with fail
  refine (room_any hc (lenR r) hbig hl8 hev _ HI9.out).mono ?_
  rintro e w10 ⟨rfl, t10, pl10, l10, i10, h10, -, hp10, hpl10⟩
  rw [HL8.out] at i10 h10
  have HT10 := hid (tn_trans HT9.out t10)
  have HA10 := hid (at_tn HA9.out t10 HY.out)
  have HI10 := hid i10
  have hl10 : l10.length < c.n := by
    have := room_fits hc hbig ⟨woK (l.map pl) r.key, fl, ev⟩
    rw [h10] at this
    unfold over at this
    simp at this
    omega
  have hl11 : l10.length ≤ 500 := by
    obtain ⟨t, ht⟩ := hp10
    rw [ht] at hl8
    simp at hl8
    omega
  have HN10 : Hid (∀ j ∈ l10, (pl10 j).key ≠ r.key) := hid (fun j hj => by
    obtain ⟨t, ht⟩ := hp10
    rw [hpl10 j hj]
    exact HN8.out j (by rw [ht]; exact List.mem_append_left _ hj))
  have HR10 := hid h10
  clear HT9 HA9 HI9 t10 i10 h10 hp10 hpl10 HL8 HN8
  have HFr : Hid (∀ u, Kept w10 u → Calls Tryz.prog 45 #[.pointer (some ⟨X, 0, none⟩)] u fun e w' => ∃ i : Nat, e = .returned (.int .i64 (i : Int)) ∧ i < c.n ∧ i ∉ l10 ∧ w' = u) := hid (fun u ku => free_any hc hl10 u (sti_kept HI10.out ku))
  have HS : Hid (∀ u, Kept w10 u → (u.cell? ⟨Y, 0, none⟩ = some (.string r.key) ∧ u.cell? ⟨Y, 1, none⟩ = some (.int .u64 r.s.p) ∧ u.cell? ⟨Y, 2, none⟩ = some (.int .u32 r.s.l) ∧ u.cell? ⟨Y, 3, none⟩ = some (.int .u8 r.s.n) ∧ u.cell? ⟨Y, 4, none⟩ = some (.int .u8 r.kind) ∧ u.cell? ⟨Y, 5, none⟩ = some (.int .u32 r.flags) ∧ u.cell? ⟨Y, 6, none⟩ = some (.int .u64 r.exp) ∧ u.cell? ⟨Y, 7, none⟩ = some (.string r.body))) := hid (fun u ku => at_cells8' (at_kept HA10.out ku))
  have HZ : Hid (∀ (u : World) (F' : Nat → Prop), Whl.Stp F F' w10 u → (u.cell? ⟨Y, 0, none⟩ = some (.string r.key) ∧ u.cell? ⟨Y, 1, none⟩ = some (.int .u64 r.s.p) ∧ u.cell? ⟨Y, 2, none⟩ = some (.int .u32 r.s.l) ∧ u.cell? ⟨Y, 3, none⟩ = some (.int .u8 r.s.n) ∧ u.cell? ⟨Y, 4, none⟩ = some (.int .u8 r.kind) ∧ u.cell? ⟨Y, 5, none⟩ = some (.int .u32 r.flags) ∧ u.cell? ⟨Y, 6, none⟩ = some (.int .u64 r.exp) ∧ u.cell? ⟨Y, 7, none⟩ = some (.string r.body))) := hid (fun u F' t => at_cells8' (at_tn HA10.out t.1 HY.out))
  have HE : Hid (∀ (u : World) (F' : Nat → Prop) (j : Nat), j ∉ l10 → Whl.Stp F F' w10 u → StI u F' X c (updR pl10 j r) (j :: l10) (room c (lenR r) ⟨woK (l.map pl) r.key, fl, ev⟩).fl (room c (lenR r) ⟨woK (l.map pl) r.key, fl, ev⟩).ev (fun _ => False) → ∃ F', Whl.Stp F F' w u ∧ St u F' X c (newer c ⟨l.map pl, fl, ev⟩ r)) := hid (fun u F' j hj t hi => ⟨F', ⟨tn_trans HT10.out t.1, fun x hx => (t.2 x hx).imp id (fun z => Nat.le_trans HT10.out.2.2.1 z)⟩, updR pl10 j r, j :: l10, hi, by
    rw [map_in pl10 r hj, ← HR10.out]
    rfl⟩)
  have k0 : Kept w10 w10.drew := kept_refl w10
  go_wp2_with fail
  refine wp_region_noPanic ?_
  refine wp_region_held_drew (S := (fun w' => (w'.cell? ⟨Y, 0, none⟩ = some (.string r.key) ∧ w'.cell? ⟨Y, 1, none⟩ = some (.int .u64 r.s.p) ∧ w'.cell? ⟨Y, 2, none⟩ = some (.int .u32 r.s.l) ∧ w'.cell? ⟨Y, 3, none⟩ = some (.int .u8 r.s.n) ∧ w'.cell? ⟨Y, 4, none⟩ = some (.int .u8 r.kind) ∧ w'.cell? ⟨Y, 5, none⟩ = some (.int .u32 r.flags) ∧ w'.cell? ⟨Y, 6, none⟩ = some (.int .u64 r.exp) ∧ w'.cell? ⟨Y, 7, none⟩ = some (.string r.body)))) (by kernel_rfl) (by first | exact HS.out _ k0 | assumption) (fun hHeld => ?_)
  refine wpAnyH_take (i := 0) (v := .pointer (some ⟨X, 0, none⟩)) rfl (by kernel_rfl) (by kernel_rfl) (by kernel_rfl) (fun _ _ _ h => h) (Or.inl ⟨by rfl, fun w hSw => by (try dsimp only at hSw); go_simp⟩) (by assumption) ?_
  try simp only [List.getElem_toArray, List.getElem_cons_zero, List.getElem_cons_succ, Act.put, List.setIfInBounds_toArray, List.set_cons_zero, List.set_cons_succ]
  refine wpAnyH_take (i := 1) (v := .pointer (some ⟨X, 0, none⟩)) rfl (by kernel_rfl) (by kernel_rfl) (by kernel_rfl) (fun _ _ _ h => h) (Or.inl ⟨by rfl, fun w hSw => by (try dsimp only at hSw); go_simp⟩) (by assumption) ?_
  try simp only [List.getElem_toArray, List.getElem_cons_zero, List.getElem_cons_succ, Act.put, List.setIfInBounds_toArray, List.set_cons_zero, List.set_cons_succ]
  refine wpAnyH_take (i := 3) (v := .agg #[.string r.key, .int .u64 r.s.p, .int .u32 r.s.l, .int .u8 r.s.n, .int .u8 r.kind, .int .u32 r.flags, .int .u64 r.exp, .string r.body]) rfl (by kernel_rfl) (by kernel_rfl) (by kernel_rfl) (fun _ _ _ h => h) (Or.inl ⟨by rfl, fun w hSw => by (try dsimp only at hSw); go_simp⟩) (by assumption) ?_
  try simp only [List.getElem_toArray, List.getElem_cons_zero, List.getElem_cons_succ, Act.put, List.setIfInBounds_toArray, List.set_cons_zero, List.set_cons_succ]
  refine wpAnyH_ready (rs := [2]) (by kernel_rfl) (by simp) ?_
  refine AllReadyH.cons (i := 2) rfl (fun K hK => ?_) AllReadyH.nil
  go_simp
  refine (HFr.out _ k0).mono ?_
  rintro e w11 ⟨i1, rfl, hi1, hi2, rfl⟩
  have hIn := putIn_any hc i1 hi2 hi1 hl11 hl10 (pend := fun _ => False) (fun g => g) r hm hok HN10.out _ (sti_kept HI10.out k0)
  clear hHeld
  show K _ _
  refine hK.out _ _ (by first | exact HS.out _ k0 | assumption) (fun hHeld => ?_)
  clear hK K
  try simp only [List.getElem_toArray, List.getElem_cons_zero, List.getElem_cons_succ, Act.put, List.setIfInBounds_toArray, List.set_cons_zero, List.set_cons_succ]
  refine wpAnyH_ready (rs := [4]) (by kernel_rfl) (by simp) ?_
  refine AllReadyH.cons (i := 4) rfl (fun K hK => ?_) AllReadyH.nil
  go_simp
  refine (hIn).mono ?_
  rintro e w12 ⟨rfl, F12, t12, i12⟩
  have hS := HZ.out _ F12 t12
  have HB := hid (HE.out _ F12 i1 hi2 t12 i12)
  clear t12 i12
  clear hHeld
  show K _ _
  refine hK.out _ _ (by first | exact HS.out _ k0 | assumption) (fun hHeld => ?_)
  clear hK K
  try simp only [List.getElem_toArray, List.getElem_cons_zero, List.getElem_cons_succ, Act.put, List.setIfInBounds_toArray, List.set_cons_zero, List.set_cons_succ]
  refine wpAnyH_done (by kernel_rfl) ?_ _
  refine NoPanic.normal ?_
  clear hHeld hS HS HZ HE HFr hIn k0 HI10 HT10 HA10
  go_wp2_with fail
  go_ret2
  exact ⟨rfl, HB.out⟩
end Go.Proofs.YthgbdaladngpdaaGreat
