/- The contracts of parent, child and put. A row has at most 1000 items. -/
import Derived.Test.YthgbdaladngpdaaGreatWhlMem
import Derived.Deep.RegionHeld3
namespace Go.Proofs.YthgbdaladngpdaaGreat.Whl
open Go.ChangeShapes Go.WideShapes Go.ChangeAt Go.RowKit
set_option linter.unusedVariables false
set_option maxRecDepth 100000
set_option linter.unusedSimpArgs false

theorem parent_any (i : Nat) (h0 : 0 < i) (h1 : i ≤ 1000) (w : World) : Calls Tryz.prog 123 #[.int .i64 (i : Int)] w fun e w' => e = .returned (.int .i64 (((i - 1) / 2 : Nat) : Int)) ∧ w' = w := by
  go_enter Tryz.func123, Tryz.ntmps123
  go_wp2_with fail
  go_ret
  exact ⟨says_int (by omega), rfl⟩
set_option maxHeartbeats 1600000 in
theorem child_any (v : Value) (l : List It) (i : Nat) (hi : i < l.length) (hl : l.length ≤ 1000) (w : World) (h : Row w v l) : Calls Tryz.prog 140 #[v, .int .i64 (i : Int)] w fun e w' => e = .returned (.int .i64 ((chd l i : Nat) : Int)) ∧ Kept w w' := by
  obtain ⟨q, cap, rfl, hc, hm⟩ := row_some h (by omega)
  obtain ⟨a, ha⟩ : ∃ a, 2 * i + 1 = a := ⟨_, rfl⟩
  have hai : 2 * (i : Int) + 1 = (a : Int) := by omega
  have haL : a ≤ 2001 := by omega
  by_cases h2 : a + 1 < l.length
  · obtain ⟨x, hx⟩ : ∃ x, l[a]? = some x := ⟨l[a], List.getElem?_eq_getElem (by omega)⟩
    obtain ⟨y, hy⟩ : ∃ y, l[a + 1]? = some y := ⟨l[a + 1], List.getElem?_eq_getElem (by omega)⟩
    obtain ⟨c0, c1, cf⟩ := row_cells h hx
    obtain ⟨d0, d1, df⟩ := row_cells h hy
    have HE : Hid (chd l i = if y.1 < x.1 then a + 1 else a) := hid (by
      unfold chd
      rw [show 2 * i + 2 = a + 1 by omega, ha, du_some hx, du_some hy]
      simp only [h2, true_and])
    generalize chd l i = r at *
    generalize hn : l.length = n at *
    have hwr : IntKind.i64.wrap ((a : Int) + 1) = (a : Int) + 1 := IntWalk.i64_in _ (by omega)
    have hgd : decide ((a : Int) + 1 < (n : Int)) = true := by simp; omega
    clear h hx hy c1 d1 df hn
    by_cases hlt : y.1 < x.1
    · have HE2 : Hid (r = a + 1) := hid (by rw [HE.out, if_pos hlt])
      clear HE
      go_enter Tryz.func140, Tryz.ntmps140
      go_wp2_with fail
      clear hai ha
      go_quiet (fail)
      go_wp2_with fail
      go_ret
      exact ⟨says_int (by rw [HE2.out]; omega), kept_drewN (kept_refl w) _⟩
    · have HE2 : Hid (r = a) := hid (by rw [HE.out, if_neg hlt])
      have hd : decide (y.1 < x.1) = false := by simpa using hlt
      clear HE hlt
      go_enter Tryz.func140, Tryz.ntmps140
      go_wp2_with fail
      clear hai ha
      go_quiet (fail)
      go_wp2_with fail
      go_ret
      exact ⟨says_int (by rw [HE2.out]), kept_drewN (kept_refl w) _⟩
  · have HE : Hid (chd l i = a) := hid (by unfold chd; rw [if_neg (fun g => by omega), ha])
    generalize chd l i = r at *
    generalize hn : l.length = n at *
    have hd : decide ((a : Int) + 1 < (n : Int)) = false := by simp; omega
    clear h hn h2
    go_enter Tryz.func140, Tryz.ntmps140
    go_wp2_with fail
    clear hai ha
    go_quiet (fail)
    go_wp2_with fail
    go_ret
    exact ⟨says_int (by rw [HE.out]), kept_drewN (kept_refl w) _⟩
set_option maxHeartbeats 1600000 in
theorem put_any {F : Nat → Prop} {X m c : Nat} {V : Nat → Value} {L : Nat → List It} {g : Int → Option (Nat × Nat)} (b i : Nat) (x : It) (hb : b < 64) (hi : i < (L b).length) (hl : (L b).length ≤ 1000) (hc : c ≤ 1000) (hk : Wf x.2) (w : World) (h : Wm w F X m V L g c) :
    Calls Tryz.prog 124 #[.pointer (some ⟨X, 0, none⟩), .agg #[.int .i64 (b : Int), .int .i64 (i : Int)], .agg #[.int .u64 x.1, .int .i64 x.2]] w fun e w' => e = .returned (.tuple #[]) ∧ Tn F w w' ∧ Wm w' F X m V (upd L b ((L b).set i x)) (updM g x.2 (b, i)) (c + if g x.2 = none then 1 else 0) := by
  obtain ⟨q, cap, hv, hcap, hmax⟩ := row_some (h.row b hb) (by omega)
  have HH := hid h
  have HV := hid hv
  have HFq : Hid (F q) := hid (h.fV b q hb (by rw [hv]; rfl))
  have hi2 : (i : Int) < ((L b).length : Int) := by omega
  have hb2 : ¬ (64 : Int) ≤ (b : Int) := by omega
  go_enter Tryz.func124, Tryz.ntmps124
  go_wp2_with fail
  have HK := hid (kept_alloc (kept_alloc (kept_refl w) (.cells #[.int .i64 (b : Int), .int .i64 (i : Int)] 126)) (.cells #[.int .u64 x.1, .int .i64 x.2] 123))
  have HP := hid (at_alloc (at_new w #[.int .i64 (b : Int), .int .i64 (i : Int)] 126) (.cells #[.int .u64 x.1, .int .i64 x.2] 123))
  have HQ := hid (at_new (w.alloc (.cells #[.int .i64 (b : Int), .int .i64 (i : Int)] 126)) #[.int .u64 x.1, .int .i64 x.2] 123)
  have e2 : (w.alloc (.cells #[.int .i64 (b : Int), .int .i64 (i : Int)] 126)).heap.size = w.heap.size + 1 := by simp
  rw [e2] at HQ
  have HX : Hid (w.heap.size ≠ q ∧ w.heap.size + 1 ≠ q) := hid (by
    have := (wm_low HH.out).2.2 b q hb (by rw [HV.out]; rfl)
    omega)
  clear e2 h hv
  go_wp2_with fail
  generalize (w.alloc (.cells #[.int .i64 (b : Int), .int .i64 (i : Int)] 126)).alloc (.cells #[.int .u64 x.1, .int .i64 x.2] 123) = w1 at *
  generalize w.heap.size + 1 = P2 at *
  generalize w.heap.size = P1 at *
  replace HH := hid (wm_kept HH.out HK.out)
  have hS0 : w1.cell? ⟨X, b, none⟩ = some (.slice (some ⟨q, 0, none⟩) (L b).length cap) ∧ w1.cell? ⟨P1, 0, none⟩ = some (.int .i64 (b : Int)) ∧ w1.cell? ⟨P1, 1, none⟩ = some (.int .i64 (i : Int)) ∧ w1.cell? ⟨P2, 0, none⟩ = some (.int .u64 x.1) ∧ w1.cell? ⟨P2, 1, none⟩ = some (.int .i64 x.2) := ⟨by rw [(wm_cell HH.out hb).1, HV.out], (at_cells2 HP.out).1, (at_cells2 HP.out).2.1, (at_cells2 HQ.out).1, (at_cells2 HQ.out).2.1⟩
  refine wp_region_noPanic ?_
  refine wp_region_held_drew (S := (fun w' => w'.cell? ⟨X, b, none⟩ = some (.slice (some ⟨q, 0, none⟩) (L b).length cap) ∧ w'.cell? ⟨P1, 0, none⟩ = some (.int .i64 (b : Int)) ∧ w'.cell? ⟨P1, 1, none⟩ = some (.int .i64 (i : Int)) ∧ w'.cell? ⟨P2, 0, none⟩ = some (.int .u64 x.1) ∧ w'.cell? ⟨P2, 1, none⟩ = some (.int .i64 x.2))) (by kernel_rfl) (by assumption) (fun hHeld => ?_)
  replace HH := hid (wm_kept HH.out (kept_drew (kept_refl w1)))
  replace HK := hid (kept_drew HK.out)
  replace HP := hid (at_drew HP.out)
  replace HQ := hid (at_drew HQ.out)
  generalize w1.drew = w2 at *
  have HW3 := hid (wm_set HH.out hb hi HV.out x)
  have HT3 := hid (tn_set2 (tn_kept (F := F) HK.out) (.inl HFq.out) (i * 2) (.int .u64 x.1) (.int .i64 x.2))
  have HP3 : Hid (At (set2 w2 q (i * 2) (.int .u64 x.1) (.int .i64 x.2)) P1 #[.int .i64 (b : Int), .int .i64 (i : Int)] 126) := hid (at_other (at_other HP.out HX.out.1 _ _) HX.out.1 _ _)
  have HQ3 : Hid (At (set2 w2 q (i * 2) (.int .u64 x.1) (.int .i64 x.2)) P2 #[.int .u64 x.1, .int .i64 x.2] 123) := hid (at_other (at_other HQ.out HX.out.2 _ _) HX.out.2 _ _)
  have HS3 : Hid ((set2 w2 q (i * 2) (.int .u64 x.1) (.int .i64 x.2)).cell? ⟨X, b, none⟩ = some (.slice (some ⟨q, 0, none⟩) (L b).length cap) ∧ (set2 w2 q (i * 2) (.int .u64 x.1) (.int .i64 x.2)).cell? ⟨P1, 0, none⟩ = some (.int .i64 (b : Int)) ∧ (set2 w2 q (i * 2) (.int .u64 x.1) (.int .i64 x.2)).cell? ⟨P1, 1, none⟩ = some (.int .i64 (i : Int)) ∧ (set2 w2 q (i * 2) (.int .u64 x.1) (.int .i64 x.2)).cell? ⟨P2, 0, none⟩ = some (.int .u64 x.1) ∧ (set2 w2 q (i * 2) (.int .u64 x.1) (.int .i64 x.2)).cell? ⟨P2, 1, none⟩ = some (.int .i64 x.2)) := hid ⟨by rw [(wm_cell HW3.out hb).1, HV.out], (at_cells2 HP3.out).1, (at_cells2 HP3.out).2.1, (at_cells2 HQ3.out).1, (at_cells2 HQ3.out).2.1⟩
  unfold set2 at HS3 HW3 HT3 HP3 HQ3
  obtain ⟨z, hz⟩ : ∃ z, (L b)[i]? = some z := ⟨(L b)[i], List.getElem?_eq_getElem hi⟩
  have hr := HH.out.row b hb
  rw [HV.out] at hr
  obtain ⟨r0, r1, rf⟩ := row_cells hr hz
  clear hr hz
  refine wpAnyH_take (i := 0) (v := .pointer (some ⟨X, 0, none⟩)) rfl (by kernel_rfl) (by kernel_rfl) (by kernel_rfl) (fun _ _ _ h => h) (Or.inl ⟨by rfl, fun w hSw => by (try dsimp only at hSw); go_simp⟩) (by assumption) ?_
  try simp only [List.getElem_toArray, List.getElem_cons_zero, List.getElem_cons_succ, Act.put, List.setIfInBounds_toArray, List.set_cons_zero, List.set_cons_succ]
  refine wpAnyH_take (i := 1) (v := .pointer (some ⟨P1, 0, none⟩)) rfl (by kernel_rfl) (by kernel_rfl) (by kernel_rfl) (fun _ _ _ h => h) (Or.inl ⟨by rfl, fun w hSw => by (try dsimp only at hSw); go_simp⟩) (by assumption) ?_
  try simp only [List.getElem_toArray, List.getElem_cons_zero, List.getElem_cons_succ, Act.put, List.setIfInBounds_toArray, List.set_cons_zero, List.set_cons_succ]
  refine wpAnyH_take (i := 2) (v := .int .i64 (b : Int)) rfl (by kernel_rfl) (by kernel_rfl) (by kernel_rfl) (fun _ _ _ h => h) (Or.inl ⟨by rfl, fun w hSw => by (try dsimp only at hSw); go_simp⟩) (by assumption) ?_
  try simp only [List.getElem_toArray, List.getElem_cons_zero, List.getElem_cons_succ, Act.put, List.setIfInBounds_toArray, List.set_cons_zero, List.set_cons_succ]
  refine wpAnyH_take (i := 3) (v := .pointer (some ⟨X, 0, none⟩)) rfl (by kernel_rfl) (by kernel_rfl) (by kernel_rfl) (fun _ _ _ h => h) (Or.inl ⟨by rfl, fun w hSw => by (try dsimp only at hSw); go_simp⟩) (by assumption) ?_
  try simp only [List.getElem_toArray, List.getElem_cons_zero, List.getElem_cons_succ, Act.put, List.setIfInBounds_toArray, List.set_cons_zero, List.set_cons_succ]
  refine wpAnyH_take (i := 4) (v := .pointer (some ⟨X, 0, none⟩)) rfl (by kernel_rfl) (by kernel_rfl) (by kernel_rfl) (fun _ _ _ h => h) (Or.inl ⟨by rfl, fun w hSw => by (try dsimp only at hSw); go_simp⟩) (by assumption) ?_
  try simp only [List.getElem_toArray, List.getElem_cons_zero, List.getElem_cons_succ, Act.put, List.setIfInBounds_toArray, List.set_cons_zero, List.set_cons_succ]
  refine wpAnyH_take (i := 5) (v := .pointer (some ⟨X, b, none⟩)) rfl (by kernel_rfl) (by kernel_rfl) (by kernel_rfl) (fun _ _ _ h => h) (Or.inl ⟨by rfl, fun w hSw => by (try dsimp only at hSw); go_simp⟩) (by assumption) ?_
  try simp only [List.getElem_toArray, List.getElem_cons_zero, List.getElem_cons_succ, Act.put, List.setIfInBounds_toArray, List.set_cons_zero, List.set_cons_succ]
  refine wpAnyH_take (i := 6) (v := .slice (some ⟨q, 0, none⟩) (L b).length cap) rfl (by kernel_rfl) (by kernel_rfl) (by kernel_rfl) (fun _ _ _ h => h) (Or.inl ⟨by rfl, fun w hSw => by (try dsimp only at hSw); go_simp⟩) (by assumption) ?_
  try simp only [List.getElem_toArray, List.getElem_cons_zero, List.getElem_cons_succ, Act.put, List.setIfInBounds_toArray, List.set_cons_zero, List.set_cons_succ]
  refine wpAnyH_take (i := 7) (v := .pointer (some ⟨P1, 1, none⟩)) rfl (by kernel_rfl) (by kernel_rfl) (by kernel_rfl) (fun _ _ _ h => h) (Or.inl ⟨by rfl, fun w hSw => by (try dsimp only at hSw); go_simp⟩) (by assumption) ?_
  try simp only [List.getElem_toArray, List.getElem_cons_zero, List.getElem_cons_succ, Act.put, List.setIfInBounds_toArray, List.set_cons_zero, List.set_cons_succ]
  refine wpAnyH_take (i := 8) (v := .int .i64 (i : Int)) rfl (by kernel_rfl) (by kernel_rfl) (by kernel_rfl) (fun _ _ _ h => h) (Or.inl ⟨by rfl, fun w hSw => by (try dsimp only at hSw); go_simp⟩) (by assumption) ?_
  try simp only [List.getElem_toArray, List.getElem_cons_zero, List.getElem_cons_succ, Act.put, List.setIfInBounds_toArray, List.set_cons_zero, List.set_cons_succ]
  refine wpAnyH_take (i := 9) (v := .agg #[.int .u64 x.1, .int .i64 x.2]) rfl (by kernel_rfl) (by kernel_rfl) (by kernel_rfl) (fun _ _ _ h => h) (Or.inl ⟨by rfl, fun w hSw => by (try dsimp only at hSw); go_simp⟩) (by assumption) ?_
  try simp only [List.getElem_toArray, List.getElem_cons_zero, List.getElem_cons_succ, Act.put, List.setIfInBounds_toArray, List.set_cons_zero, List.set_cons_succ]
  refine wpAnyH_take (i := 10) (v := .pointer (some ⟨q, i * 2, none⟩)) rfl (by kernel_rfl) (by kernel_rfl) (by kernel_rfl) (fun _ _ _ h => h) (Or.inl ⟨by rfl, fun w hSw => by (try dsimp only at hSw); go_simp⟩) (by assumption) ?_
  try simp only [List.getElem_toArray, List.getElem_cons_zero, List.getElem_cons_succ, Act.put, List.setIfInBounds_toArray, List.set_cons_zero, List.set_cons_succ]
  refine wpAnyH_ready (rs := [11]) (by kernel_rfl) (by simp) ?_
  refine AllReadyH.cons (i := 11) rfl (fun K hK => ?_) AllReadyH.nil
  go_simp
  have hS := HS3.out
  clear hHeld
  show K _ _
  refine hK.out _ _ (by assumption) (fun hHeld => ?_)
  clear hK K
  try simp only [List.getElem_toArray, List.getElem_cons_zero, List.getElem_cons_succ, Act.put, List.setIfInBounds_toArray, List.set_cons_zero, List.set_cons_succ]
  refine wpAnyH_done (by kernel_rfl) ?_ _
  refine NoPanic.normal ?_
  clear r0 r1 rf hS hHeld hS0 HS3
  generalize (w2.setCell ⟨q, i * 2, none⟩ (.int .u64 x.1)).setCell ⟨q, i * 2 + 1, none⟩ (.int .i64 x.2) = w3 at *
  go_wp2_with fail
  have hS1 : w3.cell? ⟨X, 64, none⟩ = some (.map (some m)) ∧ w3.cell? ⟨P1, 0, none⟩ = some (.int .i64 (b : Int)) ∧ w3.cell? ⟨P1, 1, none⟩ = some (.int .i64 (i : Int)) ∧ w3.cell? ⟨P2, 0, none⟩ = some (.int .u64 x.1) ∧ w3.cell? ⟨P2, 1, none⟩ = some (.int .i64 x.2) := ⟨wm_map HW3.out, (at_cells2 HP3.out).1, (at_cells2 HP3.out).2.1, (at_cells2 HQ3.out).1, (at_cells2 HQ3.out).2.1⟩
  refine wp_region_noPanic ?_
  refine wp_region_held_drew (S := (fun w' => w'.cell? ⟨X, 64, none⟩ = some (.map (some m)) ∧ w'.cell? ⟨P1, 0, none⟩ = some (.int .i64 (b : Int)) ∧ w'.cell? ⟨P1, 1, none⟩ = some (.int .i64 (i : Int)) ∧ w'.cell? ⟨P2, 0, none⟩ = some (.int .u64 x.1) ∧ w'.cell? ⟨P2, 1, none⟩ = some (.int .i64 x.2))) (by kernel_rfl) (by assumption) (fun hHeld => ?_)
  replace HW3 := hid (wm_kept HW3.out (kept_drew (kept_refl w3)))
  replace HT3 := hid (tn_trans HT3.out (tn_kept (kept_drew (kept_refl w3))))
  replace HP3 := hid (at_drew HP3.out)
  replace HQ3 := hid (at_drew HQ3.out)
  generalize w3.drew = w4 at *
  obtain ⟨w5, hrun, hw5, ht5⟩ := whr_put HW3.out.map (by omega) hk (b, i)
  have HW5 := hid (wm_turned HW3.out ht5 hw5)
  have HT5 := hid (tn_turned HT3.out HW3.out.fm ht5)
  have HP5 := hid (at_turned HP3.out ht5)
  have HQ5 := hid (at_turned HQ3.out ht5)
  have HS5 : Hid (w5.cell? ⟨X, 64, none⟩ = some (.map (some m)) ∧ w5.cell? ⟨P1, 0, none⟩ = some (.int .i64 (b : Int)) ∧ w5.cell? ⟨P1, 1, none⟩ = some (.int .i64 (i : Int)) ∧ w5.cell? ⟨P2, 0, none⟩ = some (.int .u64 x.1) ∧ w5.cell? ⟨P2, 1, none⟩ = some (.int .i64 x.2)) := hid ⟨wm_map HW5.out, (at_cells2 HP5.out).1, (at_cells2 HP5.out).2.1, (at_cells2 HQ5.out).1, (at_cells2 HQ5.out).2.1⟩
  clear hw5 ht5
  refine wpAnyH_take (i := 0) (v := .pointer (some ⟨X, 0, none⟩)) rfl (by kernel_rfl) (by kernel_rfl) (by kernel_rfl) (fun _ _ _ h => h) (Or.inl ⟨by rfl, fun w hSw => by (try dsimp only at hSw); go_simp⟩) (by assumption) ?_
  try simp only [List.getElem_toArray, List.getElem_cons_zero, List.getElem_cons_succ, Act.put, List.setIfInBounds_toArray, List.set_cons_zero, List.set_cons_succ]
  refine wpAnyH_take (i := 1) (v := .pointer (some ⟨X, 0, none⟩)) rfl (by kernel_rfl) (by kernel_rfl) (by kernel_rfl) (fun _ _ _ h => h) (Or.inl ⟨by rfl, fun w hSw => by (try dsimp only at hSw); go_simp⟩) (by assumption) ?_
  try simp only [List.getElem_toArray, List.getElem_cons_zero, List.getElem_cons_succ, Act.put, List.setIfInBounds_toArray, List.set_cons_zero, List.set_cons_succ]
  refine wpAnyH_take (i := 2) (v := .pointer (some ⟨X, 64, none⟩)) rfl (by kernel_rfl) (by kernel_rfl) (by kernel_rfl) (fun _ _ _ h => h) (Or.inl ⟨by rfl, fun w hSw => by (try dsimp only at hSw); go_simp⟩) (by assumption) ?_
  try simp only [List.getElem_toArray, List.getElem_cons_zero, List.getElem_cons_succ, Act.put, List.setIfInBounds_toArray, List.set_cons_zero, List.set_cons_succ]
  refine wpAnyH_take (i := 3) (v := .map (some m)) rfl (by kernel_rfl) (by kernel_rfl) (by kernel_rfl) (fun _ _ _ h => h) (Or.inl ⟨by rfl, fun w hSw => by (try dsimp only at hSw); go_simp⟩) (by assumption) ?_
  try simp only [List.getElem_toArray, List.getElem_cons_zero, List.getElem_cons_succ, Act.put, List.setIfInBounds_toArray, List.set_cons_zero, List.set_cons_succ]
  refine wpAnyH_take (i := 4) (v := .pointer (some ⟨P2, 1, none⟩)) rfl (by kernel_rfl) (by kernel_rfl) (by kernel_rfl) (fun _ _ _ h => h) (Or.inl ⟨by rfl, fun w hSw => by (try dsimp only at hSw); go_simp⟩) (by assumption) ?_
  try simp only [List.getElem_toArray, List.getElem_cons_zero, List.getElem_cons_succ, Act.put, List.setIfInBounds_toArray, List.set_cons_zero, List.set_cons_succ]
  refine wpAnyH_take (i := 5) (v := .int .i64 x.2) rfl (by kernel_rfl) (by kernel_rfl) (by kernel_rfl) (fun _ _ _ h => h) (Or.inl ⟨by rfl, fun w hSw => by (try dsimp only at hSw); go_simp⟩) (by assumption) ?_
  try simp only [List.getElem_toArray, List.getElem_cons_zero, List.getElem_cons_succ, Act.put, List.setIfInBounds_toArray, List.set_cons_zero, List.set_cons_succ]
  refine wpAnyH_take (i := 6) (v := .agg #[.int .i64 (b : Int), .int .i64 (i : Int)]) rfl (by kernel_rfl) (by kernel_rfl) (by kernel_rfl) (fun _ _ _ h => h) (Or.inl ⟨by rfl, fun w hSw => by (try dsimp only at hSw); go_simp⟩) (by assumption) ?_
  try simp only [List.getElem_toArray, List.getElem_cons_zero, List.getElem_cons_succ, Act.put, List.setIfInBounds_toArray, List.set_cons_zero, List.set_cons_succ]
  refine wpAnyH_ready (rs := [7]) (by kernel_rfl) (by simp) ?_
  refine AllReadyH.cons (i := 7) rfl (fun K hK => ?_) AllReadyH.nil
  go_simp
  have hS := HS5.out
  clear hHeld
  show K _ _
  refine hK.out _ _ (by assumption) (fun hHeld => ?_)
  clear hK K
  try simp only [List.getElem_toArray, List.getElem_cons_zero, List.getElem_cons_succ, Act.put, List.setIfInBounds_toArray, List.set_cons_zero, List.set_cons_succ]
  refine wpAnyH_done (by kernel_rfl) ?_ _
  refine NoPanic.normal ?_
  exact bodyPost_end (v := .tuple #[]) (by kernel_rfl) rfl ⟨rfl, HT5.out, HW5.out⟩
end Go.Proofs.YthgbdaladngpdaaGreat.Whl
