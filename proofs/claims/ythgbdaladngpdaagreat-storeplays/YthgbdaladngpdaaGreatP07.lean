/- The contracts of parent, child and put. A row has at most 1000 items. The contracts of rise, sink and settle: a free place of a heap is filled. A row has at most 1000 items. -/
import Derived.Test.YthgbdaladngpdaaGreatP06
import Derived.Deep.RegionHeld3
/- The contracts of parent, child and put. A row has at most 1000 items. -/
namespace Go.Proofs.YthgbdaladngpdaaGreat.Whl
open Go.ChangeShapes Go.WideShapes Go.ChangeAt Go.RowKit
set_option linter.unusedVariables false
set_option maxRecDepth 100000
set_option linter.unusedSimpArgs false

theorem parent_any (i : Nat) (h0 : 0 < i) (h1 : i ≤ 1000) (w : World) : Calls Tryz.prog 123 #[.int .i64 (i : Int)] w fun e w' => e = .returned (.int .i64 (((i - 1) / 2 : Nat) : Int)) ∧ w' = w := by
  go_enter Tryz.func123, Tryz.ntmps123
  go_wp2_with fail
  go_ret
  exact ⟨says_int (by omega), rfl⟩
set_option maxHeartbeats 1600000 in
theorem child_any (v : Value) (l : List It) (i : Nat) (hi : i < l.length) (hl : l.length ≤ 1000) (w : World) (h : Row w v l) : Calls Tryz.prog 140 #[v, .int .i64 (i : Int)] w fun e w' => e = .returned (.int .i64 ((chd l i : Nat) : Int)) ∧ Kept w w' := by
  obtain ⟨q, cap, rfl, hc, hm⟩ := row_some h (by omega)
  obtain ⟨a, ha⟩ : ∃ a, 2 * i + 1 = a := ⟨_, rfl⟩
  have hai : 2 * (i : Int) + 1 = (a : Int) := by omega
  have haL : a ≤ 2001 := by omega
  by_cases h2 : a + 1 < l.length
  · obtain ⟨x, hx⟩ : ∃ x, l[a]? = some x := ⟨l[a], List.getElem?_eq_getElem (by omega)⟩
    obtain ⟨y, hy⟩ : ∃ y, l[a + 1]? = some y := ⟨l[a + 1], List.getElem?_eq_getElem (by omega)⟩
    obtain ⟨c0, c1, cf⟩ := row_cells h hx
    obtain ⟨d0, d1, df⟩ := row_cells h hy
    have HE : Hid (chd l i = if y.1 < x.1 then a + 1 else a) := hid (by
      unfold chd
      rw [show 2 * i + 2 = a + 1 by omega, ha, du_some hx, du_some hy]
      simp only [h2, true_and])
    generalize chd l i = r at *
    generalize hn : l.length = n at *
    have hwr : IntKind.i64.wrap ((a : Int) + 1) = (a : Int) + 1 := IntWalk.i64_in _ (by omega)
    have hgd : decide ((a : Int) + 1 < (n : Int)) = true := by simp; omega
    clear h hx hy c1 d1 df hn
    by_cases hlt : y.1 < x.1
    · have HE2 : Hid (r = a + 1) := hid (by rw [HE.out, if_pos hlt])
      clear HE
      go_enter Tryz.func140, Tryz.ntmps140
      go_wp2_with fail
      clear hai ha
      go_quiet (fail)
      go_wp2_with fail
      go_ret
      exact ⟨says_int (by rw [HE2.out]; omega), kept_drewN (kept_refl w) _⟩
    · have HE2 : Hid (r = a) := hid (by rw [HE.out, if_neg hlt])
      have hd : decide (y.1 < x.1) = false := by simpa using hlt
      clear HE hlt
      go_enter Tryz.func140, Tryz.ntmps140
      go_wp2_with fail
      clear hai ha
      go_quiet (fail)
      go_wp2_with fail
      go_ret
      exact ⟨says_int (by rw [HE2.out]), kept_drewN (kept_refl w) _⟩
  · have HE : Hid (chd l i = a) := hid (by unfold chd; rw [if_neg (fun g => by omega), ha])
    generalize chd l i = r at *
    generalize hn : l.length = n at *
    have hd : decide ((a : Int) + 1 < (n : Int)) = false := by simp; omega
    clear h hn h2
    go_enter Tryz.func140, Tryz.ntmps140
    go_wp2_with fail
    clear hai ha
    go_quiet (fail)
    go_wp2_with fail
    go_ret
    exact ⟨says_int (by rw [HE.out]), kept_drewN (kept_refl w) _⟩
set_option maxHeartbeats 1600000 in
theorem put_any {F : Nat → Prop} {X m c : Nat} {V : Nat → Value} {L : Nat → List It} {g : Int → Option (Nat × Nat)} (b i : Nat) (x : It) (hb : b < 64) (hi : i < (L b).length) (hl : (L b).length ≤ 1000) (hc : c ≤ 1000) (hk : Wf x.2) (w : World) (h : Wm w F X m V L g c) :
    Calls Tryz.prog 124 #[.pointer (some ⟨X, 0, none⟩), .agg #[.int .i64 (b : Int), .int .i64 (i : Int)], .agg #[.int .u64 x.1, .int .i64 x.2]] w fun e w' => e = .returned (.tuple #[]) ∧ Tn F w w' ∧ Wm w' F X m V (upd L b ((L b).set i x)) (updM g x.2 (b, i)) (c + if g x.2 = none then 1 else 0) := by
  obtain ⟨q, cap, hv, hcap, hmax⟩ := row_some (h.row b hb) (by omega)
  have HH := hid h
  have HV := hid hv
  have HFq : Hid (F q) := hid (h.fV b q hb (by rw [hv]; rfl))
  have hi2 : (i : Int) < ((L b).length : Int) := by omega
  have hb2 : ¬ (64 : Int) ≤ (b : Int) := by omega
  go_enter Tryz.func124, Tryz.ntmps124
  go_wp2_with fail
  have HK := hid (kept_alloc (kept_alloc (kept_refl w) (.cells #[.int .i64 (b : Int), .int .i64 (i : Int)] 126)) (.cells #[.int .u64 x.1, .int .i64 x.2] 123))
  have HP := hid (at_alloc (at_new w #[.int .i64 (b : Int), .int .i64 (i : Int)] 126) (.cells #[.int .u64 x.1, .int .i64 x.2] 123))
  have HQ := hid (at_new (w.alloc (.cells #[.int .i64 (b : Int), .int .i64 (i : Int)] 126)) #[.int .u64 x.1, .int .i64 x.2] 123)
  have e2 : (w.alloc (.cells #[.int .i64 (b : Int), .int .i64 (i : Int)] 126)).heap.size = w.heap.size + 1 := by simp
  rw [e2] at HQ
  have HX : Hid (w.heap.size ≠ q ∧ w.heap.size + 1 ≠ q) := hid (by
    have := (wm_low HH.out).2.2 b q hb (by rw [HV.out]; rfl)
    omega)
  clear e2 h hv
  go_wp2_with fail
  generalize (w.alloc (.cells #[.int .i64 (b : Int), .int .i64 (i : Int)] 126)).alloc (.cells #[.int .u64 x.1, .int .i64 x.2] 123) = w1 at *
  generalize w.heap.size + 1 = P2 at *
  generalize w.heap.size = P1 at *
  replace HH := hid (wm_kept HH.out HK.out)
  have hS0 : w1.cell? ⟨X, b, none⟩ = some (.slice (some ⟨q, 0, none⟩) (L b).length cap) ∧ w1.cell? ⟨P1, 0, none⟩ = some (.int .i64 (b : Int)) ∧ w1.cell? ⟨P1, 1, none⟩ = some (.int .i64 (i : Int)) ∧ w1.cell? ⟨P2, 0, none⟩ = some (.int .u64 x.1) ∧ w1.cell? ⟨P2, 1, none⟩ = some (.int .i64 x.2) := ⟨by rw [(wm_cell HH.out hb).1, HV.out], (at_cells2 HP.out).1, (at_cells2 HP.out).2.1, (at_cells2 HQ.out).1, (at_cells2 HQ.out).2.1⟩
  refine wp_region_noPanic ?_
  refine wp_region_held_drew (S := (fun w' => w'.cell? ⟨X, b, none⟩ = some (.slice (some ⟨q, 0, none⟩) (L b).length cap) ∧ w'.cell? ⟨P1, 0, none⟩ = some (.int .i64 (b : Int)) ∧ w'.cell? ⟨P1, 1, none⟩ = some (.int .i64 (i : Int)) ∧ w'.cell? ⟨P2, 0, none⟩ = some (.int .u64 x.1) ∧ w'.cell? ⟨P2, 1, none⟩ = some (.int .i64 x.2))) (by kernel_rfl) (by assumption) (fun hHeld => ?_)
  replace HH := hid (wm_kept HH.out (kept_drew (kept_refl w1)))
  replace HK := hid (kept_drew HK.out)
  replace HP := hid (at_drew HP.out)
  replace HQ := hid (at_drew HQ.out)
  generalize w1.drew = w2 at *
  have HW3 := hid (wm_set HH.out hb hi HV.out x)
  have HT3 := hid (tn_set2 (tn_kept (F := F) HK.out) (.inl HFq.out) (i * 2) (.int .u64 x.1) (.int .i64 x.2))
  have HP3 : Hid (At (set2 w2 q (i * 2) (.int .u64 x.1) (.int .i64 x.2)) P1 #[.int .i64 (b : Int), .int .i64 (i : Int)] 126) := hid (at_other (at_other HP.out HX.out.1 _ _) HX.out.1 _ _)
  have HQ3 : Hid (At (set2 w2 q (i * 2) (.int .u64 x.1) (.int .i64 x.2)) P2 #[.int .u64 x.1, .int .i64 x.2] 123) := hid (at_other (at_other HQ.out HX.out.2 _ _) HX.out.2 _ _)
  have HS3 : Hid ((set2 w2 q (i * 2) (.int .u64 x.1) (.int .i64 x.2)).cell? ⟨X, b, none⟩ = some (.slice (some ⟨q, 0, none⟩) (L b).length cap) ∧ (set2 w2 q (i * 2) (.int .u64 x.1) (.int .i64 x.2)).cell? ⟨P1, 0, none⟩ = some (.int .i64 (b : Int)) ∧ (set2 w2 q (i * 2) (.int .u64 x.1) (.int .i64 x.2)).cell? ⟨P1, 1, none⟩ = some (.int .i64 (i : Int)) ∧ (set2 w2 q (i * 2) (.int .u64 x.1) (.int .i64 x.2)).cell? ⟨P2, 0, none⟩ = some (.int .u64 x.1) ∧ (set2 w2 q (i * 2) (.int .u64 x.1) (.int .i64 x.2)).cell? ⟨P2, 1, none⟩ = some (.int .i64 x.2)) := hid ⟨by rw [(wm_cell HW3.out hb).1, HV.out], (at_cells2 HP3.out).1, (at_cells2 HP3.out).2.1, (at_cells2 HQ3.out).1, (at_cells2 HQ3.out).2.1⟩
  unfold set2 at HS3 HW3 HT3 HP3 HQ3
  obtain ⟨z, hz⟩ : ∃ z, (L b)[i]? = some z := ⟨(L b)[i], List.getElem?_eq_getElem hi⟩
  have hr := HH.out.row b hb
  rw [HV.out] at hr
  obtain ⟨r0, r1, rf⟩ := row_cells hr hz
  clear hr hz
  refine wpAnyH_take (i := 0) (v := .pointer (some ⟨X, 0, none⟩)) rfl (by kernel_rfl) (by kernel_rfl) (by kernel_rfl) (fun _ _ _ h => h) (Or.inl ⟨by rfl, fun w hSw => by (try dsimp only at hSw); go_simp⟩) (by assumption) ?_
  try simp only [List.getElem_toArray, List.getElem_cons_zero, List.getElem_cons_succ, Act.put, List.setIfInBounds_toArray, List.set_cons_zero, List.set_cons_succ]
  refine wpAnyH_take (i := 1) (v := .pointer (some ⟨P1, 0, none⟩)) rfl (by kernel_rfl) (by kernel_rfl) (by kernel_rfl) (fun _ _ _ h => h) (Or.inl ⟨by rfl, fun w hSw => by (try dsimp only at hSw); go_simp⟩) (by assumption) ?_
  try simp only [List.getElem_toArray, List.getElem_cons_zero, List.getElem_cons_succ, Act.put, List.setIfInBounds_toArray, List.set_cons_zero, List.set_cons_succ]
  refine wpAnyH_take (i := 2) (v := .int .i64 (b : Int)) rfl (by kernel_rfl) (by kernel_rfl) (by kernel_rfl) (fun _ _ _ h => h) (Or.inl ⟨by rfl, fun w hSw => by (try dsimp only at hSw); go_simp⟩) (by assumption) ?_
  try simp only [List.getElem_toArray, List.getElem_cons_zero, List.getElem_cons_succ, Act.put, List.setIfInBounds_toArray, List.set_cons_zero, List.set_cons_succ]
  refine wpAnyH_take (i := 3) (v := .pointer (some ⟨X, 0, none⟩)) rfl (by kernel_rfl) (by kernel_rfl) (by kernel_rfl) (fun _ _ _ h => h) (Or.inl ⟨by rfl, fun w hSw => by (try dsimp only at hSw); go_simp⟩) (by assumption) ?_
  try simp only [List.getElem_toArray, List.getElem_cons_zero, List.getElem_cons_succ, Act.put, List.setIfInBounds_toArray, List.set_cons_zero, List.set_cons_succ]
  refine wpAnyH_take (i := 4) (v := .pointer (some ⟨X, 0, none⟩)) rfl (by kernel_rfl) (by kernel_rfl) (by kernel_rfl) (fun _ _ _ h => h) (Or.inl ⟨by rfl, fun w hSw => by (try dsimp only at hSw); go_simp⟩) (by assumption) ?_
  try simp only [List.getElem_toArray, List.getElem_cons_zero, List.getElem_cons_succ, Act.put, List.setIfInBounds_toArray, List.set_cons_zero, List.set_cons_succ]
  refine wpAnyH_take (i := 5) (v := .pointer (some ⟨X, b, none⟩)) rfl (by kernel_rfl) (by kernel_rfl) (by kernel_rfl) (fun _ _ _ h => h) (Or.inl ⟨by rfl, fun w hSw => by (try dsimp only at hSw); go_simp⟩) (by assumption) ?_
  try simp only [List.getElem_toArray, List.getElem_cons_zero, List.getElem_cons_succ, Act.put, List.setIfInBounds_toArray, List.set_cons_zero, List.set_cons_succ]
  refine wpAnyH_take (i := 6) (v := .slice (some ⟨q, 0, none⟩) (L b).length cap) rfl (by kernel_rfl) (by kernel_rfl) (by kernel_rfl) (fun _ _ _ h => h) (Or.inl ⟨by rfl, fun w hSw => by (try dsimp only at hSw); go_simp⟩) (by assumption) ?_
  try simp only [List.getElem_toArray, List.getElem_cons_zero, List.getElem_cons_succ, Act.put, List.setIfInBounds_toArray, List.set_cons_zero, List.set_cons_succ]
  refine wpAnyH_take (i := 7) (v := .pointer (some ⟨P1, 1, none⟩)) rfl (by kernel_rfl) (by kernel_rfl) (by kernel_rfl) (fun _ _ _ h => h) (Or.inl ⟨by rfl, fun w hSw => by (try dsimp only at hSw); go_simp⟩) (by assumption) ?_
  try simp only [List.getElem_toArray, List.getElem_cons_zero, List.getElem_cons_succ, Act.put, List.setIfInBounds_toArray, List.set_cons_zero, List.set_cons_succ]
  refine wpAnyH_take (i := 8) (v := .int .i64 (i : Int)) rfl (by kernel_rfl) (by kernel_rfl) (by kernel_rfl) (fun _ _ _ h => h) (Or.inl ⟨by rfl, fun w hSw => by (try dsimp only at hSw); go_simp⟩) (by assumption) ?_
  try simp only [List.getElem_toArray, List.getElem_cons_zero, List.getElem_cons_succ, Act.put, List.setIfInBounds_toArray, List.set_cons_zero, List.set_cons_succ]
  refine wpAnyH_take (i := 9) (v := .agg #[.int .u64 x.1, .int .i64 x.2]) rfl (by kernel_rfl) (by kernel_rfl) (by kernel_rfl) (fun _ _ _ h => h) (Or.inl ⟨by rfl, fun w hSw => by (try dsimp only at hSw); go_simp⟩) (by assumption) ?_
  try simp only [List.getElem_toArray, List.getElem_cons_zero, List.getElem_cons_succ, Act.put, List.setIfInBounds_toArray, List.set_cons_zero, List.set_cons_succ]
  refine wpAnyH_take (i := 10) (v := .pointer (some ⟨q, i * 2, none⟩)) rfl (by kernel_rfl) (by kernel_rfl) (by kernel_rfl) (fun _ _ _ h => h) (Or.inl ⟨by rfl, fun w hSw => by (try dsimp only at hSw); go_simp⟩) (by assumption) ?_
  try simp only [List.getElem_toArray, List.getElem_cons_zero, List.getElem_cons_succ, Act.put, List.setIfInBounds_toArray, List.set_cons_zero, List.set_cons_succ]
  refine wpAnyH_ready (rs := [11]) (by kernel_rfl) (by simp) ?_
  refine AllReadyH.cons (i := 11) rfl (fun K hK => ?_) AllReadyH.nil
  go_simp
  have hS := HS3.out
  clear hHeld
  show K _ _
  refine hK.out _ _ (by assumption) (fun hHeld => ?_)
  clear hK K
  try simp only [List.getElem_toArray, List.getElem_cons_zero, List.getElem_cons_succ, Act.put, List.setIfInBounds_toArray, List.set_cons_zero, List.set_cons_succ]
  refine wpAnyH_done (by kernel_rfl) ?_ _
  refine NoPanic.normal ?_
  clear r0 r1 rf hS hHeld hS0 HS3
  generalize (w2.setCell ⟨q, i * 2, none⟩ (.int .u64 x.1)).setCell ⟨q, i * 2 + 1, none⟩ (.int .i64 x.2) = w3 at *
  go_wp2_with fail
  have hS1 : w3.cell? ⟨X, 64, none⟩ = some (.map (some m)) ∧ w3.cell? ⟨P1, 0, none⟩ = some (.int .i64 (b : Int)) ∧ w3.cell? ⟨P1, 1, none⟩ = some (.int .i64 (i : Int)) ∧ w3.cell? ⟨P2, 0, none⟩ = some (.int .u64 x.1) ∧ w3.cell? ⟨P2, 1, none⟩ = some (.int .i64 x.2) := ⟨wm_map HW3.out, (at_cells2 HP3.out).1, (at_cells2 HP3.out).2.1, (at_cells2 HQ3.out).1, (at_cells2 HQ3.out).2.1⟩
  refine wp_region_noPanic ?_
  refine wp_region_held_drew (S := (fun w' => w'.cell? ⟨X, 64, none⟩ = some (.map (some m)) ∧ w'.cell? ⟨P1, 0, none⟩ = some (.int .i64 (b : Int)) ∧ w'.cell? ⟨P1, 1, none⟩ = some (.int .i64 (i : Int)) ∧ w'.cell? ⟨P2, 0, none⟩ = some (.int .u64 x.1) ∧ w'.cell? ⟨P2, 1, none⟩ = some (.int .i64 x.2))) (by kernel_rfl) (by assumption) (fun hHeld => ?_)
  replace HW3 := hid (wm_kept HW3.out (kept_drew (kept_refl w3)))
  replace HT3 := hid (tn_trans HT3.out (tn_kept (kept_drew (kept_refl w3))))
  replace HP3 := hid (at_drew HP3.out)
  replace HQ3 := hid (at_drew HQ3.out)
  generalize w3.drew = w4 at *
  obtain ⟨w5, hrun, hw5, ht5⟩ := whr_put HW3.out.map (by omega) hk (b, i)
  have HW5 := hid (wm_turned HW3.out ht5 hw5)
  have HT5 := hid (tn_turned HT3.out HW3.out.fm ht5)
  have HP5 := hid (at_turned HP3.out ht5)
  have HQ5 := hid (at_turned HQ3.out ht5)
  have HS5 : Hid (w5.cell? ⟨X, 64, none⟩ = some (.map (some m)) ∧ w5.cell? ⟨P1, 0, none⟩ = some (.int .i64 (b : Int)) ∧ w5.cell? ⟨P1, 1, none⟩ = some (.int .i64 (i : Int)) ∧ w5.cell? ⟨P2, 0, none⟩ = some (.int .u64 x.1) ∧ w5.cell? ⟨P2, 1, none⟩ = some (.int .i64 x.2)) := hid ⟨wm_map HW5.out, (at_cells2 HP5.out).1, (at_cells2 HP5.out).2.1, (at_cells2 HQ5.out).1, (at_cells2 HQ5.out).2.1⟩
  clear hw5 ht5
  refine wpAnyH_take (i := 0) (v := .pointer (some ⟨X, 0, none⟩)) rfl (by kernel_rfl) (by kernel_rfl) (by kernel_rfl) (fun _ _ _ h => h) (Or.inl ⟨by rfl, fun w hSw => by (try dsimp only at hSw); go_simp⟩) (by assumption) ?_
  try simp only [List.getElem_toArray, List.getElem_cons_zero, List.getElem_cons_succ, Act.put, List.setIfInBounds_toArray, List.set_cons_zero, List.set_cons_succ]
  refine wpAnyH_take (i := 1) (v := .pointer (some ⟨X, 0, none⟩)) rfl (by kernel_rfl) (by kernel_rfl) (by kernel_rfl) (fun _ _ _ h => h) (Or.inl ⟨by rfl, fun w hSw => by (try dsimp only at hSw); go_simp⟩) (by assumption) ?_
  try simp only [List.getElem_toArray, List.getElem_cons_zero, List.getElem_cons_succ, Act.put, List.setIfInBounds_toArray, List.set_cons_zero, List.set_cons_succ]
  refine wpAnyH_take (i := 2) (v := .pointer (some ⟨X, 64, none⟩)) rfl (by kernel_rfl) (by kernel_rfl) (by kernel_rfl) (fun _ _ _ h => h) (Or.inl ⟨by rfl, fun w hSw => by (try dsimp only at hSw); go_simp⟩) (by assumption) ?_
  try simp only [List.getElem_toArray, List.getElem_cons_zero, List.getElem_cons_succ, Act.put, List.setIfInBounds_toArray, List.set_cons_zero, List.set_cons_succ]
  refine wpAnyH_take (i := 3) (v := .map (some m)) rfl (by kernel_rfl) (by kernel_rfl) (by kernel_rfl) (fun _ _ _ h => h) (Or.inl ⟨by rfl, fun w hSw => by (try dsimp only at hSw); go_simp⟩) (by assumption) ?_
  try simp only [List.getElem_toArray, List.getElem_cons_zero, List.getElem_cons_succ, Act.put, List.setIfInBounds_toArray, List.set_cons_zero, List.set_cons_succ]
  refine wpAnyH_take (i := 4) (v := .pointer (some ⟨P2, 1, none⟩)) rfl (by kernel_rfl) (by kernel_rfl) (by kernel_rfl) (fun _ _ _ h => h) (Or.inl ⟨by rfl, fun w hSw => by (try dsimp only at hSw); go_simp⟩) (by assumption) ?_
  try simp only [List.getElem_toArray, List.getElem_cons_zero, List.getElem_cons_succ, Act.put, List.setIfInBounds_toArray, List.set_cons_zero, List.set_cons_succ]
  refine wpAnyH_take (i := 5) (v := .int .i64 x.2) rfl (by kernel_rfl) (by kernel_rfl) (by kernel_rfl) (fun _ _ _ h => h) (Or.inl ⟨by rfl, fun w hSw => by (try dsimp only at hSw); go_simp⟩) (by assumption) ?_
  try simp only [List.getElem_toArray, List.getElem_cons_zero, List.getElem_cons_succ, Act.put, List.setIfInBounds_toArray, List.set_cons_zero, List.set_cons_succ]
  refine wpAnyH_take (i := 6) (v := .agg #[.int .i64 (b : Int), .int .i64 (i : Int)]) rfl (by kernel_rfl) (by kernel_rfl) (by kernel_rfl) (fun _ _ _ h => h) (Or.inl ⟨by rfl, fun w hSw => by (try dsimp only at hSw); go_simp⟩) (by assumption) ?_
  try simp only [List.getElem_toArray, List.getElem_cons_zero, List.getElem_cons_succ, Act.put, List.setIfInBounds_toArray, List.set_cons_zero, List.set_cons_succ]
  refine wpAnyH_ready (rs := [7]) (by kernel_rfl) (by simp) ?_
  refine AllReadyH.cons (i := 7) rfl (fun K hK => ?_) AllReadyH.nil
  go_simp
  have hS := HS5.out
  clear hHeld
  show K _ _
  refine hK.out _ _ (by assumption) (fun hHeld => ?_)
  clear hK K
  try simp only [List.getElem_toArray, List.getElem_cons_zero, List.getElem_cons_succ, Act.put, List.setIfInBounds_toArray, List.set_cons_zero, List.set_cons_succ]
  refine wpAnyH_done (by kernel_rfl) ?_ _
  refine NoPanic.normal ?_
  exact bodyPost_end (v := .tuple #[]) (by kernel_rfl) rfl ⟨rfl, HT5.out, HW5.out⟩
end Go.Proofs.YthgbdaladngpdaaGreat.Whl

/- The contracts of rise, sink and settle: a free place of a heap is filled. A row has at most 1000 items. -/
namespace Go.Proofs.YthgbdaladngpdaaGreat.Whl
open Go.ChangeShapes Go.WideShapes Go.ChangeAt Go.RowKit
set_option linter.unusedVariables false
set_option maxRecDepth 100000
set_option linter.unusedSimpArgs false

structure Mv (ok : List It → Nat → Prop) (R : Nat → List It) (b : Nat) (x : It) (l0 : List It) (g : Int → Option (Nat × Nat)) (lr : List It) (g' : Int → Option (Nat × Nat)) (i : Nat) : Prop where
  len : lr.length = l0.length
  lt : i < lr.length
  sync : Sync (upd R b (lr.set i x)) g' x b i
  ok : ok (lr.set i x) i
  perm : (lr.set i x).Perm l0
  gx : g' x.2 = g x.2
section
variable {ok : List It → Nat → Prop} {R : Nat → List It} {b i p : Nat} {x y : It} {l0 lr : List It} {g g' : Int → Option (Nat × Nat)}
theorem mv_get (h : Mv ok R b x l0 g lr g' i) : (lr.set i x)[i]? = some x := by rw [List.getElem?_set, if_pos rfl, if_pos h.lt]
theorem mv_other (h : Mv ok R b x l0 g lr g' i) (hn : p ≠ i) : (lr.set i x)[p]? = lr[p]? := by rw [List.getElem?_set, if_neg (Ne.symm hn)]
theorem mv_sw (lr : List It) (i p : Nat) (x y : It) : sw (lr.set i x) i p y x = (lr.set i y).set p x := by unfold sw; rw [List.set_set]
theorem mv_next (h : Mv ok R b x l0 g lr g' i) (hn : p ≠ i) (ey : lr[p]? = some y) (ho : ok (sw (lr.set i x) i p y x) p) : Mv ok R b x l0 g (lr.set i y) (updM g' y.2 (b, i)) p ∧ g' y.2 ≠ none := by
  have hv : (lr.set i x)[p]? = some y := by rw [mv_other h hn]; exact ey
  have hs := h.sync
  have hy := hs.to b p y hs.lt (by rw [upd_at]; exact hv) (fun e => hn e.2)
  have h1 := sync_swap hs (p := p) (y := y) (Ne.symm hn) (by rw [upd_at]; exact hv)
  rw [upd_at, upd_upd, mv_sw] at h1
  have h2 := sw_perm (l := lr.set i x) (i := i) (p := p) (x := x) (y := y) (Ne.symm hn) (mv_get h) hv
  rw [mv_sw] at h2 ho
  refine ⟨⟨by rw [List.length_set]; exact h.len, by rw [List.length_set]; exact lt_of_some ey, h1, ho, h2.trans h.perm, ?_⟩, by rw [hy.1]; simp⟩
  rw [updM_ne _ _ (Ne.symm hy.2)]
  exact h.gx
theorem mv_full (h : Mv ok R b x l0 g lr g' i) : Full (upd R b (lr.set i x)) (updM g' x.2 (b, i)) := sync_fill h.sync
end
def atN (w : World) (P : Nat) : Nat := match w.cell? ⟨P, 1, none⟩ with
  | some v => (intOf v).toNat
  | none => 0
theorem atN_at {w : World} {P T : Nat} {a : Value} {n : Nat} (h : At w P #[a, .int .i64 (n : Int)] T) : atN w P = n := by
  unfold atN
  rw [(at_cells2 h).2.1]
  simp [intOf]
/- What they leave. -/
def SetC (F : Nat → Prop) (X m : Nat) (V : Nat → Value) (R : Nat → List It) (b : Nat) (l0 : List It) (c : Nat) (w : World) (e : Ending) (w' : World) : Prop :=
  e = .returned (.tuple #[]) ∧ Tn F w w' ∧ ∃ l' g', Wm w' F X m V (upd R b l') g' c ∧ Full (upd R b l') g' ∧ Heap l' ∧ l'.Perm l0
set_option maxHeartbeats 3200000 in
theorem rise_any {F : Nat → Prop} {X m c : Nat} {V : Nat → Value} {R : Nat → List It} {g : Int → Option (Nat × Nat)} (b i : Nat) (x : It) (l0 : List It) (hl : l0.length ≤ 1000) (hc : c ≤ 1000) (hx : Wf x.2) (hw : ∀ y ∈ l0, Wf y.2) (w : World) (h : Wm w F X m V R g c) (hm : Mv UpOk R b x l0 g (R b) g i) (c2 : Nat) (hc2 : (c + if g x.2 = none then 1 else 0) = c2) :
    Calls Tryz.prog 104 #[.pointer (some ⟨X, 0, none⟩), .agg #[.int .i64 (b : Int), .int .i64 (i : Int)], .agg #[.int .u64 x.1, .int .i64 x.2]] w (SetC F X m V R b l0 c2 w) := by
  have HF : Hid (∀ k, w.heap.size ≤ k → ¬ F k) := hid (fun k hk hf => by have := h.low k hf; omega)
  have hb := hm.sync.lt
  have hb2 : ¬ (64 : Int) ≤ (b : Int) := by omega
  obtain ⟨q, cap, hv, hcap, hmax⟩ := row_some (h.row b hb) (by have := hm.lt; omega)
  rw [hm.len] at hv hcap
  have HH := hid h
  have HM := hid hm
  have HV := hid hv
  have HWf := hid hw
  have hn : l0.length ≤ 1000 := hl
  have HLn : Hid (∀ (i : Nat) (lr : List It) (g' : Int → Option (Nat × Nat)), Mv UpOk R b x l0 g lr g' i → (upd R b lr b).length ≤ 1000 ∧ i < (upd R b lr b).length) := hid (fun i lr g' h => by rw [upd_at, h.len]; exact ⟨hl, by have := h.lt; have := h.len; omega⟩)
  have HEnd : Hid (∀ (u : World) (i : Nat) (lr : List It) (g' : Int → Option (Nat × Nat)), Mv UpOk R b x l0 g lr g' i → Heap (lr.set i x) → Tn F w u → Wm u F X m V (upd (upd R b lr) b ((upd R b lr b).set i x)) (updM g' x.2 (b, i)) (c + if g' x.2 = none then 1 else 0) → SetC F X m V R b l0 c2 w (.returned (.tuple #[])) u) := hid (fun u i lr g' h1 h2 h3 h4 => by
    rw [upd_upd, upd_at, h1.gx, hc2] at h4
    exact ⟨rfl, h3, _, _, h4, mv_full h1, h2, h1.perm⟩)
  have HNx : Hid (∀ (i p : Nat) (y : It) (lr : List It) (g' : Int → Option (Nat × Nat)), Mv UpOk R b x l0 g lr g' i → 0 < i → (i - 1) / 2 = p → lr[p]? = some y → (x.1 < y.1 → Mv UpOk R b x l0 g (lr.set i y) (updM g' y.2 (b, i)) p ∧ g' y.2 ≠ none) ∧ (¬ x.1 < y.1 → Heap (lr.set i x))) := hid (fun i p y lr g' h1 h2 h3 h4 => by
    have hpi : p ≠ i := by omega
    have hy : (lr.set i x)[p]? = some y := by rw [mv_other h1 hpi]; exact h4
    refine ⟨fun h5 => mv_next h1 hpi h4 ?_, fun h5 => ?_⟩
    · have := up_step h1.ok h2 (mv_get h1) (by rw [h3]; exact hy) h5
      rw [h3] at this
      exact this
    · refine up_end h1.ok (.inr ?_)
      rw [h3, du_some hy, du_some (mv_get h1)]
      omega)
  have HZero : Hid (∀ (lr : List It) (g' : Int → Option (Nat × Nat)) (i : Nat), Mv UpOk R b x l0 g lr g' i → i = 0 → Heap (lr.set i x)) := hid (fun lr g' i h1 h2 => up_end h1.ok (.inl h2))
  have HWy : Hid (∀ (i p : Nat) (y : It) (lr : List It) (g' : Int → Option (Nat × Nat)), Mv UpOk R b x l0 g lr g' i → p ≠ i → lr[p]? = some y → Wf y.2) := hid (fun i p y lr g' h1 h2 h3 => hw y (h1.perm.mem_iff.1 (List.mem_of_getElem? (by rw [mv_other h1 h2]; exact h3))))
  have HCell : Hid (∀ (u : World) (i : Nat) (lr : List It) (g' : Int → Option (Nat × Nat)) (p : Nat) (y : It), Mv UpOk R b x l0 g lr g' i → Wm u F X m V (upd R b lr) g' c → lr[p]? = some y → u.cell? ⟨q, p * 2, none⟩ = some (.int .u64 y.1) ∧ u.cell? ⟨q, p * 2 + 1, none⟩ = some (.int .i64 y.2)) := hid (fun u i lr g' p y h1 h2 h3 => by
    have hr := h2.row b hb
    rw [upd_at, hv] at hr
    obtain ⟨r0, r1, _⟩ := row_cells hr h3
    exact ⟨r0, r1⟩)
  have HRow : Hid (∀ (P1 : Nat) (u : World) (lr : List It) (p : Nat) (y : It) (i : Nat) (g4 : Int → Option (Nat × Nat)) (c4 : Nat), At u P1 #[.int .i64 (b : Int), .int .i64 (i : Int)] 126 → Wm u F X m V (upd (upd R b lr) b ((upd R b lr b).set i y)) g4 c4 → p ≠ i → lr[p]? = some y → u.cell? ⟨P1, 0, none⟩ = some (.int .i64 (b : Int)) ∧ u.cell? ⟨P1, 1, none⟩ = some (.int .i64 (i : Int)) ∧ u.cell? ⟨q, p * 2, none⟩ = some (.int .u64 y.1) ∧ u.cell? ⟨q, p * 2 + 1, none⟩ = some (.int .i64 y.2)) := hid (fun P1 u lr p y i g4 c4 h1 h2 hn h3 => by
    have hr := h2.row b hb
    rw [upd_upd, upd_at, upd_at, hv] at hr
    obtain ⟨r0, r1, _⟩ := row_cells hr (i := p) (x := y) (by rw [List.getElem?_set, if_neg (Ne.symm hn)]; exact h3)
    exact ⟨(at_cells2 h1).1, (at_cells2 h1).2.1, r0, r1⟩)
  clear h hm hv hw hc2
  go_enter Tryz.func104, Tryz.ntmps104
  go_wp2_with fail
  have HK := hid (kept_alloc (kept_alloc (kept_refl w) (.cells #[.int .i64 (b : Int), .int .i64 (i : Int)] 126)) (.cells #[.int .u64 x.1, .int .i64 x.2] 123))
  have HP := hid (at_alloc (at_new w #[.int .i64 (b : Int), .int .i64 (i : Int)] 126) (.cells #[.int .u64 x.1, .int .i64 x.2] 123))
  have HQ := hid (at_new (w.alloc (.cells #[.int .i64 (b : Int), .int .i64 (i : Int)] 126)) #[.int .u64 x.1, .int .i64 x.2] 123)
  have e2 : (w.alloc (.cells #[.int .i64 (b : Int), .int .i64 (i : Int)] 126)).heap.size = w.heap.size + 1 := by simp
  rw [e2] at HQ
  have HF1 : Hid (¬ F w.heap.size) := hid (HF.out _ (Nat.le_refl _))
  have HF2 : Hid (¬ F (w.heap.size + 1)) := hid (HF.out _ (by omega))
  clear e2
  go_wp2_with fail
  generalize (w.alloc (.cells #[.int .i64 (b : Int), .int .i64 (i : Int)] 126)).alloc (.cells #[.int .u64 x.1, .int .i64 x.2] 123) = w1 at *
  have HP12 : Hid (w.heap.size + 1 ≠ w.heap.size) := hid (by omega)
  have HPl : Hid (w.heap.size ≤ w.heap.size) := hid (Nat.le_refl _)
  generalize w.heap.size + 1 = P2 at *
  generalize hP1 : w.heap.size = P1 at HF1 HP HQ HP12 HF ⊢
  rw [hP1] at HPl
  have HPl2 : Hid (w.heap.size ≤ P1) := hid (by omega)
  have HW1 := hid (wm_kept HH.out HK.out)
  have hS0 : w1.cell? ⟨X, b, none⟩ = some (.slice (some ⟨q, 0, none⟩) l0.length cap) := by rw [(wm_cell HW1.out hb).1, HV.out]
  obtain ⟨p0, p1, pf⟩ := at_cells2 HP.out
  go_quiet (fail)
  clear hS0 p0 p1 pf
  replace HW1 := hid (wm_kept HW1.out (kept_drewN (kept_refl w1) nq))
  replace HP := hid (at_kept HP.out (kept_drewN (kept_refl w1) nq))
  replace HQ := hid (at_kept HQ.out (kept_drewN (kept_refl w1) nq))
  have HT := hid (tn_kept (F := F) (kept_drewN HK.out nq))
  generalize w1.drewN nq = w2 at *
  have HW2 : Hid (Wm w2 F X m V (upd R b (R b)) g c) := hid (by rw [upd_id]; exact HW1.out)
  clear HW1 HH HK
  generalize hN : l0.length = n at *
  have HN := hid hN
  clear hN
  go_wp2_with fail
  go_loopw [7] (fun a wr => ∃ (i : Nat) (lr : List It) (g' : Int → Option (Nat × Nat)), Hid (Mv UpOk R b x l0 g lr g' i) ∧ Hid (Wm wr F X m V (upd R b lr) g' c) ∧ Hid (At wr P1 #[.int .i64 (b : Int), .int .i64 (i : Int)] 126) ∧ Hid (At wr P2 #[.int .u64 x.1, .int .i64 x.2] 123) ∧ Hid (Tn F w wr)) (fun _ wr => atN wr P1)
  case atStart => exact ⟨i, R b, g, HM, HW2, HP, HQ, HT⟩
  case round =>
    clear HM HW2 HP HQ HT
    obtain ⟨i, lr, g', HM, HW, HP, HQ, HT⟩ := hrel
    have hi := HM.out.lt
    rw [HM.out.len, HN.out] at hi
    obtain ⟨p0, p1, pf⟩ := at_cells2 HP.out
    obtain ⟨x0, x1, xf⟩ := at_cells2 HQ.out
    have HLx := hid (HLn.out _ _ _ HM.out)
    by_cases h0 : 0 < i
    · obtain ⟨p, hp⟩ : ∃ p, (i - 1) / 2 = p := ⟨_, rfl⟩
      have hpi : p < i := by omega
      obtain ⟨y, hy⟩ : ∃ y, lr[p]? = some y := ⟨lr[p]'(by have := HM.out.lt; omega), List.getElem?_eq_getElem _⟩
      obtain ⟨y0, y1⟩ := HCell.out _ _ _ _ _ _ HM.out HW.out hy
      have hpar := fun W => parent_any i h0 (by omega) W
      rw [hp] at hpar
      have hpn : (p : Int) < (n : Int) := by omega
      have HN2 := hid (HNx.out i p y lr g' HM.out h0 hp hy)
      have HYf := hid (HWy.out _ _ _ _ _ HM.out (by omega) hy)
      have HYe := hid hy
      by_cases hlt : x.1 < y.1
      · go_wp2_with fail
        go_quiet ((go_at_call 123; exact Calls.quiet_of_same (hpar _)))
        have HMx := hid (HN2.out.1 hlt)
        clear p0 p1 pf x0 x1 xf y0 y1 hlt
        have k3 := kept_drewN (kept_refl wr) nq
        have HMe := hid (atN_at HP.out)
        replace HW := hid (wm_kept HW.out k3)
        replace HP := hid (at_kept HP.out k3)
        replace HQ := hid (at_kept HQ.out k3)
        replace HT := hid (tn_trans HT.out (tn_kept k3))
        clear k3
        obtain ⟨p0, p1, pf⟩ := at_cells2 HP.out
        generalize wr.drewN nq = w3 at *
        go_wp2_with fail
        refine (hpar _).mono ?_
        rintro e w3 ⟨rfl, rfl⟩
        clear hpar
        go_wp2_with fail
        obtain ⟨y0, y1⟩ := HCell.out _ _ _ _ _ _ HM.out HW.out HYe.out
        have hS0 := And.intro p0 (And.intro p1 (And.intro y0 y1))
        clear p0 p1 y0 y1
        refine wp_region_noPanic ?_
        refine wp_region_held_drew (S := (fun w' => w'.cell? ⟨P1, 0, none⟩ = some (.int .i64 (b : Int)) ∧ w'.cell? ⟨P1, 1, none⟩ = some (.int .i64 (i : Int)) ∧ w'.cell? ⟨q, p * 2, none⟩ = some (.int .u64 y.1) ∧ w'.cell? ⟨q, p * 2 + 1, none⟩ = some (.int .i64 y.2))) (by kernel_rfl) (by assumption) (fun hHeld => ?_)
        replace HW := hid (wm_kept HW.out (kept_drew (kept_refl w3)))
        replace HT := hid (tn_trans HT.out (tn_kept (kept_drew (kept_refl w3))))
        replace HP := hid (at_drew HP.out)
        replace HQ := hid (at_drew HQ.out)
        generalize w3.drew = w4 at *
        refine wpAnyH_take (i := 0) (v := .pointer (some ⟨X, 0, none⟩)) rfl (by kernel_rfl) (by kernel_rfl) (by kernel_rfl) (fun _ _ _ h => h) (Or.inl ⟨by rfl, fun w hSw => by (try dsimp only at hSw); go_simp⟩) (by assumption) ?_
        refine wpAnyH_take (i := 1) (v := .agg #[.int .i64 (b : Int), .int .i64 (i : Int)]) rfl (by kernel_rfl) (by kernel_rfl) (by kernel_rfl) (fun _ _ _ h => h) (Or.inl ⟨by rfl, fun w hSw => by (try dsimp only at hSw); go_simp⟩) (by assumption) ?_
        refine wpAnyH_take (i := 2) (v := .slice (some ⟨q, 0, none⟩) n cap) rfl (by kernel_rfl) (by kernel_rfl) (by kernel_rfl) (fun _ _ _ h => h) (Or.inl ⟨by rfl, fun w hSw => by (try dsimp only at hSw); go_simp⟩) (by assumption) ?_
        refine wpAnyH_take (i := 3) (v := .int .i64 (p : Int)) rfl (by kernel_rfl) (by kernel_rfl) (by kernel_rfl) (fun _ _ _ h => h) (Or.inl ⟨by rfl, fun w hSw => by (try dsimp only at hSw); go_simp⟩) (by assumption) ?_
        refine wpAnyH_take (i := 4) (v := .pointer (some ⟨q, p * 2, none⟩)) rfl (by kernel_rfl) (by kernel_rfl) (by kernel_rfl) (fun _ _ _ h => h) (Or.inl ⟨by rfl, fun w hSw => by (try dsimp only at hSw); go_simp⟩) (by assumption) ?_
        refine wpAnyH_take (i := 5) (v := .agg #[.int .u64 y.1, .int .i64 y.2]) rfl (by kernel_rfl) (by kernel_rfl) (by kernel_rfl) (fun _ _ _ h => h) (Or.inl ⟨by rfl, fun w hSw => by (try dsimp only at hSw); go_simp⟩) (by assumption) ?_
        try simp only [List.getElem_toArray, List.getElem_cons_zero, List.getElem_cons_succ, Act.put, List.setIfInBounds_toArray, List.set_cons_zero, List.set_cons_succ]
        refine wpAnyH_ready (rs := [6]) (by kernel_rfl) (by simp) ?_
        refine AllReadyH.cons (i := 6) rfl (fun K hK => ?_) AllReadyH.nil
        go_simp
        refine (put_any b i y hb HLx.out.2 HLx.out.1 hc HYf.out _ HW.out).mono ?_
        rintro e1 w5 ⟨rfl, t5, h5⟩
        have HT5 := hid (tn_trans HT.out t5)
        have HP5 := hid (at_tn HP.out t5 HF1.out)
        have HQ5 := hid (at_tn HQ.out t5 HF2.out)
        have hS := HRow.out _ w5 lr p y i _ _ HP5.out h5 (by omega) HYe.out
        rw [if_neg HMx.out.2, upd_upd, upd_at] at h5
        have HW5 := hid h5
        clear t5 h5
        clear hHeld
        show K _ _
        refine hK.out _ _ (by assumption) (fun hHeld => ?_)
        clear hK K
        try simp only [List.getElem_toArray, List.getElem_cons_zero, List.getElem_cons_succ, Act.put, List.setIfInBounds_toArray, List.set_cons_zero, List.set_cons_succ]
        refine wpAnyH_done (by kernel_rfl) ?_ _
        refine NoPanic.normal ?_
        clear hS hS0 hHeld
        obtain ⟨p0, p1, pf⟩ := at_cells2 HP5.out
        have HP6 := hid (at_set HP5.out 1 (.int .i64 (p : Int)))
        have HW6 := hid (wm_setP HW5.out HF1.out 1 (.int .i64 (p : Int)))
        have HQ6 := hid (at_other HQ5.out HP12.out 1 (.int .i64 (p : Int)))
        have HT6 := hid (tn_set HT5.out (.inr HPl2.out) 1 (.int .i64 (p : Int)))
        clear HP5 HW5 HQ5 HT5
        go_wp2_with fail
        go_roundw
        case rel => exact ⟨p, lr.set i y, _, hid HMx.out.1, HW6, HP6, HQ6, HT6⟩
        case measure =>
          have e1 : atN _ P1 = p := atN_at HP6.out
          rw [HMe.out]
          exact Nat.lt_of_le_of_lt (Nat.le_of_eq e1) hpi
      · have hd : decide (x.1 < y.1) = false := by simpa using hlt
        have HE := hid (HN2.out.2 (by omega))
        clear hlt
        go_wp2_with fail
        go_quiet ((go_at_call 123; exact Calls.quiet_of_same (hpar _)))
        clear p0 p1 pf x0 x1 xf y0 y1 hpar
        have k3 := kept_drewN (kept_refl wr) nq
        replace HW := hid (wm_kept HW.out k3)
        obtain ⟨p0, p1, pf⟩ := at_cells2 (at_kept HP.out k3)
        obtain ⟨x0, x1, xf⟩ := at_cells2 (at_kept HQ.out k3)
        replace HT := hid (tn_trans HT.out (tn_kept k3))
        generalize wr.drewN nq = w3 at *
        go_wp2_with fail
        refine (put_any b i x hb HLx.out.2 HLx.out.1 hc hx _ HW.out).mono ?_
        rintro e w4 ⟨rfl, t4, h4⟩
        have HZ := hid (HEnd.out _ _ _ _ HM.out HE.out (tn_trans HT.out t4) h4)
        clear t4 h4
        go_wp2_with fail
        exact bodyPost_end (v := .tuple #[]) (by kernel_rfl) rfl HZ.out
    · have h00 : i = 0 := by omega
      have hd : decide (0 < i) = false := by simp; omega
      have HE := hid (HZero.out _ _ _ HM.out h00)
      clear h00 h0
      go_wp2_with fail
      go_quiet (fail)
      clear p0 p1 pf x0 x1 xf
      have k3 := kept_drewN (kept_refl wr) nq
      replace HW := hid (wm_kept HW.out k3)
      obtain ⟨p0, p1, pf⟩ := at_cells2 (at_kept HP.out k3)
      obtain ⟨x0, x1, xf⟩ := at_cells2 (at_kept HQ.out k3)
      replace HT := hid (tn_trans HT.out (tn_kept k3))
      generalize wr.drewN nq = w3 at *
      go_wp2_with fail
      refine (put_any b i x hb HLx.out.2 HLx.out.1 hc hx _ HW.out).mono ?_
      rintro e w4 ⟨rfl, t4, h4⟩
      have HZ := hid (HEnd.out _ _ _ _ HM.out HE.out (tn_trans HT.out t4) h4)
      clear t4 h4
      go_wp2_with fail
      exact bodyPost_end (v := .tuple #[]) (by kernel_rfl) rfl HZ.out
set_option maxHeartbeats 3200000 in
theorem sink_any {F : Nat → Prop} {X m c : Nat} {V : Nat → Value} {R : Nat → List It} {g : Int → Option (Nat × Nat)} (b i : Nat) (x : It) (l0 : List It) (hl : l0.length ≤ 1000) (hc : c ≤ 1000) (hx : Wf x.2) (hw : ∀ y ∈ l0, Wf y.2) (w : World) (h : Wm w F X m V R g c) (hm : Mv DownOk R b x l0 g (R b) g i) (c2 : Nat) (hc2 : (c + if g x.2 = none then 1 else 0) = c2) :
    Calls Tryz.prog 125 #[.pointer (some ⟨X, 0, none⟩), .agg #[.int .i64 (b : Int), .int .i64 (i : Int)], .agg #[.int .u64 x.1, .int .i64 x.2]] w (SetC F X m V R b l0 c2 w) := by
  have HF : Hid (∀ k, w.heap.size ≤ k → ¬ F k) := hid (fun k hk hf => by have := h.low k hf; omega)
  have hb := hm.sync.lt
  have hb2 : ¬ (64 : Int) ≤ (b : Int) := by omega
  obtain ⟨q, cap, hv, hcap, hmax⟩ := row_some (h.row b hb) (by have := hm.lt; omega)
  rw [hm.len] at hv hcap
  have HH := hid h
  have HM := hid hm
  have HV := hid hv
  have HWf := hid hw
  have hn : l0.length ≤ 1000 := hl
  have HLn : Hid (∀ (i : Nat) (lr : List It) (g' : Int → Option (Nat × Nat)), Mv DownOk R b x l0 g lr g' i → (upd R b lr b).length ≤ 1000 ∧ i < (upd R b lr b).length) := hid (fun i lr g' h => by rw [upd_at, h.len]; exact ⟨hl, by have := h.lt; have := h.len; omega⟩)
  have HEnd : Hid (∀ (u : World) (i : Nat) (lr : List It) (g' : Int → Option (Nat × Nat)), Mv DownOk R b x l0 g lr g' i → Heap (lr.set i x) → Tn F w u → Wm u F X m V (upd (upd R b lr) b ((upd R b lr b).set i x)) (updM g' x.2 (b, i)) (c + if g' x.2 = none then 1 else 0) → SetC F X m V R b l0 c2 w (.returned (.tuple #[])) u) := hid (fun u i lr g' h1 h2 h3 h4 => by
    rw [upd_upd, upd_at, h1.gx, hc2] at h4
    exact ⟨rfl, h3, _, _, h4, mv_full h1, h2, h1.perm⟩)
  have HNx : Hid (∀ (i d : Nat) (y : It) (lr : List It) (g' : Int → Option (Nat × Nat)), Mv DownOk R b x l0 g lr g' i → chd lr i = d → lr[d]? = some y → (y.1 < x.1 → Mv DownOk R b x l0 g (lr.set i y) (updM g' y.2 (b, i)) d ∧ g' y.2 ≠ none) ∧ (¬ y.1 < x.1 → Heap (lr.set i x))) := hid (fun i d y lr g' h1 h3 h4 => by
    have hd := chd_pos lr i
    rw [h3] at hd
    have hpi : d ≠ i := by omega
    have hy : (lr.set i x)[d]? = some y := by rw [mv_other h1 hpi]; exact h4
    have hle := chd_least (lr.set i x) i
    rw [chd_set, h3, du_some hy] at hle
    refine ⟨fun h5 => mv_next h1 hpi h4 (down_step h1.ok hd.1 hd.2.1 (mv_get h1) hy h5 (fun c hc hl hi => (hle c hc hl hi).2)), fun h5 => down_end h1.ok (fun c hc hl hi => ?_)⟩
    have := (hle c hc hl hi).2
    rw [du_some (mv_get h1)]
    omega)
  have HZero : Hid (∀ (lr : List It) (g' : Int → Option (Nat × Nat)) (i : Nat), Mv DownOk R b x l0 g lr g' i → l0.length ≤ chd lr i → Heap (lr.set i x)) := hid (fun lr g' i h1 h2 => down_end h1.ok (fun c hc hl hi => by
    have := (chd_least (lr.set i x) i c hc hl hi).1
    rw [chd_set, List.length_set, h1.len] at this
    omega))
  have HChd : Hid (∀ (u : World) (i : Nat) (lr : List It) (g' : Int → Option (Nat × Nat)), Mv DownOk R b x l0 g lr g' i → Wm u F X m V (upd R b lr) g' c → Calls Tryz.prog 140 #[.slice (some ⟨q, 0, none⟩) l0.length cap, .int .i64 (i : Int)] u fun e w' => e = .returned (.int .i64 ((chd lr i : Nat) : Int)) ∧ Kept u w') := hid (fun u i lr g' h1 h2 => by
    have hr := h2.row b hb
    rw [upd_at, hv] at hr
    exact child_any _ lr i h1.lt (by rw [h1.len]; exact hl) u hr)
  have HWy : Hid (∀ (i p : Nat) (y : It) (lr : List It) (g' : Int → Option (Nat × Nat)), Mv DownOk R b x l0 g lr g' i → p ≠ i → lr[p]? = some y → Wf y.2) := hid (fun i p y lr g' h1 h2 h3 => hw y (h1.perm.mem_iff.1 (List.mem_of_getElem? (by rw [mv_other h1 h2]; exact h3))))
  have HCell : Hid (∀ (u : World) (i : Nat) (lr : List It) (g' : Int → Option (Nat × Nat)) (p : Nat) (y : It), Mv DownOk R b x l0 g lr g' i → Wm u F X m V (upd R b lr) g' c → lr[p]? = some y → u.cell? ⟨q, p * 2, none⟩ = some (.int .u64 y.1) ∧ u.cell? ⟨q, p * 2 + 1, none⟩ = some (.int .i64 y.2)) := hid (fun u i lr g' p y h1 h2 h3 => by
    have hr := h2.row b hb
    rw [upd_at, hv] at hr
    obtain ⟨r0, r1, _⟩ := row_cells hr h3
    exact ⟨r0, r1⟩)
  have HRow : Hid (∀ (P1 : Nat) (u : World) (lr : List It) (p : Nat) (y : It) (i : Nat) (g4 : Int → Option (Nat × Nat)) (c4 : Nat), At u P1 #[.int .i64 (b : Int), .int .i64 (i : Int)] 126 → Wm u F X m V (upd (upd R b lr) b ((upd R b lr b).set i y)) g4 c4 → p ≠ i → lr[p]? = some y → u.cell? ⟨P1, 0, none⟩ = some (.int .i64 (b : Int)) ∧ u.cell? ⟨P1, 1, none⟩ = some (.int .i64 (i : Int)) ∧ u.cell? ⟨q, p * 2, none⟩ = some (.int .u64 y.1) ∧ u.cell? ⟨q, p * 2 + 1, none⟩ = some (.int .i64 y.2)) := hid (fun P1 u lr p y i g4 c4 h1 h2 hn h3 => by
    have hr := h2.row b hb
    rw [upd_upd, upd_at, upd_at, hv] at hr
    obtain ⟨r0, r1, _⟩ := row_cells hr (i := p) (x := y) (by rw [List.getElem?_set, if_neg (Ne.symm hn)]; exact h3)
    exact ⟨(at_cells2 h1).1, (at_cells2 h1).2.1, r0, r1⟩)
  clear h hm hv hw hc2
  go_enter Tryz.func125, Tryz.ntmps125
  go_wp2_with fail
  have HK := hid (kept_alloc (kept_alloc (kept_refl w) (.cells #[.int .i64 (b : Int), .int .i64 (i : Int)] 126)) (.cells #[.int .u64 x.1, .int .i64 x.2] 123))
  have HP := hid (at_alloc (at_new w #[.int .i64 (b : Int), .int .i64 (i : Int)] 126) (.cells #[.int .u64 x.1, .int .i64 x.2] 123))
  have HQ := hid (at_new (w.alloc (.cells #[.int .i64 (b : Int), .int .i64 (i : Int)] 126)) #[.int .u64 x.1, .int .i64 x.2] 123)
  have e2 : (w.alloc (.cells #[.int .i64 (b : Int), .int .i64 (i : Int)] 126)).heap.size = w.heap.size + 1 := by simp
  rw [e2] at HQ
  have HF1 : Hid (¬ F w.heap.size) := hid (HF.out _ (Nat.le_refl _))
  have HF2 : Hid (¬ F (w.heap.size + 1)) := hid (HF.out _ (by omega))
  clear e2
  go_wp2_with fail
  generalize (w.alloc (.cells #[.int .i64 (b : Int), .int .i64 (i : Int)] 126)).alloc (.cells #[.int .u64 x.1, .int .i64 x.2] 123) = w1 at *
  have HP12 : Hid (w.heap.size + 1 ≠ w.heap.size) := hid (by omega)
  have HPl : Hid (w.heap.size ≤ w.heap.size) := hid (Nat.le_refl _)
  generalize w.heap.size + 1 = P2 at *
  generalize hP1 : w.heap.size = P1 at HF1 HP HQ HP12 HF ⊢
  rw [hP1] at HPl
  have HPl2 : Hid (w.heap.size ≤ P1) := hid (by omega)
  have HW1 := hid (wm_kept HH.out HK.out)
  have hS0 : w1.cell? ⟨X, b, none⟩ = some (.slice (some ⟨q, 0, none⟩) l0.length cap) := by rw [(wm_cell HW1.out hb).1, HV.out]
  obtain ⟨p0, p1, pf⟩ := at_cells2 HP.out
  go_quiet (fail)
  clear hS0 p0 p1 pf
  replace HW1 := hid (wm_kept HW1.out (kept_drewN (kept_refl w1) nq))
  replace HP := hid (at_kept HP.out (kept_drewN (kept_refl w1) nq))
  replace HQ := hid (at_kept HQ.out (kept_drewN (kept_refl w1) nq))
  have HT := hid (tn_kept (F := F) (kept_drewN HK.out nq))
  generalize w1.drewN nq = w2 at *
  have HW2 : Hid (Wm w2 F X m V (upd R b (R b)) g c) := hid (by rw [upd_id]; exact HW1.out)
  clear HW1 HH HK
  generalize hN : l0.length = n at *
  have HN := hid hN
  clear hN
  obtain ⟨p0, p1, pf⟩ := at_cells2 HP.out
  go_wp2_with fail
  refine (HChd.out _ _ _ _ HM.out HW2.out).mono ?_
  rintro e w2b ⟨rfl, k2⟩
  clear p0 p1 pf
  replace HW2 := hid (wm_kept HW2.out k2)
  replace HP := hid (at_kept HP.out k2)
  replace HQ := hid (at_kept HQ.out k2)
  replace HT := hid (tn_trans HT.out (tn_kept k2))
  clear k2
  go_wp2_with fail
  go_loopw [7] (fun a wr => ∃ (i : Nat) (lr : List It) (g' : Int → Option (Nat × Nat)), a = .int .i64 ((chd lr i : Nat) : Int) ∧ Hid (Mv DownOk R b x l0 g lr g' i) ∧ Hid (Wm wr F X m V (upd R b lr) g' c) ∧ Hid (At wr P1 #[.int .i64 (b : Int), .int .i64 (i : Int)] 126) ∧ Hid (At wr P2 #[.int .u64 x.1, .int .i64 x.2] 123) ∧ Hid (Tn F w wr)) (fun _ wr => 1000 - atN wr P1)
  case atStart => exact ⟨i, R b, g, rfl, HM, HW2, HP, HQ, HT⟩
  case round =>
    clear HM HW2 HP HQ HT
    obtain ⟨i, lr, g', rfl, HM, HW, HP, HQ, HT⟩ := hrel
    have hi := HM.out.lt
    rw [HM.out.len, HN.out] at hi
    obtain ⟨p0, p1, pf⟩ := at_cells2 HP.out
    obtain ⟨x0, x1, xf⟩ := at_cells2 HQ.out
    have HLx := hid (HLn.out _ _ _ HM.out)
    obtain ⟨p, hp⟩ : ∃ p, chd lr i = p := ⟨_, rfl⟩
    have hpos := chd_pos lr i
    rw [hp] at hpos
    have hpi : i < p := hpos.2.2.1
    have hp2 : p ≤ 2002 := by omega
    rw [hp]
    clear hpos
    by_cases h0 : p < n
    · obtain ⟨y, hy⟩ : ∃ y, lr[p]? = some y := ⟨lr[p]'(by have := HM.out.len; have := HN.out; omega), List.getElem?_eq_getElem _⟩
      obtain ⟨y0, y1⟩ := HCell.out _ _ _ _ _ _ HM.out HW.out hy
      have hpn : (p : Int) < (n : Int) := by omega
      have HN2 := hid (HNx.out i p y lr g' HM.out hp hy)
      have HYf := hid (HWy.out _ _ _ _ _ HM.out (by omega) hy)
      have HYe := hid hy
      clear hp hy
      by_cases hlt : y.1 < x.1
      · go_wp2_with fail
        go_quiet (fail)
        have HMx := hid (HN2.out.1 hlt)
        clear p0 p1 pf x0 x1 xf y0 y1 hlt
        have k3 := kept_drewN (kept_refl wr) nq
        have HMe := hid (atN_at HP.out)
        replace HW := hid (wm_kept HW.out k3)
        replace HP := hid (at_kept HP.out k3)
        replace HQ := hid (at_kept HQ.out k3)
        replace HT := hid (tn_trans HT.out (tn_kept k3))
        clear k3
        obtain ⟨p0, p1, pf⟩ := at_cells2 HP.out
        generalize wr.drewN nq = w3 at *
        go_wp2_with fail
        obtain ⟨y0, y1⟩ := HCell.out _ _ _ _ _ _ HM.out HW.out HYe.out
        have hS0 := And.intro p0 (And.intro p1 (And.intro y0 y1))
        clear p0 p1 y0 y1
        refine wp_region_noPanic ?_
        refine wp_region_held_drew (S := (fun w' => w'.cell? ⟨P1, 0, none⟩ = some (.int .i64 (b : Int)) ∧ w'.cell? ⟨P1, 1, none⟩ = some (.int .i64 (i : Int)) ∧ w'.cell? ⟨q, p * 2, none⟩ = some (.int .u64 y.1) ∧ w'.cell? ⟨q, p * 2 + 1, none⟩ = some (.int .i64 y.2))) (by kernel_rfl) (by assumption) (fun hHeld => ?_)
        replace HW := hid (wm_kept HW.out (kept_drew (kept_refl w3)))
        replace HT := hid (tn_trans HT.out (tn_kept (kept_drew (kept_refl w3))))
        replace HP := hid (at_drew HP.out)
        replace HQ := hid (at_drew HQ.out)
        generalize w3.drew = w4 at *
        refine wpAnyH_take (i := 0) (v := .pointer (some ⟨X, 0, none⟩)) rfl (by kernel_rfl) (by kernel_rfl) (by kernel_rfl) (fun _ _ _ h => h) (Or.inl ⟨by rfl, fun w hSw => by (try dsimp only at hSw); go_simp⟩) (by assumption) ?_
        refine wpAnyH_take (i := 1) (v := .agg #[.int .i64 (b : Int), .int .i64 (i : Int)]) rfl (by kernel_rfl) (by kernel_rfl) (by kernel_rfl) (fun _ _ _ h => h) (Or.inl ⟨by rfl, fun w hSw => by (try dsimp only at hSw); go_simp⟩) (by assumption) ?_
        refine wpAnyH_take (i := 2) (v := .slice (some ⟨q, 0, none⟩) n cap) rfl (by kernel_rfl) (by kernel_rfl) (by kernel_rfl) (fun _ _ _ h => h) (Or.inl ⟨by rfl, fun w hSw => by (try dsimp only at hSw); go_simp⟩) (by assumption) ?_
        refine wpAnyH_take (i := 3) (v := .int .i64 (p : Int)) rfl (by kernel_rfl) (by kernel_rfl) (by kernel_rfl) (fun _ _ _ h => h) (Or.inl ⟨by rfl, fun w hSw => by (try dsimp only at hSw); go_simp⟩) (by assumption) ?_
        refine wpAnyH_take (i := 4) (v := .pointer (some ⟨q, p * 2, none⟩)) rfl (by kernel_rfl) (by kernel_rfl) (by kernel_rfl) (fun _ _ _ h => h) (Or.inl ⟨by rfl, fun w hSw => by (try dsimp only at hSw); go_simp⟩) (by assumption) ?_
        refine wpAnyH_take (i := 5) (v := .agg #[.int .u64 y.1, .int .i64 y.2]) rfl (by kernel_rfl) (by kernel_rfl) (by kernel_rfl) (fun _ _ _ h => h) (Or.inl ⟨by rfl, fun w hSw => by (try dsimp only at hSw); go_simp⟩) (by assumption) ?_
        try simp only [List.getElem_toArray, List.getElem_cons_zero, List.getElem_cons_succ, Act.put, List.setIfInBounds_toArray, List.set_cons_zero, List.set_cons_succ]
        refine wpAnyH_ready (rs := [6]) (by kernel_rfl) (by simp) ?_
        refine AllReadyH.cons (i := 6) rfl (fun K hK => ?_) AllReadyH.nil
        go_simp
        refine (put_any b i y hb HLx.out.2 HLx.out.1 hc HYf.out _ HW.out).mono ?_
        rintro e1 w5 ⟨rfl, t5, h5⟩
        have HT5 := hid (tn_trans HT.out t5)
        have HP5 := hid (at_tn HP.out t5 HF1.out)
        have HQ5 := hid (at_tn HQ.out t5 HF2.out)
        have hS := HRow.out _ w5 lr p y i _ _ HP5.out h5 (by omega) HYe.out
        rw [if_neg HMx.out.2, upd_upd, upd_at] at h5
        have HW5 := hid h5
        clear t5 h5
        clear hHeld
        show K _ _
        refine hK.out _ _ (by assumption) (fun hHeld => ?_)
        clear hK K
        try simp only [List.getElem_toArray, List.getElem_cons_zero, List.getElem_cons_succ, Act.put, List.setIfInBounds_toArray, List.set_cons_zero, List.set_cons_succ]
        refine wpAnyH_done (by kernel_rfl) ?_ _
        refine NoPanic.normal ?_
        clear hS hS0 hHeld
        obtain ⟨p0, p1, pf⟩ := at_cells2 HP5.out
        have HP6 := hid (at_set HP5.out 1 (.int .i64 (p : Int)))
        have HW6 := hid (wm_setP HW5.out HF1.out 1 (.int .i64 (p : Int)))
        have HQ6 := hid (at_other HQ5.out HP12.out 1 (.int .i64 (p : Int)))
        have HT6 := hid (tn_set HT5.out (.inr HPl2.out) 1 (.int .i64 (p : Int)))
        clear HP5 HW5 HQ5 HT5
        obtain ⟨w6, hw6⟩ : ∃ w6, w5.setCell ⟨P1, 1, none⟩ (.int .i64 (p : Int)) = w6 := ⟨_, rfl⟩
        rw [hw6] at HP6 HW6 HQ6 HT6
        replace HP6 : Hid (At w6 P1 #[.int .i64 (b : Int), .int .i64 (p : Int)] 126) := HP6
        obtain ⟨z0, z1, zf⟩ := at_cells2 HP6.out
        have hch := HChd.out _ _ _ _ HMx.out.1 HW6.out
        go_wp2_with fail
        refine hch.mono ?_
        rintro e w7 ⟨rfl, k7⟩
        clear hch z0 z1 zf p0 p1 pf
        replace HW6 := hid (wm_kept HW6.out k7)
        replace HP6 := hid (at_kept HP6.out k7)
        replace HQ6 := hid (at_kept HQ6.out k7)
        replace HT6 := hid (tn_trans HT6.out (tn_kept k7))
        clear k7
        go_wp2_with fail
        go_roundw
        case rel => exact ⟨p, lr.set i y, _, rfl, hid HMx.out.1, HW6, HP6, HQ6, HT6⟩
        case measure =>
          have e1 : atN _ P1 = p := atN_at HP6.out
          rw [HMe.out, e1]
          omega
      · have hd : decide (y.1 < x.1) = false := by simpa using hlt
        have HE := hid (HN2.out.2 (by omega))
        clear hlt
        go_wp2_with fail
        go_quiet (fail)
        clear p0 p1 pf x0 x1 xf y0 y1
        have k3 := kept_drewN (kept_refl wr) nq
        replace HW := hid (wm_kept HW.out k3)
        obtain ⟨p0, p1, pf⟩ := at_cells2 (at_kept HP.out k3)
        obtain ⟨x0, x1, xf⟩ := at_cells2 (at_kept HQ.out k3)
        replace HT := hid (tn_trans HT.out (tn_kept k3))
        generalize wr.drewN nq = w3 at *
        go_wp2_with fail
        refine (put_any b i x hb HLx.out.2 HLx.out.1 hc hx _ HW.out).mono ?_
        rintro e w4 ⟨rfl, t4, h4⟩
        have HZ := hid (HEnd.out _ _ _ _ HM.out HE.out (tn_trans HT.out t4) h4)
        clear t4 h4
        go_wp2_with fail
        exact bodyPost_end (v := .tuple #[]) (by kernel_rfl) rfl HZ.out
    · have hd : decide (p < n) = false := by simp; omega
      have HE := hid (HZero.out _ _ _ HM.out (by rw [hp]; omega))
      clear h0 hp
      go_wp2_with fail
      go_quiet (fail)
      clear p0 p1 pf x0 x1 xf
      have k3 := kept_drewN (kept_refl wr) nq
      replace HW := hid (wm_kept HW.out k3)
      obtain ⟨p0, p1, pf⟩ := at_cells2 (at_kept HP.out k3)
      obtain ⟨x0, x1, xf⟩ := at_cells2 (at_kept HQ.out k3)
      replace HT := hid (tn_trans HT.out (tn_kept k3))
      generalize wr.drewN nq = w3 at *
      go_wp2_with fail
      refine (put_any b i x hb HLx.out.2 HLx.out.1 hc hx _ HW.out).mono ?_
      rintro e w4 ⟨rfl, t4, h4⟩
      have HZ := hid (HEnd.out _ _ _ _ HM.out HE.out (tn_trans HT.out t4) h4)
      clear t4 h4
      go_wp2_with fail
      exact bodyPost_end (v := .tuple #[]) (by kernel_rfl) rfl HZ.out
set_option maxHeartbeats 3200000 in
theorem settle_any {F : Nat → Prop} {X m c : Nat} {V : Nat → Value} {R : Nat → List It} {g : Int → Option (Nat × Nat)} (b i : Nat) (x : It) (l0 : List It) (hl : l0.length ≤ 1000) (hc : c ≤ 1000) (hx : Wf x.2) (hw : ∀ y ∈ l0, Wf y.2) (w : World) (h : Wm w F X m V R g c) (hm : Mv (fun _ _ => True) R b x l0 g (R b) g i)
    (hup : 0 < i → x.1 < du (R b) ((i - 1) / 2) → UpOk ((R b).set i x) i) (hdown : (i = 0 ∨ du (R b) ((i - 1) / 2) ≤ x.1) → DownOk ((R b).set i x) i) (c2 : Nat) (hc2 : (c + if g x.2 = none then 1 else 0) = c2) :
    Calls Tryz.prog 107 #[.pointer (some ⟨X, 0, none⟩), .agg #[.int .i64 (b : Int), .int .i64 (i : Int)], .agg #[.int .u64 x.1, .int .i64 x.2]] w (SetC F X m V R b l0 c2 w) := by
  have hb := hm.sync.lt
  have hb2 : ¬ (64 : Int) ≤ (b : Int) := by omega
  obtain ⟨q, cap, hv, hcap, hmax⟩ := row_some (h.row b hb) (by have := hm.lt; omega)
  have hi := hm.lt
  rw [hm.len] at hi
  have HLR := hid hm.len.symm
  have hr := h.row b hb
  rw [hv] at hr
  rw [hm.len] at hv hcap
  have HH := hid h
  have HV := hid hv
  have HUp : Hid (∀ u, Kept w u → UpOk ((R b).set i x) i → Calls Tryz.prog 104 #[.pointer (some ⟨X, 0, none⟩), .agg #[.int .i64 (b : Int), .int .i64 (i : Int)], .agg #[.int .u64 x.1, .int .i64 x.2]] u (SetC F X m V R b l0 c2 u)) := hid (fun u k ho => rise_any b i x l0 hl hc hx hw u (wm_kept h k) ⟨hm.len, hm.lt, hm.sync, ho, hm.perm, hm.gx⟩ c2 hc2)
  have HDn : Hid (∀ u, Kept w u → DownOk ((R b).set i x) i → Calls Tryz.prog 125 #[.pointer (some ⟨X, 0, none⟩), .agg #[.int .i64 (b : Int), .int .i64 (i : Int)], .agg #[.int .u64 x.1, .int .i64 x.2]] u (SetC F X m V R b l0 c2 u)) := hid (fun u k ho => sink_any b i x l0 hl hc hx hw u (wm_kept h k) ⟨hm.len, hm.lt, hm.sync, ho, hm.perm, hm.gx⟩ c2 hc2)
  have HEnd : Hid (∀ u u', Kept w u → SetC F X m V R b l0 c2 u (.returned (.tuple #[])) u' → SetC F X m V R b l0 c2 w (.returned (.tuple #[])) u') := hid (fun u u' k h => ⟨rfl, tn_trans (tn_kept k) h.2.1, h.2.2⟩)
  have HK := hid (kept_alloc (kept_alloc (kept_refl w) (.cells #[.int .i64 (b : Int), .int .i64 (i : Int)] 126)) (.cells #[.int .u64 x.1, .int .i64 x.2] 123))
  have HP := hid (at_alloc (at_new w #[.int .i64 (b : Int), .int .i64 (i : Int)] 126) (.cells #[.int .u64 x.1, .int .i64 x.2] 123))
  have HQ := hid (at_new (w.alloc (.cells #[.int .i64 (b : Int), .int .i64 (i : Int)] 126)) #[.int .u64 x.1, .int .i64 x.2] 123)
  have e2 : (w.alloc (.cells #[.int .i64 (b : Int), .int .i64 (i : Int)] 126)).heap.size = w.heap.size + 1 := by simp
  rw [e2] at HQ
  have HHu := hid hup
  have HHd := hid hdown
  obtain ⟨w1, hw1⟩ : ∃ w1, (w.alloc (.cells #[.int .i64 (b : Int), .int .i64 (i : Int)] 126)).alloc (.cells #[.int .u64 x.1, .int .i64 x.2] 123) = w1 := ⟨_, rfl⟩
  rw [hw1] at HK HP HQ
  have HR := hid (row_kept hr HK.out)
  clear e2 h hm hw hup hdown hv hr hc2
  generalize hP2 : w.heap.size + 1 = P2 at HQ
  have HW1 := hid (wm_kept HH.out HK.out)
  have hS0 : w1.cell? ⟨X, b, none⟩ = some (.slice (some ⟨q, 0, none⟩) l0.length cap) := by rw [(wm_cell HW1.out hb).1, HV.out]
  obtain ⟨p0, p1, pf⟩ := at_cells2 HP.out
  obtain ⟨x0, x1, xf⟩ := at_cells2 HQ.out
  have hlR : l0.length = (R b).length := HLR.out
  have HKd : Hid (∀ k, Kept w (w1.drewN k)) := hid (fun k => kept_drewN HK.out k)
  generalize l0.length = n at *
  by_cases h0 : 0 < i
  · obtain ⟨p, hp⟩ : ∃ p, (i - 1) / 2 = p := ⟨_, rfl⟩
    have hpi : p < i := by omega
    have hpar := fun W => parent_any i h0 (by omega) W
    rw [hp] at hpar
    have hpn : (p : Int) < (n : Int) := by omega
    rw [hp] at HHu HHd
    obtain ⟨y, hy⟩ : ∃ y, (R b)[p]? = some y := ⟨(R b)[p]'(by omega), List.getElem?_eq_getElem _⟩
    obtain ⟨y0, y1, yf⟩ := row_cells HR.out hy
    rw [du_some hy] at HHu HHd
    by_cases hlt : x.1 < y.1
    · have HOk := hid (HHu.out h0 hlt)
      go_enter Tryz.func107, Tryz.ntmps107
      go_wp2_with fail
      go_quiet ((go_at_call 123; exact Calls.quiet_of_same (hpar _)))
      go_wp2_with fail
      refine (HUp.out _ (HKd.out nq) HOk.out).mono ?_
      rintro e w3 ⟨rfl, hw3⟩
      have HZ := hid (HEnd.out _ _ (HKd.out nq) ⟨rfl, hw3⟩)
      clear hw3
      go_wp2_with fail
      exact bodyPost_end (v := .tuple #[]) (by kernel_rfl) rfl HZ.out
    · have hd : decide (x.1 < y.1) = false := by simpa using hlt
      have HOk := hid (HHd.out (.inr (by omega)))
      clear hlt
      go_enter Tryz.func107, Tryz.ntmps107
      go_wp2_with fail
      go_quiet ((go_at_call 123; exact Calls.quiet_of_same (hpar _)))
      go_wp2_with fail
      refine (HDn.out _ (HKd.out nq) HOk.out).mono ?_
      rintro e w3 ⟨rfl, hw3⟩
      have HZ := hid (HEnd.out _ _ (HKd.out nq) ⟨rfl, hw3⟩)
      clear hw3
      go_wp2_with fail
      exact bodyPost_end (v := .tuple #[]) (by kernel_rfl) rfl HZ.out
  · have HOk := hid (HHd.out (.inl (by omega)))
    have hd : decide (0 < i) = false := by simpa using h0
    clear h0
    go_enter Tryz.func107, Tryz.ntmps107
    go_wp2_with fail
    go_quiet (fail)
    go_wp2_with fail
    refine (HDn.out _ (HKd.out nq) HOk.out).mono ?_
    rintro e w3 ⟨rfl, hw3⟩
    have HZ := hid (HEnd.out _ _ (HKd.out nq) ⟨rfl, hw3⟩)
    clear hw3
    go_wp2_with fail
    exact bodyPost_end (v := .tuple #[]) (by kernel_rfl) rfl HZ.out
end Go.Proofs.YthgbdaladngpdaaGreat.Whl
