/- The contracts of evict, makeRoom and freePlace. The store has at most 500 records; fewer than 10^9 were evicted. -/
import Derived.Test.YthgbdaladngpdaaGreatP12
/- The contracts of evict, makeRoom and freePlace. The store has at most 500 records; fewer than 10^9 were evicted. -/
namespace Go.Proofs.YthgbdaladngpdaaGreat
open Go.ChangeShapes Go.WideShapes Go.ChangeAt Go.RowKit
open Go.Proofs.YthgbdaladngpdaaGreat.Whl (Tn tn_kept tn_refl tn_trans tn_set tn_alloc at_tn kept_tn It)
set_option linter.unusedVariables false
set_option linter.unusedSimpArgs false
set_option maxRecDepth 100000

theorem kept_drewN {W w : World} (h : Kept W w) (n : Nat) : Kept W (w.drewN n) := h
theorem less_last {l : List Nat} {i : Nat} (h : (l ++ [i]).Nodup) : less (l ++ [i]) i = l := by
  have h1 : i ∉ l := fun hx => by
    have := List.nodup_append.1 h
    exact this.2.2 i hx i (by simp) rfl
  unfold less
  rw [List.filter_append]
  have e1 : l.filter (fun x => x != i) = l := List.filter_eq_self.2 (fun x hx => by simp; rintro rfl; exact h1 hx)
  rw [e1]
  simp
theorem raise_yes {fl : Nat → Stp} {r : R} (h : cmp (fl (rg r.key)) r.s < 0) : raise fl r = updS fl (rg r.key) r.s := by
  funext k
  unfold raise updS
  by_cases e : k = rg r.key
  · subst e
    rw [if_pos rfl, if_pos ⟨rfl, lt_cmp.2 h⟩]
  · rw [if_neg e, if_neg (fun q => e q.1)]
theorem raise_no {fl : Nat → Stp} {r : R} (h : ¬ cmp (fl (rg r.key)) r.s < 0) : raise fl r = fl := by
  funext k
  unfold raise
  rw [if_neg]
  rintro ⟨rfl, g⟩
  exact h (lt_cmp.1 g)
set_option maxHeartbeats 3200000 in
theorem evict_any {F : Nat → Prop} {X : Nat} {c : Cf} {pl : Nat → R} {l : List Nat} {i : Nat} {fl : Nat → Stp} {ev : Nat} (hc : c.may) (hl : (l ++ [i]).length ≤ 500) (hev : ev ≤ 1000000000) (w : World) (h : StI w F X c pl (l ++ [i]) fl ev (fun _ => False)) :
    Calls Tryz.prog 78 #[.pointer (some ⟨X, 0, none⟩)] w fun e w' => e = .returned (.tuple #[]) ∧ Tn F w w' ∧ StI w' F X c (updR pl i zeroR) l (raise fl (pl i)) (ev + 1) (fun _ => False) := by
  have HI0 := hid h
  obtain ⟨f, M, a, hm, hco⟩ := h
  have hz := zero27
  have hil : i ∈ l ++ [i] := by simp
  have hin : i < c.n := hco.low i hil
  have hn4 : c.n ≤ 1024 := hc.2.1
  have hkey : (pl i).key.size ≤ 250 := (may_len (hco.may i hil)).2
  have hls := less_last hco.once
  have HEnd : Hid (∀ u, Tn F w u → StI u F X c (updR pl i zeroR) (less (l ++ [i]) i) (raise fl (pl i)) (ev + 1) (fun _ => False) → Ending.returned (.tuple #[]) = .returned (.tuple #[]) ∧ Tn F w u ∧ StI u F X c (updR pl i zeroR) l (raise fl (pl i)) (ev + 1) (fun _ => False)) := hid (fun u tu hu => ⟨rfl, tu, by rw [hls] at hu; exact hu⟩)
  have ho := Lru.oldest_any w hm.lst
  have e1 : Lru.oldI (l ++ [i]) = (i : Int) := by unfold Lru.oldI; rw [dif_neg (by simp)]; simp
  have e2 : (!(l ++ [i]).isEmpty) = true := by cases l <;> rfl
  rw [e1, e2] at ho
  obtain ⟨⟨_, _, c2, _⟩, _⟩ := sm_cells hm
  have HSm := hid hm
  have HCo := hid hco
  have HY0 : Hid (∀ u : World, w.heap.size ≤ u.heap.size → ¬ F u.heap.size) := hid (fun u hu hf => by have := hm.low _ hf; omega)
  clear hm hco e1 e2 hls
  go_enter Tryz.func78, Tryz.ntmps78
  go_wp2_with fail
  refine ho.mono ?_
  rintro e w1 ⟨rfl, k1⟩
  have HW1 := hid (sm_kept HSm.out k1)
  have HK1 := hid k1
  have HY := hid (HY0.out w1 k1.2)
  clear ho c2 k1 HSm HY0
  obtain ⟨⟨c0, _⟩, _⟩ := sm_cells HW1.out
  obtain ⟨⟨r0, r1, r2, r3, r4, r5, r6, r7⟩, _⟩ := rowR_cells HW1.out.row hin
  obtain ⟨r, hr⟩ : ∃ r, pl i = r := ⟨_, rfl⟩
  rw [hr] at r0 r1 r2 r3 r4 r5 r6 r7 hkey
  obtain ⟨w2, hw2⟩ : ∃ w2, w1.alloc (.cells #[.string r.key, .int .u64 r.s.p, .int .u32 r.s.l, .int .u8 r.s.n, .int .u8 r.kind, .int .u32 r.flags, .int .u64 r.exp, .string r.body] 42) = w2 := ⟨_, rfl⟩
  obtain ⟨Y, hYs⟩ : ∃ Y, w1.heap.size = Y := ⟨_, rfl⟩
  have K2 := kept_alloc (kept_refl w1) (.cells #[.string r.key, .int .u64 r.s.p, .int .u32 r.s.l, .int .u8 r.s.n, .int .u8 r.kind, .int .u32 r.flags, .int .u64 r.exp, .string r.body] 42)
  have A2 := at_new w1 #[.string r.key, .int .u64 r.s.p, .int .u32 r.s.l, .int .u8 r.s.n, .int .u8 r.kind, .int .u32 r.flags, .int .u64 r.exp, .string r.body] 42
  rw [hw2] at K2 A2
  rw [hYs] at A2 HY
  have HA2 := hid A2
  have HW2 := hid (sm_kept HW1.out K2)
  have HK2 := hid (kept_trans HK1.out K2)
  have HYs := hid hYs
  clear K2 A2 HW1 HK1
  have hsm : r.key.size ≤ maxLen := by unfold maxLen; omega
  have hRg := range_any r.key hsm
  have HK64 := hid (rg_lt r.key)
  obtain ⟨d0, _⟩ := at_cells8' HA2.out
  go_wp2_with fail
  refine (hRg _).mono ?_
  rintro e w3 ⟨rfl, rfl⟩
  clear d0 hw2 hz c0 r0 r1 r2 r3 r4 r5 r6 r7 hRg
  obtain ⟨k, hk⟩ : ∃ k, rg r.key = k := ⟨_, rfl⟩
  obtain ⟨q, hq⟩ : ∃ q, fl k = q := ⟨_, rfl⟩
  rw [hk] at HK64
  have hidx := idx34 X k (by have := HK64.out; omega)
  have HS : Hid (∀ u, Kept w3 u → (u.cell? ⟨X, 4 + k * 3, none⟩ = some (.int .u64 q.p) ∧ u.cell? ⟨X, 4 + k * 3 + 1, none⟩ = some (.int .u32 q.l) ∧ u.cell? ⟨X, 4 + k * 3 + 2, none⟩ = some (.int .u8 q.n)) ∧ (u.cell? ⟨Y, 0, none⟩ = some (.string r.key) ∧ u.cell? ⟨Y, 1, none⟩ = some (.int .u64 r.s.p) ∧ u.cell? ⟨Y, 2, none⟩ = some (.int .u32 r.s.l) ∧ u.cell? ⟨Y, 3, none⟩ = some (.int .u8 r.s.n) ∧ u.cell? ⟨Y, 4, none⟩ = some (.int .u8 r.kind) ∧ u.cell? ⟨Y, 5, none⟩ = some (.int .u32 r.flags) ∧ u.cell? ⟨Y, 6, none⟩ = some (.int .u64 r.exp) ∧ u.cell? ⟨Y, 7, none⟩ = some (.string r.body))) := hid (fun u ku => by
    have := sm_floor (sm_kept HW2.out ku) HK64.out
    rw [hq] at this
    exact ⟨this, at_cells8' (at_kept HA2.out ku)⟩)
  have HKq := hid (And.intro hk hq)
  have HR := hid hr
  rw [hk]
  clear hk hq hr
  by_cases hlt : cmp q r.s < 0
  · have hdec : decide (cmp q r.s < 0) = true := decide_eq_true hlt
    have HEq : Hid (raise fl (pl i) = updS fl k r.s) := hid (by
      rw [HR.out]
      have h1 := HKq.out.1
      have h2 := HKq.out.2
      rw [← h1] at h2 ⊢
      exact raise_yes (by rw [h2]; exact hlt))
    have k0 : Kept w3 w3.drew := kept_refl w3
    clear hlt
    go_wp2_with fail
    refine wp_region_noPanic ?_
    refine wp_region_held_drew (S := (fun w' => (w'.cell? ⟨X, 4 + k * 3, none⟩ = some (.int .u64 q.p) ∧ w'.cell? ⟨X, 4 + k * 3 + 1, none⟩ = some (.int .u32 q.l) ∧ w'.cell? ⟨X, 4 + k * 3 + 2, none⟩ = some (.int .u8 q.n)) ∧ (w'.cell? ⟨Y, 0, none⟩ = some (.string r.key) ∧ w'.cell? ⟨Y, 1, none⟩ = some (.int .u64 r.s.p) ∧ w'.cell? ⟨Y, 2, none⟩ = some (.int .u32 r.s.l) ∧ w'.cell? ⟨Y, 3, none⟩ = some (.int .u8 r.s.n) ∧ w'.cell? ⟨Y, 4, none⟩ = some (.int .u8 r.kind) ∧ w'.cell? ⟨Y, 5, none⟩ = some (.int .u32 r.flags) ∧ w'.cell? ⟨Y, 6, none⟩ = some (.int .u64 r.exp) ∧ w'.cell? ⟨Y, 7, none⟩ = some (.string r.body)))) (by kernel_rfl) (HS.out _ k0) (fun hHeld => ?_)
    refine wpAnyH_take (i := 0) (v := .pointer (some ⟨X, 0, none⟩)) rfl (by kernel_rfl) (by kernel_rfl) (by kernel_rfl) (fun _ _ _ h => h) (Or.inl ⟨by rfl, fun w hSw => by (try dsimp only at hSw); go_simp⟩) (by assumption) ?_
    refine wpAnyH_take (i := 1) (v := .int .i64 (k : Int)) rfl (by kernel_rfl) (by kernel_rfl) (by kernel_rfl) (fun _ _ _ h => h) (Or.inl ⟨by rfl, fun w hSw => by (try dsimp only at hSw); go_simp⟩) (by assumption) ?_
    refine wpAnyH_take (i := 2) (v := .pointer (some ⟨X, 0, none⟩)) rfl (by kernel_rfl) (by kernel_rfl) (by kernel_rfl) (fun _ _ _ h => h) (Or.inl ⟨by rfl, fun w hSw => by (try dsimp only at hSw); go_simp⟩) (by assumption) ?_
    refine wpAnyH_take (i := 3) (v := .pointer (some ⟨X, 4, none⟩)) rfl (by kernel_rfl) (by kernel_rfl) (by kernel_rfl) (fun _ _ _ h => h) (Or.inl ⟨by rfl, fun w hSw => by (try dsimp only at hSw); go_simp⟩) (by assumption) ?_
    refine wpAnyH_take (i := 4) (v := .pointer (some ⟨X, 4 + k * 3, none⟩)) rfl (by kernel_rfl) (by kernel_rfl) (by kernel_rfl) (fun _ _ _ h => h) (Or.inl ⟨by rfl, fun w hSw => by (try dsimp only at hSw); go_simp⟩) (by assumption) ?_
    refine wpAnyH_take (i := 5) (v := .agg #[.int .u64 q.p, .int .u32 q.l, .int .u8 q.n]) rfl (by kernel_rfl) (by kernel_rfl) (by kernel_rfl) (fun _ _ _ h => h) (Or.inl ⟨by rfl, fun w hSw => by (try dsimp only at hSw); go_simp⟩) (by assumption) ?_
    refine wpAnyH_take (i := 6) (v := .pointer (some ⟨Y, 1, none⟩)) rfl (by kernel_rfl) (by kernel_rfl) (by kernel_rfl) (fun _ _ _ h => h) (Or.inl ⟨by rfl, fun w hSw => by (try dsimp only at hSw); go_simp⟩) (by assumption) ?_
    refine wpAnyH_take (i := 7) (v := .agg #[.int .u64 r.s.p, .int .u32 r.s.l, .int .u8 r.s.n]) rfl (by kernel_rfl) (by kernel_rfl) (by kernel_rfl) (fun _ _ _ h => h) (Or.inl ⟨by rfl, fun w hSw => by (try dsimp only at hSw); go_simp⟩) (by assumption) ?_
    try simp only [List.getElem_toArray, List.getElem_cons_zero, List.getElem_cons_succ, Act.put, List.setIfInBounds_toArray, List.set_cons_zero, List.set_cons_succ]
    refine wpAnyH_ready (rs := [8]) (by kernel_rfl) (by simp) ?_
    refine AllReadyH.cons (i := 8) rfl (fun K hK => ?_) AllReadyH.nil
    go_simp
    refine (compare_any q r.s _).mono ?_
    rintro e w5 ⟨rfl, h3⟩
    replace k0 := kept_trans k0 h3
    clear h3
    clear hHeld
    show K _ _
    refine hK.out _ _ (HS.out _ k0) (fun hHeld => ?_)
    clear hK K
    refine wpAnyH_take (i := 9) (v := .bool (decide (cmp q r.s < 0))) rfl (by kernel_rfl) (by kernel_rfl) (by kernel_rfl) (fun _ _ _ h => h) (Or.inl ⟨by rfl, fun w hSw => by (try dsimp only at hSw); go_simp⟩) (by assumption) ?_
    try simp only [List.getElem_toArray, List.getElem_cons_zero, List.getElem_cons_succ, Act.put, List.setIfInBounds_toArray, List.set_cons_zero, List.set_cons_succ]
    refine wpAnyH_done (by kernel_rfl) ?_ _
    refine NoPanic.normal ?_
    clear hHeld
    rw [hdec]
    have HA3 := hid (at_kept HA2.out k0)
    have HW3 := hid (sm_kept HW2.out k0)
    have HK3 := hid (kept_trans HK2.out k0)
    clear k0 HS HA2 HW2 HK2
    have HS : Hid (∀ u, Kept w5 u → (u.cell? ⟨Y, 0, none⟩ = some (.string r.key) ∧ u.cell? ⟨Y, 1, none⟩ = some (.int .u64 r.s.p) ∧ u.cell? ⟨Y, 2, none⟩ = some (.int .u32 r.s.l) ∧ u.cell? ⟨Y, 3, none⟩ = some (.int .u8 r.s.n) ∧ u.cell? ⟨Y, 4, none⟩ = some (.int .u8 r.kind) ∧ u.cell? ⟨Y, 5, none⟩ = some (.int .u32 r.flags) ∧ u.cell? ⟨Y, 6, none⟩ = some (.int .u64 r.exp) ∧ u.cell? ⟨Y, 7, none⟩ = some (.string r.body))) := hid (fun u ku => at_cells8' (at_kept HA3.out ku))
    have HQ : Hid (∀ u, Kept w5 u → u.cell? ⟨X, 4 + k * 3, none⟩ = some (.int .u64 (fl k).p) ∧ u.cell? ⟨X, 4 + k * 3 + 1, none⟩ = some (.int .u32 (fl k).l) ∧ u.cell? ⟨X, 4 + k * 3 + 2, none⟩ = some (.int .u8 (fl k).n)) := hid (fun u ku => sm_floor (sm_kept HW3.out ku) HK64.out)
    have HF : Hid (∀ u, Kept w5 u → ∀ j, u.frozen? ⟨X, j, none⟩ = false) := hid (fun u ku => (sm_cells (sm_kept HW3.out ku)).2)
    have HZ : Hid (∀ u, Kept w5 u → ((((u.setCell ⟨X, 4 + k * 3, none⟩ (.int .u64 r.s.p)).setCell ⟨X, 4 + k * 3 + 1, none⟩ (.int .u32 r.s.l)).setCell ⟨X, 4 + k * 3 + 2, none⟩ (.int .u8 r.s.n)).cell? ⟨Y, 0, none⟩ = some (.string r.key) ∧ (((u.setCell ⟨X, 4 + k * 3, none⟩ (.int .u64 r.s.p)).setCell ⟨X, 4 + k * 3 + 1, none⟩ (.int .u32 r.s.l)).setCell ⟨X, 4 + k * 3 + 2, none⟩ (.int .u8 r.s.n)).cell? ⟨Y, 1, none⟩ = some (.int .u64 r.s.p) ∧ (((u.setCell ⟨X, 4 + k * 3, none⟩ (.int .u64 r.s.p)).setCell ⟨X, 4 + k * 3 + 1, none⟩ (.int .u32 r.s.l)).setCell ⟨X, 4 + k * 3 + 2, none⟩ (.int .u8 r.s.n)).cell? ⟨Y, 2, none⟩ = some (.int .u32 r.s.l) ∧ (((u.setCell ⟨X, 4 + k * 3, none⟩ (.int .u64 r.s.p)).setCell ⟨X, 4 + k * 3 + 1, none⟩ (.int .u32 r.s.l)).setCell ⟨X, 4 + k * 3 + 2, none⟩ (.int .u8 r.s.n)).cell? ⟨Y, 3, none⟩ = some (.int .u8 r.s.n) ∧ (((u.setCell ⟨X, 4 + k * 3, none⟩ (.int .u64 r.s.p)).setCell ⟨X, 4 + k * 3 + 1, none⟩ (.int .u32 r.s.l)).setCell ⟨X, 4 + k * 3 + 2, none⟩ (.int .u8 r.s.n)).cell? ⟨Y, 4, none⟩ = some (.int .u8 r.kind) ∧ (((u.setCell ⟨X, 4 + k * 3, none⟩ (.int .u64 r.s.p)).setCell ⟨X, 4 + k * 3 + 1, none⟩ (.int .u32 r.s.l)).setCell ⟨X, 4 + k * 3 + 2, none⟩ (.int .u8 r.s.n)).cell? ⟨Y, 5, none⟩ = some (.int .u32 r.flags) ∧ (((u.setCell ⟨X, 4 + k * 3, none⟩ (.int .u64 r.s.p)).setCell ⟨X, 4 + k * 3 + 1, none⟩ (.int .u32 r.s.l)).setCell ⟨X, 4 + k * 3 + 2, none⟩ (.int .u8 r.s.n)).cell? ⟨Y, 6, none⟩ = some (.int .u64 r.exp) ∧ (((u.setCell ⟨X, 4 + k * 3, none⟩ (.int .u64 r.s.p)).setCell ⟨X, 4 + k * 3 + 1, none⟩ (.int .u32 r.s.l)).setCell ⟨X, 4 + k * 3 + 2, none⟩ (.int .u8 r.s.n)).cell? ⟨Y, 7, none⟩ = some (.string r.body))) := hid (fun u ku => at_cells8' (at_other (at_other (at_other (at_kept HA3.out ku) (fun e => HY.out (by rw [e]; exact HW3.out.fX)) _ _) (fun e => HY.out (by rw [e]; exact HW3.out.fX)) _ _) (fun e => HY.out (by rw [e]; exact HW3.out.fX)) _ _))
    have k0 : Kept w5 w5.drew := kept_refl w5
    go_wp2_with fail
    refine wp_region_noPanic ?_
    refine wp_region_held_drew (S := (fun w' => (w'.cell? ⟨Y, 0, none⟩ = some (.string r.key) ∧ w'.cell? ⟨Y, 1, none⟩ = some (.int .u64 r.s.p) ∧ w'.cell? ⟨Y, 2, none⟩ = some (.int .u32 r.s.l) ∧ w'.cell? ⟨Y, 3, none⟩ = some (.int .u8 r.s.n) ∧ w'.cell? ⟨Y, 4, none⟩ = some (.int .u8 r.kind) ∧ w'.cell? ⟨Y, 5, none⟩ = some (.int .u32 r.flags) ∧ w'.cell? ⟨Y, 6, none⟩ = some (.int .u64 r.exp) ∧ w'.cell? ⟨Y, 7, none⟩ = some (.string r.body)))) (by kernel_rfl) (by first | exact HS.out _ k0 | assumption) (fun hHeld => ?_)
    generalize w5.drew = w6 at *
    refine wpAnyH_take (i := 0) (v := .pointer (some ⟨X, 0, none⟩)) rfl (by kernel_rfl) (by kernel_rfl) (by kernel_rfl) (fun _ _ _ h => h) (Or.inl ⟨by rfl, fun w hSw => by (try dsimp only at hSw); go_simp⟩) (by assumption) ?_
    refine wpAnyH_take (i := 1) (v := .int .i64 (k : Int)) rfl (by kernel_rfl) (by kernel_rfl) (by kernel_rfl) (fun _ _ _ h => h) (Or.inl ⟨by rfl, fun w hSw => by (try dsimp only at hSw); go_simp⟩) (by assumption) ?_
    refine wpAnyH_take (i := 2) (v := .pointer (some ⟨Y, 1, none⟩)) rfl (by kernel_rfl) (by kernel_rfl) (by kernel_rfl) (fun _ _ _ h => h) (Or.inl ⟨by rfl, fun w hSw => by (try dsimp only at hSw); go_simp⟩) (by assumption) ?_
    refine wpAnyH_take (i := 3) (v := .agg #[.int .u64 r.s.p, .int .u32 r.s.l, .int .u8 r.s.n]) rfl (by kernel_rfl) (by kernel_rfl) (by kernel_rfl) (fun _ _ _ h => h) (Or.inl ⟨by rfl, fun w hSw => by (try dsimp only at hSw); go_simp⟩) (by assumption) ?_
    refine wpAnyH_take (i := 4) (v := .pointer (some ⟨X, 0, none⟩)) rfl (by kernel_rfl) (by kernel_rfl) (by kernel_rfl) (fun _ _ _ h => h) (Or.inl ⟨by rfl, fun w hSw => by (try dsimp only at hSw); go_simp⟩) (by assumption) ?_
    refine wpAnyH_take (i := 5) (v := .pointer (some ⟨X, 4, none⟩)) rfl (by kernel_rfl) (by kernel_rfl) (by kernel_rfl) (fun _ _ _ h => h) (Or.inl ⟨by rfl, fun w hSw => by (try dsimp only at hSw); go_simp⟩) (by assumption) ?_
    refine wpAnyH_take (i := 6) (v := .pointer (some ⟨X, 4 + k * 3, none⟩)) rfl (by kernel_rfl) (by kernel_rfl) (by kernel_rfl) (fun _ _ _ h => h) (Or.inl ⟨by rfl, fun w hSw => by (try dsimp only at hSw); go_simp⟩) (by assumption) ?_
    try simp only [List.getElem_toArray, List.getElem_cons_zero, List.getElem_cons_succ, Act.put, List.setIfInBounds_toArray, List.set_cons_zero, List.set_cons_succ]
    refine wpAnyH_ready (rs := [7]) (by kernel_rfl) (by simp) ?_
    refine AllReadyH.cons (i := 7) rfl (fun K hK => ?_) AllReadyH.nil
    obtain ⟨q0, q1, q2⟩ := HQ.out _ k0
    have fD := HF.out _ k0
    go_simp
    have hS := HZ.out _ k0
    clear hHeld
    show K _ _
    refine hK.out _ _ (by first | exact HS.out _ k0 | assumption) (fun hHeld => ?_)
    clear hK K
    try simp only [List.getElem_toArray, List.getElem_cons_zero, List.getElem_cons_succ, Act.put, List.setIfInBounds_toArray, List.set_cons_zero, List.set_cons_succ]
    refine wpAnyH_done (by kernel_rfl) ?_ _
    refine NoPanic.normal ?_
    clear hHeld hS q0 q1 q2 fD
    have HI : Hid (StI (((w6.setCell ⟨X, 4 + k * 3, none⟩ (.int .u64 r.s.p)).setCell ⟨X, 4 + k * 3 + 1, none⟩ (.int .u32 r.s.l)).setCell ⟨X, 4 + k * 3 + 2, none⟩ (.int .u8 r.s.n)) F X c pl (l ++ [i]) (raise fl (pl i)) ev (fun _ => False)) := hid ⟨f, M, a, by rw [HEq.out]; exact sm_fl (sm_kept HW3.out k0) HK64.out r.s, HCo.out⟩
    have HT : Hid (Tn F w (((w6.setCell ⟨X, 4 + k * 3, none⟩ (.int .u64 r.s.p)).setCell ⟨X, 4 + k * 3 + 1, none⟩ (.int .u32 r.s.l)).setCell ⟨X, 4 + k * 3 + 2, none⟩ (.int .u8 r.s.n))) := hid (tn_set (tn_set (tn_set (tn_kept (kept_trans HK3.out k0)) (.inl HW3.out.fX) _ _) (.inl HW3.out.fX) _ _) (.inl HW3.out.fX) _ _)
    clear k0 HS HQ HF HZ HA3 HW3 HK3 HEq hidx HKq HR
    go_wp2_with fail
    refine (takeOut_any (pend' := fun _ => False) hc i hil hl (fun _ _ => Iff.rfl) _ HI.out).mono ?_
    rintro e w9 ⟨rfl, t9, i9⟩
    have HT9 := hid (tn_trans HT.out t9)
    have HI9 := hid i9
    clear HI HT t9 i9
    obtain ⟨f9, M9, a9, hw9, hc9⟩ := HI9.out
    have c8 := (sm_cells hw9).1.2.2.2.2.2.2.2
    have fz := (sm_cells hw9).2
    have HZ9 := hid (HEnd.out _ (tn_set HT9.out (.inl hw9.fX) 263 (.int .i64 ((ev + 1 : Nat) : Int))) ⟨f9, M9, a9, sm_ev hw9 (ev + 1), hc9⟩)
    have hee : ((ev : Int) + 1) = ((ev + 1 : Nat) : Int) := by omega
    have hwr : IntKind.i64.wrap ((ev : Int) + 1) = (ev : Int) + 1 := by rw [IntKind.wrap_i64]; omega
    rw [← hee] at HZ9
    clear hw9 hc9 HI9 HT9 HEnd hee
    go_wp2_with fail
    exact bodyPost_end (v := .tuple #[]) (by kernel_rfl) rfl ⟨rfl, HZ9.out.2⟩
  · have hdec : decide (cmp q r.s < 0) = false := decide_eq_false hlt
    have HEq : Hid (raise fl (pl i) = fl) := hid (by
      rw [HR.out]
      have h1 := HKq.out.1
      have h2 := HKq.out.2
      rw [← h1] at h2
      exact raise_no (by rw [h2]; exact hlt))
    have k0 : Kept w3 w3.drew := kept_refl w3
    clear hlt
    go_wp2_with fail
    refine wp_region_noPanic ?_
    refine wp_region_held_drew (S := (fun w' => (w'.cell? ⟨X, 4 + k * 3, none⟩ = some (.int .u64 q.p) ∧ w'.cell? ⟨X, 4 + k * 3 + 1, none⟩ = some (.int .u32 q.l) ∧ w'.cell? ⟨X, 4 + k * 3 + 2, none⟩ = some (.int .u8 q.n)) ∧ (w'.cell? ⟨Y, 0, none⟩ = some (.string r.key) ∧ w'.cell? ⟨Y, 1, none⟩ = some (.int .u64 r.s.p) ∧ w'.cell? ⟨Y, 2, none⟩ = some (.int .u32 r.s.l) ∧ w'.cell? ⟨Y, 3, none⟩ = some (.int .u8 r.s.n) ∧ w'.cell? ⟨Y, 4, none⟩ = some (.int .u8 r.kind) ∧ w'.cell? ⟨Y, 5, none⟩ = some (.int .u32 r.flags) ∧ w'.cell? ⟨Y, 6, none⟩ = some (.int .u64 r.exp) ∧ w'.cell? ⟨Y, 7, none⟩ = some (.string r.body)))) (by kernel_rfl) (HS.out _ k0) (fun hHeld => ?_)
    refine wpAnyH_take (i := 0) (v := .pointer (some ⟨X, 0, none⟩)) rfl (by kernel_rfl) (by kernel_rfl) (by kernel_rfl) (fun _ _ _ h => h) (Or.inl ⟨by rfl, fun w hSw => by (try dsimp only at hSw); go_simp⟩) (by assumption) ?_
    refine wpAnyH_take (i := 1) (v := .int .i64 (k : Int)) rfl (by kernel_rfl) (by kernel_rfl) (by kernel_rfl) (fun _ _ _ h => h) (Or.inl ⟨by rfl, fun w hSw => by (try dsimp only at hSw); go_simp⟩) (by assumption) ?_
    refine wpAnyH_take (i := 2) (v := .pointer (some ⟨X, 0, none⟩)) rfl (by kernel_rfl) (by kernel_rfl) (by kernel_rfl) (fun _ _ _ h => h) (Or.inl ⟨by rfl, fun w hSw => by (try dsimp only at hSw); go_simp⟩) (by assumption) ?_
    refine wpAnyH_take (i := 3) (v := .pointer (some ⟨X, 4, none⟩)) rfl (by kernel_rfl) (by kernel_rfl) (by kernel_rfl) (fun _ _ _ h => h) (Or.inl ⟨by rfl, fun w hSw => by (try dsimp only at hSw); go_simp⟩) (by assumption) ?_
    refine wpAnyH_take (i := 4) (v := .pointer (some ⟨X, 4 + k * 3, none⟩)) rfl (by kernel_rfl) (by kernel_rfl) (by kernel_rfl) (fun _ _ _ h => h) (Or.inl ⟨by rfl, fun w hSw => by (try dsimp only at hSw); go_simp⟩) (by assumption) ?_
    refine wpAnyH_take (i := 5) (v := .agg #[.int .u64 q.p, .int .u32 q.l, .int .u8 q.n]) rfl (by kernel_rfl) (by kernel_rfl) (by kernel_rfl) (fun _ _ _ h => h) (Or.inl ⟨by rfl, fun w hSw => by (try dsimp only at hSw); go_simp⟩) (by assumption) ?_
    refine wpAnyH_take (i := 6) (v := .pointer (some ⟨Y, 1, none⟩)) rfl (by kernel_rfl) (by kernel_rfl) (by kernel_rfl) (fun _ _ _ h => h) (Or.inl ⟨by rfl, fun w hSw => by (try dsimp only at hSw); go_simp⟩) (by assumption) ?_
    refine wpAnyH_take (i := 7) (v := .agg #[.int .u64 r.s.p, .int .u32 r.s.l, .int .u8 r.s.n]) rfl (by kernel_rfl) (by kernel_rfl) (by kernel_rfl) (fun _ _ _ h => h) (Or.inl ⟨by rfl, fun w hSw => by (try dsimp only at hSw); go_simp⟩) (by assumption) ?_
    try simp only [List.getElem_toArray, List.getElem_cons_zero, List.getElem_cons_succ, Act.put, List.setIfInBounds_toArray, List.set_cons_zero, List.set_cons_succ]
    refine wpAnyH_ready (rs := [8]) (by kernel_rfl) (by simp) ?_
    refine AllReadyH.cons (i := 8) rfl (fun K hK => ?_) AllReadyH.nil
    go_simp
    refine (compare_any q r.s _).mono ?_
    rintro e w5 ⟨rfl, h3⟩
    replace k0 := kept_trans k0 h3
    clear h3
    clear hHeld
    show K _ _
    refine hK.out _ _ (HS.out _ k0) (fun hHeld => ?_)
    clear hK K
    refine wpAnyH_take (i := 9) (v := .bool (decide (cmp q r.s < 0))) rfl (by kernel_rfl) (by kernel_rfl) (by kernel_rfl) (fun _ _ _ h => h) (Or.inl ⟨by rfl, fun w hSw => by (try dsimp only at hSw); go_simp⟩) (by assumption) ?_
    try simp only [List.getElem_toArray, List.getElem_cons_zero, List.getElem_cons_succ, Act.put, List.setIfInBounds_toArray, List.set_cons_zero, List.set_cons_succ]
    refine wpAnyH_done (by kernel_rfl) ?_ _
    refine NoPanic.normal ?_
    clear hHeld
    rw [hdec]
    have HI : Hid (StI w5 F X c pl (l ++ [i]) (raise fl (pl i)) ev (fun _ => False)) := hid ⟨f, M, a, by rw [HEq.out]; exact sm_kept HW2.out k0, HCo.out⟩
    have HT : Hid (Tn F w w5) := hid (tn_kept (kept_trans HK2.out k0))
    clear k0 HS HA2 HW2 HK2 HEq hidx HKq HR
    go_wp2_with fail
    refine (takeOut_any (pend' := fun _ => False) hc i hil hl (fun _ _ => Iff.rfl) _ HI.out).mono ?_
    rintro e w9 ⟨rfl, t9, i9⟩
    have HT9 := hid (tn_trans HT.out t9)
    have HI9 := hid i9
    clear HI HT t9 i9
    obtain ⟨f9, M9, a9, hw9, hc9⟩ := HI9.out
    have c8 := (sm_cells hw9).1.2.2.2.2.2.2.2
    have fz := (sm_cells hw9).2
    have HZ9 := hid (HEnd.out _ (tn_set HT9.out (.inl hw9.fX) 263 (.int .i64 ((ev + 1 : Nat) : Int))) ⟨f9, M9, a9, sm_ev hw9 (ev + 1), hc9⟩)
    have hee : ((ev : Int) + 1) = ((ev + 1 : Nat) : Int) := by omega
    have hwr : IntKind.i64.wrap ((ev : Int) + 1) = (ev : Int) + 1 := by rw [IntKind.wrap_i64]; omega
    rw [← hee] at HZ9
    clear hw9 hc9 HI9 HT9 HEnd hee
    go_wp2_with fail
    exact bodyPost_end (v := .tuple #[]) (by kernel_rfl) rfl ⟨rfl, HZ9.out.2⟩
/- How many were evicted, as memory has it. -/
def evOf (X : Nat) (w : World) : Nat := match w.cell? ⟨X, 263, none⟩ with
  | some (.int _ v) => v.toNat
  | _ => 0
theorem evOf_is {F : Nat → Prop} {X : Nat} {c : Cf} {pl : Nat → R} {l : List Nat} {fl : Nat → Stp} {ev : Nat} {pend : Nat → Prop} {w : World} (h : StI w F X c pl l fl ev pend) : evOf X w = ev := by
  obtain ⟨f, M, a, hm, _⟩ := h
  unfold evOf
  rw [(sm_cells hm).1.2.2.2.2.2.2.2]
  simp
def RoomC (F : Nat → Prop) (X : Nat) (c : Cf) (s : MS) (l : List Nat) (pl : Nat → R) (w : World) (e : Ending) (w' : World) : Prop :=
  e = .returned (.tuple #[]) ∧ Tn F w w' ∧ ∃ pl' l', StI w' F X c pl' l' s.fl s.ev (fun _ => False) ∧ s.L = l'.map pl' ∧ ¬ over c 0 [] ∧ (∃ t, l = l' ++ t) ∧ ∀ j ∈ l', pl' j = pl j
set_option maxHeartbeats 3200000 in
theorem room_any {F : Nat → Prop} {X : Nat} {c : Cf} {pl : Nat → R} {l : List Nat} {fl : Nat → Stp} {ev : Nat} (hc : c.may) (b : Nat) (hb : b ≤ c.B) (hl : l.length ≤ 500) (hev : ev ≤ 900000000) (w : World) (h : StI w F X c pl l fl ev (fun _ => False)) :
    Calls Tryz.prog 43 #[.pointer (some ⟨X, 0, none⟩), .int .i64 (b : Int)] w (RoomC F X c (room c b ⟨l.map pl, fl, ev⟩) l pl w) := by
  have hn4 : c.n ≤ 1024 := hc.2.1
  have hn1 : 1 ≤ c.n := hc.1
  have hB4 : c.B ≤ 1048576 := hc.2.2.2.1
  have HI0 := hid h
  clear h
  go_enter Tryz.func43, Tryz.ntmps43
  go_wp2_with fail
  go_loopw [4] (fun s wr => True ∧ ∃ (pl' : Nat → R) (l' : List Nat) (fl' : Nat → Stp) (ev' : Nat), Hid (StI wr F X c pl' l' fl' ev' (fun _ => False)) ∧ Hid (Tn F w wr) ∧ Hid (room c b ⟨l'.map pl', fl', ev'⟩ = room c b ⟨l.map pl, fl, ev⟩ ∧ (∃ t, l = l' ++ t) ∧ (∀ j ∈ l', pl' j = pl j) ∧ ev' + l'.length = ev + l.length)) (fun _ wr => ev + l.length - evOf X wr)
  case atStart => exact ⟨trivial, pl, l, fl, ev, HI0, hid tn_refl, hid ⟨rfl, ⟨[], by simp⟩, fun _ _ => rfl, rfl⟩⟩
  case round =>
    obtain ⟨-, pl', l', fl', ev', HI, HT, HP⟩ := hrel
    clear HI0
    have hll : l'.length ≤ l.length := by
      obtain ⟨_, ⟨t, ht⟩, _, _⟩ := HP.out
      rw [ht]; simp
    have hsb : sizeL (l'.map pl') ≤ 1000000 := by
      obtain ⟨f, M, a, hm, hco⟩ := HI.out
      have := size_bound (l'.map pl') (fun r hr => by
        obtain ⟨j, hj, rfl⟩ := List.mem_map.1 hr
        exact hco.may j hj)
      simp at this
      omega
    have hev' := evOf_is HI.out
    obtain ⟨f, M, a, hm, hco⟩ := HI.out
    obtain ⟨⟨c0, _, _, _, c4, c5, _, _⟩, _⟩ := sm_cells hm
    have hlen : ∀ u, StI u F X c pl' l' fl' ev' (fun _ => False) → Calls Tryz.prog 22 #[.pointer (some ⟨X, 0, none⟩)] u fun e w' => e = .returned (.int .i64 (l'.length : Int)) ∧ w' = u := fun u hu => by
      obtain ⟨_, _, _, h1, _⟩ := hu
      exact slen_any u h1
    have HOv : Hid (over c b (l'.map pl') ↔ (c.n = l'.length ∨ c.B < sizeL (l'.map pl') + b)) := hid (by
      unfold over
      have h1 : l'.length ≤ c.n := Lru.good_len hm.lst
      simp only [List.length_map]
      omega)
    have hgo : over c b (l'.map pl') → ∃ l2 i, l' = l2 ++ [i] := fun ho => by
      have hne : l' ≠ [] := by rintro rfl; exact over_none hc hb ho
      exact ⟨l'.dropLast, l'.getLast hne, (List.dropLast_concat_getLast hne).symm⟩
    clear hm hco
    obtain ⟨ln, hln⟩ : ∃ ln, l'.length = ln := ⟨_, rfl⟩
    rw [hln] at hll HOv
    simp only [hln] at hlen
    have HLn := hid hln
    clear hln
    by_cases ht1 : ln = c.n
    · have hb1 : ((ln : Int) == (c.n : Int)) = true := by simp; omega
      have HO : Hid (over c b (l'.map pl')) := hid (HOv.out.2 (.inl ht1.symm))
      clear ht1
      obtain ⟨l2, i, rfl⟩ := hgo HO.out
      have HN : Hid (room c b ⟨(l2.map pl'), raise fl' (pl' i), ev' + 1⟩ = room c b ⟨l.map pl, fl, ev⟩ ∧ (∃ t, l = l2 ++ t) ∧ (∀ j ∈ l2, pl' j = pl j) ∧ ev' + 1 + l2.length = ev + l.length) := hid (by
        obtain ⟨h1, ⟨t, ht⟩, h3, h4⟩ := HP.out
        refine ⟨?_, ⟨i :: t, by simpa using ht⟩, fun j hj => h3 j (List.mem_append_left _ hj), by simp at h4; omega⟩
        rw [← h1]
        have ho := HO.out
        rw [List.map_append] at ho ⊢
        exact (room_on ho).symm)
      have HM2 : Hid (∀ w2, evOf X w2 = ev' + 1 → ev + l.length - evOf X w2 < ev + l.length - evOf X wr) := hid (fun w2 h2 => by
        have := HP.out.2.2.2
        simp at this
        rw [h2, hev']
        omega)
      have hni : i ∉ l2 := fun hx => by
        obtain ⟨f, M, a, hm, hco⟩ := HI.out
        exact (List.nodup_append.1 hco.once).2.2 i hx i (by simp) rfl
      have HUp : Hid (∀ j ∈ l2, updR pl' i zeroR j = pl' j) := hid (fun j hj => updR_ne pl' zeroR (fun e : j = i => hni (by rw [← e]; exact hj)))
      clear HP HO hni hgo HOv hsb hev'
      go_wp2_with fail
      go_quiet ((go_at_call 22; exact Calls.quiet_of_same (hlen _ (sti_kept HI.out (kept_drewN (kept_refl wr) _)))))
      have HId := hid (sti_kept HI.out (kept_drewN (kept_refl wr) nq))
      go_wp2_with fail
      refine (evict_any hc (by have := HLn.out; omega) (by have := HN.out.2.2.2; omega) _ HId.out).mono ?_
      rintro e w2 ⟨rfl, t2, i2⟩
      have HT2 := hid (tn_trans HT.out t2)
      have HI2 := hid i2
      have HE2 := hid (evOf_is i2)
      clear HI HId HT t2 i2 c0 c4 c5 hlen
      go_wp2_with fail
      go_roundw
      case rel => exact ⟨trivial, updR pl' i zeroR, l2, raise fl' (pl' i), ev' + 1, HI2, HT2, hid ⟨by rw [List.map_congr_left HUp.out]; exact HN.out.1, HN.out.2.1, fun j hj => by rw [HUp.out j hj]; exact HN.out.2.2.1 j hj, HN.out.2.2.2⟩⟩
      case measure => exact HM2.out _ HE2.out
    · have hb1 : ((ln : Int) == (c.n : Int)) = false := by simp; omega
      by_cases ht2 : c.B < sizeL (l'.map pl') + b
      · have hb2 : (c.B : Int) < (sizeL (l'.map pl') : Int) + (b : Int) := by omega
        have HO : Hid (over c b (l'.map pl')) := hid (HOv.out.2 (.inr ht2))
        have hsb2 : (sizeL (l'.map pl') : Int) ≤ 1000000 := by omega
        clear ht1 ht2
        obtain ⟨l2, i, rfl⟩ := hgo HO.out
        have HN : Hid (room c b ⟨(l2.map pl'), raise fl' (pl' i), ev' + 1⟩ = room c b ⟨l.map pl, fl, ev⟩ ∧ (∃ t, l = l2 ++ t) ∧ (∀ j ∈ l2, pl' j = pl j) ∧ ev' + 1 + l2.length = ev + l.length) := hid (by
          obtain ⟨h1, ⟨t, ht⟩, h3, h4⟩ := HP.out
          refine ⟨?_, ⟨i :: t, by simpa using ht⟩, fun j hj => h3 j (List.mem_append_left _ hj), by simp at h4; omega⟩
          rw [← h1]
          have ho := HO.out
          rw [List.map_append] at ho ⊢
          exact (room_on ho).symm)
        have HM2 : Hid (∀ w2, evOf X w2 = ev' + 1 → ev + l.length - evOf X w2 < ev + l.length - evOf X wr) := hid (fun w2 h2 => by
          have := HP.out.2.2.2
          simp at this
          rw [h2, hev']
          omega)
        have hni : i ∉ l2 := fun hx => by
          obtain ⟨f, M, a, hm, hco⟩ := HI.out
          exact (List.nodup_append.1 hco.once).2.2 i hx i (by simp) rfl
        have HUp : Hid (∀ j ∈ l2, updR pl' i zeroR j = pl' j) := hid (fun j hj => updR_ne pl' zeroR (fun e : j = i => hni (by rw [← e]; exact hj)))
        clear HP HO hni hgo HOv hsb hev'
        generalize sizeL ((l2 ++ [i]).map pl') = sz at *
        go_wp2_with fail
        go_quiet ((go_at_call 22; exact Calls.quiet_of_same (hlen _ (sti_kept HI.out (kept_drewN (kept_refl wr) _)))))
        have HId := hid (sti_kept HI.out (kept_drewN (kept_refl wr) nq))
        go_wp2_with fail
        refine (evict_any hc (by have := HLn.out; omega) (by have := HN.out.2.2.2; omega) _ HId.out).mono ?_
        rintro e w2 ⟨rfl, t2, i2⟩
        have HT2 := hid (tn_trans HT.out t2)
        have HI2 := hid i2
        have HE2 := hid (evOf_is i2)
        clear HI HId HT t2 i2 c0 c4 c5 hlen
        go_wp2_with fail
        go_roundw
        case rel => exact ⟨trivial, updR pl' i zeroR, l2, raise fl' (pl' i), ev' + 1, HI2, HT2, hid ⟨by rw [List.map_congr_left HUp.out]; exact HN.out.1, HN.out.2.1, fun j hj => by rw [HUp.out j hj]; exact HN.out.2.2.1 j hj, HN.out.2.2.2⟩⟩
        case measure => exact HM2.out _ HE2.out
      · have hb2 : decide ((c.B : Int) < (sizeL (l'.map pl') : Int) + (b : Int)) = false := by simp; omega
        have hsb2 : (sizeL (l'.map pl') : Int) ≤ 1000000 := by omega
        have HNo : Hid (room c b ⟨l'.map pl', fl', ev'⟩ = ⟨l'.map pl', fl', ev'⟩) := hid (room_stop (fun ho => by
          rcases HOv.out.1 ho with h | h
          · exact ht1 h.symm
          · exact ht2 h))
        have HZ : Hid (∀ u, Kept wr u → RoomC F X c (room c b ⟨l.map pl, fl, ev⟩) l pl w (.returned (.tuple #[])) u) := hid (fun u ku => ⟨rfl, tn_trans HT.out (tn_kept ku), pl', l', by rw [← HP.out.1, HNo.out]; exact sti_kept HI.out ku, by rw [← HP.out.1, HNo.out], over_none hc (Nat.zero_le _), HP.out.2.1, HP.out.2.2.1⟩)
        clear ht1 ht2 HNo HOv hgo HP hsb hev' HT
        generalize sizeL (l'.map pl') = sz at *
        go_wp2_with fail
        go_quiet ((go_at_call 22; exact Calls.quiet_of_same (hlen _ (sti_kept HI.out (kept_drewN (kept_refl wr) _)))))
        have HZ2 := hid (HZ.out _ (kept_drewN (kept_refl wr) nq))
        clear HZ HI
        go_wp2_with fail
        exact bodyPost_end (v := .tuple #[]) (by kernel_rfl) rfl HZ2.out
set_option maxHeartbeats 800000 in
theorem free_any {F : Nat → Prop} {X : Nat} {c : Cf} {pl : Nat → R} {l : List Nat} {fl : Nat → Stp} {ev : Nat} {pend : Nat → Prop} (hc : c.may) (hl : l.length < c.n) (w : World) (h : StI w F X c pl l fl ev pend) :
    Calls Tryz.prog 45 #[.pointer (some ⟨X, 0, none⟩)] w fun e w' => ∃ i : Nat, e = .returned (.int .i64 (i : Int)) ∧ i < c.n ∧ i ∉ l ∧ w' = w := by
  obtain ⟨f, M, a, hm, hco⟩ := h
  have hn4 : c.n ≤ 1024 := hc.2.1
  obtain ⟨i0, hi0, hf0⟩ := free_one hl
  have HT : Hid (∀ k, k < c.n → Calls Tryz.prog 55 #[.pointer (some ⟨X, 0, none⟩), .int .i64 (k : Int)] w fun e w' => e = .returned (.bool (decide (k ∈ l))) ∧ w' = w) := hid (fun k hk => by
    have := taken_any k hk hn4 w hm
    have e : decide ((pl k).kind ≠ 0) = decide (k ∈ l) := by
      by_cases hx : k ∈ l
      · rw [decide_eq_true hx, decide_eq_true ((hco.taken k hk).1 hx)]
      · rw [decide_eq_false hx, decide_eq_false (fun g => hx ((hco.taken k hk).2 g))]
    rw [e] at this
    exact this)
  have HF0 := hid hf0
  clear hm hco hf0
  go_enter Tryz.func45, Tryz.ntmps45
  go_wp2_with fail
  go_loop [3] (fun s => ∃ k : Nat, s = .int .i64 (k : Int) ∧ k ≤ i0 ∧ Hid (∀ j, j < k → j ∈ l)) (fun s => i0 - (intOf s).toNat)
  case atStart => exact ⟨0, rfl, Nat.zero_le _, hid (fun j hj => absurd hj (by omega))⟩
  case round =>
    obtain ⟨k, rfl, hk, HK⟩ := hrel
    have hT := HT.out k (by omega)
    by_cases hx : k ∈ l
    · rw [decide_eq_true hx] at hT
      have hne : k ≠ i0 := fun e => HF0.out (e ▸ hx)
      have HK2 : Hid (∀ j, j < k + 1 → j ∈ l) := hid (fun j hj => by
        rcases (show j < k ∨ j = k by omega) with h | h
        · exact HK.out j h
        · rw [h]; exact hx)
      clear hx HK
      go_wp2_with fail
      refine hT.mono ?_
      rintro e w1 ⟨rfl, rfl⟩
      go_wp2_with fail
      go_round
      case rel => exact ⟨k + 1, by go_num, by omega, HK2⟩
      case measure => simp [intOf]; omega
    · rw [decide_eq_false hx] at hT
      have HX := hid hx
      clear hx HK
      go_wp2_with fail
      refine hT.mono ?_
      rintro e w1 ⟨rfl, rfl⟩
      go_wp2_with fail
      go_ret
      exact ⟨k, rfl, by omega, HX.out, rfl⟩
end Go.Proofs.YthgbdaladngpdaaGreat
