/- The library's sort at the program's items, off the shelf; the contracts of compare, and of the sort by it. A row has at most 1000 items. -/
import Derived.Test.YthgbdaladngpdaaGreatWhlWheel
import Derived.Test.YthgbdaladngpdaaGreatLays
import Derived.Shelf.SlSortCmp.NoneTotal
namespace Go.Proofs.YthgbdaladngpdaaGreat.Whl
open Go.ChangeShapes Go.WideShapes Go.ChangeAt Go.RowKit Go.Shelf
set_option linter.unusedVariables false
set_option maxRecDepth 100000
set_option linter.unusedSimpArgs false

def cmpI (a b : Int) : Int := if a < b then -1 else if b < a then 1 else 0
def orI (x y : Int) : Int := if x = 0 then y else x
theorem cmpI_cases (a b : Int) : (a < b ∧ cmpI a b = -1) ∨ (a = b ∧ cmpI a b = 0) ∨ (b < a ∧ cmpI a b = 1) := by
  unfold cmpI
  by_cases h : a < b
  · rw [if_pos h]; exact .inl ⟨h, rfl⟩
  · rw [if_neg h]
    by_cases k : b < a
    · rw [if_pos k]; exact .inr (.inr ⟨k, rfl⟩)
    · rw [if_neg k]; exact .inr (.inl ⟨by omega, rfl⟩)
theorem nanU (a : Int) (w : World) : Calls Tryz.prog 100 #[.int .u64 a] w fun e w' => e = .returned (.bool false) ∧ w' = w := by
  go_enter Tryz.func100, Tryz.ntmps100
  go_wp2
  go_ret
  exact ⟨by simp, rfl⟩
theorem nanS (a : Int) (w : World) : Calls Tryz.prog 134 #[.int .i64 a] w fun e w' => e = .returned (.bool false) ∧ w' = w := by
  go_enter Tryz.func134, Tryz.ntmps134
  go_wp2
  go_ret
  exact ⟨by simp, rfl⟩
theorem cmpU (a b : Int) (w : World) : Calls Tryz.prog 73 #[.int .u64 a, .int .u64 b] w fun e w' => e = .returned (.int .i64 (cmpI a b)) ∧ w' = w := by
  rcases cmpI_cases a b with ⟨h, e⟩ | ⟨h, e⟩ | ⟨h, e⟩
  all_goals
    rw [e]
    clear e
    go_enter Tryz.func73, Tryz.ntmps73
    go_wp2_with (go_at_call 100; refine (nanU _ _).mono ?_; rintro e w' ⟨rfl, rfl⟩)
    go_ret
    exact ⟨rfl, rfl⟩
theorem cmpS (a b : Int) (w : World) : Calls Tryz.prog 109 #[.int .i64 a, .int .i64 b] w fun e w' => e = .returned (.int .i64 (cmpI a b)) ∧ w' = w := by
  rcases cmpI_cases a b with ⟨h, e⟩ | ⟨h, e⟩ | ⟨h, e⟩
  all_goals
    rw [e]
    clear e
    go_enter Tryz.func109, Tryz.ntmps109
    go_wp2_with (go_at_call 134; refine (nanS _ _).mono ?_; rintro e w' ⟨rfl, rfl⟩)
    go_ret
    exact ⟨rfl, rfl⟩
/- The first that isn't 0. -/
def firstI : List Int → Int
  | [] => 0
  | x :: l => orI x (firstI l)
theorem first_drop (l : List Int) (k : Nat) (hk : k < l.length) : firstI (l.drop k) = orI l[k] (firstI (l.drop (k + 1))) := by
  rw [List.drop_eq_getElem_cons hk]; rfl
set_option maxHeartbeats 1600000 in
theorem or_any (l : List Int) (X : Nat) (w : World) (hl : l.length ≤ 5) (hc : ∀ k (hk : k < l.length), w.cell? ⟨X, k, none⟩ = some (.int .i64 l[k])) :
    Calls Tryz.prog 69 #[.slice (some ⟨X, 0, none⟩) l.length l.length] w fun e w' => e = .returned (.int .i64 (firstI l)) ∧ w' = w := by
  have HC : Hid (∀ k (hk : k < l.length), w.cell? ⟨X, k, none⟩ = some (.int .i64 l[k])) := hc
  clear hc
  obtain ⟨n, hn⟩ : ∃ n, n = l.length := ⟨_, rfl⟩
  have HL : Hid (l.length = n) := hn.symm
  rw [← hn] at hl ⊢
  clear hn
  go_enter Tryz.func69, Tryz.ntmps69
  go_wp2
  go_loop [5, 8] (fun i j => ∃ k : Nat, k ≤ n ∧ j = .int .i64 k ∧ Hid (firstI (l.drop k) = firstI l)) (fun _ j => n - (intOf j).toNat)
  case atStart => exact ⟨0, Nat.zero_le _, rfl, rfl⟩
  case round =>
    obtain ⟨k, hk, rfl, HF⟩ := hrel
    by_cases hlt : k < n
    · have hk' : k < l.length := by rw [HL.out]; exact hlt
      have hcell := HC.out k hk'
      have HN := first_drop l k hk'
      rw [HF.out] at HN
      have HN2 : Hid (firstI l = orI l[k] (firstI (l.drop (k + 1)))) := HN
      clear HN
      generalize l[k] = x at *
      by_cases hx : x = 0
      · have hx' : (x != 0) = false := by simpa using hx
        have HR : Hid (firstI (l.drop (k + 1)) = firstI l) := by show _ = _; rw [HN2.out, hx]; rfl
        clear hx
        go_wp2
        go_round
        case rel => exact ⟨k + 1, by omega, by go_num, HR⟩
        case measure => simp [intOf]; omega
      · have hx' : (x != 0) = true := by simpa using hx
        have HR : Hid (x = firstI l) := by show _ = _; rw [HN2.out]; unfold orI; rw [if_neg hx]
        clear hx
        go_wp2
        go_ret
        exact ⟨says_int HR.out, rfl⟩
    · have HR : Hid (0 = firstI l) := by
        show _ = _
        have := HF.out
        rw [List.drop_of_length_le (by rw [HL.out]; omega)] at this
        exact this
      go_wp2
      go_ret
      exact ⟨says_int HR.out, rfl⟩
def cf (x y : It) : Int := orI (cmpI x.1 y.1) (cmpI x.2 y.2)
theorem cf_first (x y : It) : firstI [cmpI x.1 y.1, cmpI x.2 y.2] = cf x y := by
  show orI _ (orI _ 0) = orI _ _
  congr 1
  unfold orI
  split
  · rename_i h; exact h.symm
  · rfl
set_option maxHeartbeats 1600000 in
theorem compare_any (x y : It) (W : World) : Calls Tryz.prog 88 #[.agg #[.int .u64 x.1, .int .i64 x.2], .agg #[.int .u64 y.1, .int .i64 y.2]] W fun e w' => e = .returned (.int .i64 (cf x y)) ∧ ∃ q os, w' = Go.Sort.grow (W.drewN q) os := by
  obtain ⟨c1, hc1⟩ : ∃ c1, cmpI x.1 y.1 = c1 := ⟨_, rfl⟩
  obtain ⟨c2, hc2⟩ : ∃ c2, cmpI x.2 y.2 = c2 := ⟨_, rfl⟩
  have HEnd : Hid (∃ q os, (((W.alloc (.cells #[.int .u64 x.1, .int .i64 x.2] 123)).alloc (.cells #[.int .u64 y.1, .int .i64 y.2] 123)).drew.alloc (.cells #[.int .i64 c1, .int .i64 c2] 3)) = Go.Sort.grow (W.drewN q) os) := hid ⟨1, _, by
    rw [Go.Sort.alloc_eq_grow, Go.Sort.alloc_eq_grow, Go.Sort.alloc_eq_grow, Go.Sort.grow_grow, Go.Sort.drew_grow, Go.Sort.grow_grow]
    rfl⟩
  have HP := hid (at_alloc (at_new W #[.int .u64 x.1, .int .i64 x.2] 123) (.cells #[.int .u64 y.1, .int .i64 y.2] 123))
  have HQ := hid (at_new (W.alloc (.cells #[.int .u64 x.1, .int .i64 x.2] 123)) #[.int .u64 y.1, .int .i64 y.2] 123)
  have e2 : (W.alloc (.cells #[.int .u64 x.1, .int .i64 x.2] 123)).heap.size = W.heap.size + 1 := by simp
  rw [e2] at HQ
  clear e2
  obtain ⟨w1, hw1⟩ : ∃ w1, (W.alloc (.cells #[.int .u64 x.1, .int .i64 x.2] 123)).alloc (.cells #[.int .u64 y.1, .int .i64 y.2] 123) = w1 := ⟨_, rfl⟩
  rw [hw1] at HP HQ HEnd
  obtain ⟨P1, hP1⟩ : ∃ P1, W.heap.size = P1 := ⟨_, rfl⟩
  obtain ⟨P2, hP2⟩ : ∃ P2, P1 + 1 = P2 := ⟨_, rfl⟩
  rw [hP1] at HP HQ
  rw [hP2] at HQ
  have HOr : Hid (Calls Tryz.prog 69 #[.slice (some ⟨w1.drew.heap.size, 0, none⟩) 2 2] (w1.drew.alloc (.cells #[.int .i64 c1, .int .i64 c2] 3)) fun e w' => e = .returned (.int .i64 (cf x y)) ∧ w' = w1.drew.alloc (.cells #[.int .i64 c1, .int .i64 c2] 3)) := hid (by
    have := or_any [c1, c2] w1.drew.heap.size (w1.drew.alloc (.cells #[.int .i64 c1, .int .i64 c2] 3)) (by simp) (fun k hk => by
      have h := at_new w1.drew #[.int .i64 c1, .int .i64 c2] 3
      match k, hk with
      | 0, _ => exact at_cell h 0
      | 1, _ => exact at_cell h 1
      | k + 2, hk => simp at hk; omega)
    rw [← hc1, ← hc2, cf_first, hc1, hc2] at this
    exact this)
  have HSX : Hid ((w1.drew.cell? ⟨P1, 0, none⟩ = some (.int .u64 x.1) ∧ w1.drew.cell? ⟨P1, 1, none⟩ = some (.int .i64 x.2) ∧ w1.drew.cell? ⟨P2, 0, none⟩ = some (.int .u64 y.1) ∧ w1.drew.cell? ⟨P2, 1, none⟩ = some (.int .i64 y.2)) ∧ ((w1.drew.alloc (.cells #[.int .i64 c1, .int .i64 c2] 3)).cell? ⟨P1, 0, none⟩ = some (.int .u64 x.1) ∧ (w1.drew.alloc (.cells #[.int .i64 c1, .int .i64 c2] 3)).cell? ⟨P1, 1, none⟩ = some (.int .i64 x.2) ∧ (w1.drew.alloc (.cells #[.int .i64 c1, .int .i64 c2] 3)).cell? ⟨P2, 0, none⟩ = some (.int .u64 y.1) ∧ (w1.drew.alloc (.cells #[.int .i64 c1, .int .i64 c2] 3)).cell? ⟨P2, 1, none⟩ = some (.int .i64 y.2)) ∧ True) := hid (by
    have a1 := at_alloc (at_drew HP.out) (.cells #[.int .i64 c1, .int .i64 c2] 3)
    have a2 := at_alloc (at_drew HQ.out) (.cells #[.int .i64 c1, .int .i64 c2] 3)
    exact ⟨⟨at_cell HP.out 0, at_cell HP.out 1, at_cell HQ.out 0, at_cell HQ.out 1⟩, ⟨at_cell a1 0, at_cell a1 1, at_cell a2 0, at_cell a2 1⟩, trivial⟩)
  have hS0 : w1.cell? ⟨P1, 0, none⟩ = some (.int .u64 x.1) ∧ w1.cell? ⟨P1, 1, none⟩ = some (.int .i64 x.2) ∧ w1.cell? ⟨P2, 0, none⟩ = some (.int .u64 y.1) ∧ w1.cell? ⟨P2, 1, none⟩ = some (.int .i64 y.2) := HSX.out.1
  clear HP HQ
  go_enter Tryz.func88, Tryz.ntmps88
  go_wp2_with fail
  refine wp_region_noPanic ?_
  refine wp_region_held_drew (S := (fun w' => w'.cell? ⟨P1, 0, none⟩ = some (.int .u64 x.1) ∧ w'.cell? ⟨P1, 1, none⟩ = some (.int .i64 x.2) ∧ w'.cell? ⟨P2, 0, none⟩ = some (.int .u64 y.1) ∧ w'.cell? ⟨P2, 1, none⟩ = some (.int .i64 y.2))) (by kernel_rfl) (by assumption) (fun hHeld => ?_)
  refine wpAnyH_take (i := 0) (v := .pointer (some ⟨P1, 0, none⟩)) rfl (by kernel_rfl) (by kernel_rfl) (by kernel_rfl) (fun _ _ _ h => h) (Or.inl ⟨by rfl, fun w hSw => by (try dsimp only at hSw); go_simp⟩) (by assumption) ?_
  try simp only [List.getElem_toArray, List.getElem_cons_zero, List.getElem_cons_succ, Act.put, List.setIfInBounds_toArray, List.set_cons_zero, List.set_cons_succ]
  refine wpAnyH_take (i := 1) (v := .int .u64 x.1) rfl (by kernel_rfl) (by kernel_rfl) (by kernel_rfl) (fun _ _ _ h => h) (Or.inl ⟨by rfl, fun w hSw => by (try dsimp only at hSw); go_simp⟩) (by assumption) ?_
  try simp only [List.getElem_toArray, List.getElem_cons_zero, List.getElem_cons_succ, Act.put, List.setIfInBounds_toArray, List.set_cons_zero, List.set_cons_succ]
  refine wpAnyH_take (i := 2) (v := .pointer (some ⟨P2, 0, none⟩)) rfl (by kernel_rfl) (by kernel_rfl) (by kernel_rfl) (fun _ _ _ h => h) (Or.inl ⟨by rfl, fun w hSw => by (try dsimp only at hSw); go_simp⟩) (by assumption) ?_
  try simp only [List.getElem_toArray, List.getElem_cons_zero, List.getElem_cons_succ, Act.put, List.setIfInBounds_toArray, List.set_cons_zero, List.set_cons_succ]
  refine wpAnyH_take (i := 3) (v := .int .u64 y.1) rfl (by kernel_rfl) (by kernel_rfl) (by kernel_rfl) (fun _ _ _ h => h) (Or.inl ⟨by rfl, fun w hSw => by (try dsimp only at hSw); go_simp⟩) (by assumption) ?_
  try simp only [List.getElem_toArray, List.getElem_cons_zero, List.getElem_cons_succ, Act.put, List.setIfInBounds_toArray, List.set_cons_zero, List.set_cons_succ]
  refine wpAnyH_take (i := 5) (v := .pointer (some ⟨P1, 1, none⟩)) rfl (by kernel_rfl) (by kernel_rfl) (by kernel_rfl) (fun _ _ _ h => h) (Or.inl ⟨by rfl, fun w hSw => by (try dsimp only at hSw); go_simp⟩) (by assumption) ?_
  try simp only [List.getElem_toArray, List.getElem_cons_zero, List.getElem_cons_succ, Act.put, List.setIfInBounds_toArray, List.set_cons_zero, List.set_cons_succ]
  refine wpAnyH_take (i := 6) (v := .int .i64 x.2) rfl (by kernel_rfl) (by kernel_rfl) (by kernel_rfl) (fun _ _ _ h => h) (Or.inl ⟨by rfl, fun w hSw => by (try dsimp only at hSw); go_simp⟩) (by assumption) ?_
  try simp only [List.getElem_toArray, List.getElem_cons_zero, List.getElem_cons_succ, Act.put, List.setIfInBounds_toArray, List.set_cons_zero, List.set_cons_succ]
  refine wpAnyH_take (i := 7) (v := .pointer (some ⟨P2, 1, none⟩)) rfl (by kernel_rfl) (by kernel_rfl) (by kernel_rfl) (fun _ _ _ h => h) (Or.inl ⟨by rfl, fun w hSw => by (try dsimp only at hSw); go_simp⟩) (by assumption) ?_
  try simp only [List.getElem_toArray, List.getElem_cons_zero, List.getElem_cons_succ, Act.put, List.setIfInBounds_toArray, List.set_cons_zero, List.set_cons_succ]
  refine wpAnyH_take (i := 8) (v := .int .i64 y.2) rfl (by kernel_rfl) (by kernel_rfl) (by kernel_rfl) (fun _ _ _ h => h) (Or.inl ⟨by rfl, fun w hSw => by (try dsimp only at hSw); go_simp⟩) (by assumption) ?_
  try simp only [List.getElem_toArray, List.getElem_cons_zero, List.getElem_cons_succ, Act.put, List.setIfInBounds_toArray, List.set_cons_zero, List.set_cons_succ]
  refine wpAnyH_ready (rs := [4]) (by kernel_rfl) (by simp) ?_
  refine AllReadyH.cons (i := 4) rfl (fun K hK => ?_) AllReadyH.nil
  go_simp
  refine (cmpU x.1 y.1 _).mono ?_
  rintro e1 w3 ⟨rfl, rfl⟩
  have hS := HSX.out.1
  clear hHeld
  show K _ _
  refine hK.out _ _ (by assumption) (fun hHeld => ?_)
  clear hK K
  try simp only [List.getElem_toArray, List.getElem_cons_zero, List.getElem_cons_succ, Act.put, List.setIfInBounds_toArray, List.set_cons_zero, List.set_cons_succ]
  refine wpAnyH_ready (rs := [9]) (by kernel_rfl) (by simp) ?_
  refine AllReadyH.cons (i := 9) rfl (fun K hK => ?_) AllReadyH.nil
  go_simp
  refine (cmpS x.2 y.2 _).mono ?_
  rintro e1 w4 ⟨rfl, rfl⟩
  have hS := HSX.out.1
  clear hHeld
  show K _ _
  refine hK.out _ _ (by assumption) (fun hHeld => ?_)
  clear hK K
  try simp only [List.getElem_toArray, List.getElem_cons_zero, List.getElem_cons_succ, Act.put, List.setIfInBounds_toArray, List.set_cons_zero, List.set_cons_succ]
  refine wpAnyH_ready (rs := [10]) (by kernel_rfl) (by simp) ?_
  refine AllReadyH.cons (i := 10) rfl (fun K hK => ?_) AllReadyH.nil
  go_simp
  have hS := HSX.out.2.1
  clear hHeld
  show K _ _
  refine hK.out _ _ (by assumption) (fun hHeld => ?_)
  clear hK K
  try simp only [List.getElem_toArray, List.getElem_cons_zero, List.getElem_cons_succ, Act.put, List.setIfInBounds_toArray, List.set_cons_zero, List.set_cons_succ]
  refine wpAnyH_ready (rs := [11]) (by kernel_rfl) (by simp) ?_
  refine AllReadyH.cons (i := 11) rfl (fun K hK => ?_) AllReadyH.nil
  go_simp
  refine (HOr.out).mono ?_
  rintro e1 w5 ⟨rfl, rfl⟩
  have hS := HSX.out.2.1
  clear hHeld
  show K _ _
  refine hK.out _ _ (by assumption) (fun hHeld => ?_)
  clear hK K
  try simp only [List.getElem_toArray, List.getElem_cons_zero, List.getElem_cons_succ, Act.put, List.setIfInBounds_toArray, List.set_cons_zero, List.set_cons_succ]
  refine wpAnyH_take (i := 12) (v := .int .i64 (cf x y)) rfl (by kernel_rfl) (by kernel_rfl) (by kernel_rfl) (fun _ _ _ h => h) (Or.inl ⟨by rfl, fun w hSw => by (try dsimp only at hSw); go_simp⟩) (by assumption) ?_
  try simp only [List.getElem_toArray, List.getElem_cons_zero, List.getElem_cons_succ, Act.put, List.setIfInBounds_toArray, List.set_cons_zero, List.set_cons_succ]
  refine wpAnyH_done (by kernel_rfl) ?_ _
  refine NoPanic.normal ?_
  go_wp2_with fail
  go_ret
  exact ⟨rfl, HEnd.out⟩
section
open Go.Shelf Go.RowKit Go.Lib Go.Sort
theorem lt_cf (x y : It) : ltOf cf x y = decide (Lt x y) := by
  unfold ltOf cf orI cmpI Lt
  by_cases h1 : x.1 < y.1
  · simp [h1]
  · by_cases h2 : y.1 < x.1
    · have h3 : ¬ x.1 = y.1 := by omega
      simp [h1, h2, h3]
    · have h3 : x.1 = y.1 := by omega
      by_cases h4 : x.2 < y.2
      · simp [h3, h4]
      · by_cases h5 : y.2 < x.2 <;> simp [h3, h4, h5]
theorem swo_cf : SWO (ltOf cf) where
  irrefl x := by rw [lt_cf]; simp [Lt]
  trans x y z h1 h2 := by rw [lt_cf] at *; simp only [decide_eq_true_eq] at *; exact lt_trans h1 h2
  ntrans x y z h1 h2 := by rw [lt_cf] at *; simp only [decide_eq_false_iff_not] at *; unfold Lt at *; omega
theorem tot_cf (x y : It) (h1 : ltOf cf x y = false) (h2 : ltOf cf y x = false) : x = y := by
  rw [lt_cf] at h1 h2
  simp only [decide_eq_false_iff_not] at h1 h2
  unfold Lt at h1 h2
  have e1 : x.1 = y.1 := by omega
  have e2 : x.2 = y.2 := by omega
  exact Prod.ext e1 e2
def encI (x : It) : List Value := [.int .u64 x.1, .int .i64 x.2]
def srtd (T : List It) : List It := T.mergeSort fun x y => !(ltOf cf) y x
theorem srtd_perm (T : List It) : (srtd T).Perm T := List.mergeSort_perm _ _
theorem srtd_pair (T : List It) : (srtd T).Pairwise (fun a b => Lt a b ∨ a = b) := by
  have h := List.pairwise_mergeSort (le := fun x y => !(ltOf cf) y x) (fun a b c h1 h2 => by
    rw [lt_cf] at *
    simp only [Bool.not_eq_true', decide_eq_false_iff_not] at *
    unfold Lt at *
    omega) (fun a b => by
    rw [lt_cf, lt_cf]
    simp only [Bool.or_eq_true, Bool.not_eq_true', decide_eq_false_iff_not]
    unfold Lt
    omega) T
  refine h.imp (fun {a b} h => ?_)
  rw [lt_cf] at h
  simp only [Bool.not_eq_true', decide_eq_false_iff_not] at h
  unfold Lt at *
  by_cases e1 : a.1 = b.1
  · by_cases e2 : a.2 = b.2
    · exact .inr (Prod.ext e1 e2)
    · exact .inl (by omega)
  · exact .inl (by omega)
/- A row of items that is read. -/
def RdT (w : World) (v : Value) (l : List It) : Prop := ∃ a c, v = .slice a l.length c ∧ (0 < l.length → ∃ q, a = some ⟨q, 0, none⟩ ∧ ∀ i x, l[i]? = some x → w.cell? ⟨q, i * 2, none⟩ = some (.int .u64 x.1) ∧ w.cell? ⟨q, i * 2 + 1, none⟩ = some (.int .i64 x.2))
theorem enc_at (x : It) (c : Nat) (hc : c < 2) : (encI x)[c]! = if c = 0 then .int .u64 x.1 else .int .i64 x.2 := by
  match c, hc with
  | 0, _ => rfl
  | 1, _ => rfl
theorem holds_row {w : World} {q n cap : Nat} {l : List It} (h : Row w (.slice (some ⟨q, 0, none⟩) n cap) l) : HoldsK encI 2 w q 0 l.toArray := by
  intro t ht
  rw [size_flatK] at ht
  rw [get_flatK _ _ _ _ ht]
  have hi : t / 2 < l.length := by simp at ht; omega
  have hx : l[t / 2]? = some l[t / 2] := List.getElem?_eq_getElem hi
  obtain ⟨c0, c1, cf⟩ := row_cells h hx
  have e : l.toArray[t / 2]! = l[t / 2] := by simp [hi]
  rw [e, enc_at _ _ (Nat.mod_lt _ (by omega))]
  refine ⟨?_, cf _⟩
  by_cases h0 : t % 2 = 0
  · rw [if_pos h0]
    rw [show 0 + t = t / 2 * 2 by omega]
    exact c0
  · rw [if_neg h0]
    rw [show 0 + t = t / 2 * 2 + 1 by omega]
    exact c1
theorem sorted_block (w : World) (q n : Nat) (d : Array It) (os : Array Obj) {k : Nat} (hk : k < w.heap.size) (hn : k ≠ q) : (sortWorldK encI 2 w q 0 n d os).heap[k]? = w.heap[k]? := by
  unfold sortWorldK putRowK putRow mapBlock
  rw [heap_grow_old _ _ (by simpa [ahead] using hk)]
  show (w.heap.modify q _)[k]? = _
  rw [Array.getElem?_modify, if_neg (Ne.symm hn)]
/- What the sort leaves. -/
def SortC (T : List It) (v : Value) (w : World) (e : Ending) (w' : World) : Prop :=
  e = .returned (.tuple #[]) ∧ (w'.os = w.os ∧ w'.output = w.output ∧ w.heap.size ≤ w'.heap.size ∧ ∀ k, k < w.heap.size → v.ownBlock ≠ some k → w'.heap[k]? = w.heap[k]?) ∧ RdT w' v (srtd T)
theorem sort_any (T : List It) (hT : T.length ≤ 1000) (v : Value) (w : World) (h : Row w v T) : Calls Tryz.prog 87 #[v, .func (.func 88) #[] #[]] w (SortC T v w) := by
  have hlen : (srtd T).length = T.length := (srtd_perm T).length_eq
  rcases Nat.eq_zero_or_pos T.length with h0 | h0
  · obtain ⟨a, cap, rfl⟩ := row_is h
    rw [h0]
    refine (AnyF.slices_SortFunc_none { layI with } a cap (.func (.func 88) #[] #[]) w).mono ?_
    rintro e w' ⟨rfl, rfl⟩
    exact ⟨rfl, ⟨rfl, rfl, Nat.le_refl _, fun _ _ _ => rfl⟩, a, cap, by rw [hlen, h0], fun hp => by omega⟩
  · obtain ⟨q, cap, rfl, hc, hm⟩ := row_some h h0
    have hq : q < w.heap.size := by
      obtain ⟨cs, hcs⟩ := row_at h (q := q) rfl
      exact at_lt hcs
    have eg : ∀ args w, (callFunc 88 args).run Tryz.prog w = .ok (.enter 88 args) w := enters_of Tryz.func88 (by kernel_rfl) rfl
    have hH := holds_row h
    have hcon := AnyQ.slices_SortFunc_total layI 2 Tryz.isAgg123 Tryz.sizeOf123 encI (fun _ => rfl) (fun x v hv => by
      simp [encI] at hv
      rcases hv with rfl | rfl <;> rfl) cf swo_cf 88 #[] q 0 cap T.toArray w eg (fun _ _ _ _ x y => compare_any x y _) hH hq (by simp; omega) tot_cf
    refine (show Calls Tryz.prog 87 _ _ _ from hcon).mono ?_
    rintro e w' ⟨rfl, n, os, rfl⟩
    refine ⟨rfl, ⟨rfl, rfl, ?_, fun k hk hn => sorted_block w q n _ os hk (fun e => hn (by rw [e]; rfl))⟩, some ⟨q, 0, none⟩, cap, by rw [hlen], fun _ => ⟨q, rfl, fun i x hx => ?_⟩⟩
    · unfold sortWorldK putRowK putRow mapBlock
      rw [size_grow]
      show w.heap.size ≤ (w.heap.modify q _).size + _
      simp
    · have hi := lt_of_some hx
      have h1 : HoldsK encI 2 (sortWorldK encI 2 w q 0 n (T.mergeSort fun x y => !(ltOf cf) y x).toArray os) q 0 (srtd T).toArray :=
        holdsK_grow encI 2 _ _ _ _ _ (by simpa [putRowK, ahead] using hq) (holdsK_putRowK encI 2 _ _ _ T.toArray _ (holdsK_ahead encI 2 _ _ _ _ _ hH) (by simp))
      have h2 := fun c (hc : c < 2) => h1.cell (i := i) (c := c) (by simpa using hi) hc
      have e : (srtd T).toArray[i]! = x := by
        rw [List.getElem?_eq_getElem hi] at hx
        injection hx with hx
        simp [hi, hx]
      have c0 := (h2 0 (by omega))
      have c1 := (h2 1 (by omega))
      rw [e] at c0 c1
      rw [Nat.zero_add] at c0 c1
      exact ⟨c0.1, c1.1⟩
end
end Go.Proofs.YthgbdaladngpdaaGreat.Whl
