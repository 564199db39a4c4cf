/- The library's sort at the program's items, off the shelf; the contracts of compare, and of the sort by it. A row has at most 1000 items. Rows of numbers in memory; the contract of the reference's Same, of two rows with the same numbers. The rows have at most 4096 numbers. The contract of Due: what is due, by times, of one time by ids; the rest stays. A wheel has at most 1000 items. -/
import Derived.Test.YthgbdaladngpdaaGreatM09
import Derived.Shelf.SlSortCmp.NoneTotal
import Derived.Deep.Upon
import Derived.Maps.AppendAt
import Derived.Deep.DeepMust
/- The library's sort at the program's items, off the shelf; the contracts of compare, and of the sort by it. A row has at most 1000 items. -/
namespace Go.Proofs.YthgbdaladngpdaaGreat.Whl
open Go.ChangeShapes Go.WideShapes Go.ChangeAt Go.RowKit Go.Shelf
set_option linter.unusedVariables false
set_option maxRecDepth 100000
set_option linter.unusedSimpArgs false

def cmpI (a b : Int) : Int := if a < b then -1 else if b < a then 1 else 0
def orI (x y : Int) : Int := if x = 0 then y else x
theorem cmpI_cases (a b : Int) : (a < b ∧ cmpI a b = -1) ∨ (a = b ∧ cmpI a b = 0) ∨ (b < a ∧ cmpI a b = 1) := by
  unfold cmpI
  by_cases h : a < b
  · rw [if_pos h]; exact .inl ⟨h, rfl⟩
  · rw [if_neg h]
    by_cases k : b < a
    · rw [if_pos k]; exact .inr (.inr ⟨k, rfl⟩)
    · rw [if_neg k]; exact .inr (.inl ⟨by omega, rfl⟩)
theorem nanU (a : Int) (w : World) : Calls Tryz.prog 100 #[.int .u64 a] w fun e w' => e = .returned (.bool false) ∧ w' = w := by
  go_enter Tryz.func100, Tryz.ntmps100
  go_wp2
  go_ret
  exact ⟨by simp, rfl⟩
theorem nanS (a : Int) (w : World) : Calls Tryz.prog 134 #[.int .i64 a] w fun e w' => e = .returned (.bool false) ∧ w' = w := by
  go_enter Tryz.func134, Tryz.ntmps134
  go_wp2
  go_ret
  exact ⟨by simp, rfl⟩
theorem cmpU (a b : Int) (w : World) : Calls Tryz.prog 73 #[.int .u64 a, .int .u64 b] w fun e w' => e = .returned (.int .i64 (cmpI a b)) ∧ w' = w := by
  rcases cmpI_cases a b with ⟨h, e⟩ | ⟨h, e⟩ | ⟨h, e⟩
  all_goals
    rw [e]
    clear e
    go_enter Tryz.func73, Tryz.ntmps73
    go_wp2_with (go_at_call 100; refine (nanU _ _).mono ?_; rintro e w' ⟨rfl, rfl⟩)
    go_ret
    exact ⟨rfl, rfl⟩
theorem cmpS (a b : Int) (w : World) : Calls Tryz.prog 109 #[.int .i64 a, .int .i64 b] w fun e w' => e = .returned (.int .i64 (cmpI a b)) ∧ w' = w := by
  rcases cmpI_cases a b with ⟨h, e⟩ | ⟨h, e⟩ | ⟨h, e⟩
  all_goals
    rw [e]
    clear e
    go_enter Tryz.func109, Tryz.ntmps109
    go_wp2_with (go_at_call 134; refine (nanS _ _).mono ?_; rintro e w' ⟨rfl, rfl⟩)
    go_ret
    exact ⟨rfl, rfl⟩
/- The first that isn't 0. -/
def firstI : List Int → Int
  | [] => 0
  | x :: l => orI x (firstI l)
theorem first_drop (l : List Int) (k : Nat) (hk : k < l.length) : firstI (l.drop k) = orI l[k] (firstI (l.drop (k + 1))) := by
  rw [List.drop_eq_getElem_cons hk]; rfl
set_option maxHeartbeats 1600000 in
theorem or_any (l : List Int) (X : Nat) (w : World) (hl : l.length ≤ 5) (hc : ∀ k (hk : k < l.length), w.cell? ⟨X, k, none⟩ = some (.int .i64 l[k])) :
    Calls Tryz.prog 69 #[.slice (some ⟨X, 0, none⟩) l.length l.length] w fun e w' => e = .returned (.int .i64 (firstI l)) ∧ w' = w := by
  have HC : Hid (∀ k (hk : k < l.length), w.cell? ⟨X, k, none⟩ = some (.int .i64 l[k])) := hc
  clear hc
  obtain ⟨n, hn⟩ : ∃ n, n = l.length := ⟨_, rfl⟩
  have HL : Hid (l.length = n) := hn.symm
  rw [← hn] at hl ⊢
  clear hn
  go_enter Tryz.func69, Tryz.ntmps69
  go_wp2
  go_loop [5, 8] (fun i j => ∃ k : Nat, k ≤ n ∧ j = .int .i64 k ∧ Hid (firstI (l.drop k) = firstI l)) (fun _ j => n - (intOf j).toNat)
  case atStart => exact ⟨0, Nat.zero_le _, rfl, rfl⟩
  case round =>
    obtain ⟨k, hk, rfl, HF⟩ := hrel
    by_cases hlt : k < n
    · have hk' : k < l.length := by rw [HL.out]; exact hlt
      have hcell := HC.out k hk'
      have HN := first_drop l k hk'
      rw [HF.out] at HN
      have HN2 : Hid (firstI l = orI l[k] (firstI (l.drop (k + 1)))) := HN
      clear HN
      generalize l[k] = x at *
      by_cases hx : x = 0
      · have hx' : (x != 0) = false := by simpa using hx
        have HR : Hid (firstI (l.drop (k + 1)) = firstI l) := by show _ = _; rw [HN2.out, hx]; rfl
        clear hx
        go_wp2
        go_round
        case rel => exact ⟨k + 1, by omega, by go_num, HR⟩
        case measure => simp [intOf]; omega
      · have hx' : (x != 0) = true := by simpa using hx
        have HR : Hid (x = firstI l) := by show _ = _; rw [HN2.out]; unfold orI; rw [if_neg hx]
        clear hx
        go_wp2
        go_ret
        exact ⟨says_int HR.out, rfl⟩
    · have HR : Hid (0 = firstI l) := by
        show _ = _
        have := HF.out
        rw [List.drop_of_length_le (by rw [HL.out]; omega)] at this
        exact this
      go_wp2
      go_ret
      exact ⟨says_int HR.out, rfl⟩
def cf (x y : It) : Int := orI (cmpI x.1 y.1) (cmpI x.2 y.2)
theorem cf_first (x y : It) : firstI [cmpI x.1 y.1, cmpI x.2 y.2] = cf x y := by
  show orI _ (orI _ 0) = orI _ _
  congr 1
  unfold orI
  split
  · rename_i h; exact h.symm
  · rfl
set_option maxHeartbeats 1600000 in
theorem compare_any (x y : It) (W : World) : Calls Tryz.prog 88 #[.agg #[.int .u64 x.1, .int .i64 x.2], .agg #[.int .u64 y.1, .int .i64 y.2]] W fun e w' => e = .returned (.int .i64 (cf x y)) ∧ ∃ q os, w' = Go.Sort.grow (W.drewN q) os := by
  obtain ⟨c1, hc1⟩ : ∃ c1, cmpI x.1 y.1 = c1 := ⟨_, rfl⟩
  obtain ⟨c2, hc2⟩ : ∃ c2, cmpI x.2 y.2 = c2 := ⟨_, rfl⟩
  have HEnd : Hid (∃ q os, (((W.alloc (.cells #[.int .u64 x.1, .int .i64 x.2] 123)).alloc (.cells #[.int .u64 y.1, .int .i64 y.2] 123)).drew.alloc (.cells #[.int .i64 c1, .int .i64 c2] 3)) = Go.Sort.grow (W.drewN q) os) := hid ⟨1, _, by
    rw [Go.Sort.alloc_eq_grow, Go.Sort.alloc_eq_grow, Go.Sort.alloc_eq_grow, Go.Sort.grow_grow, Go.Sort.drew_grow, Go.Sort.grow_grow]
    rfl⟩
  have HP := hid (at_alloc (at_new W #[.int .u64 x.1, .int .i64 x.2] 123) (.cells #[.int .u64 y.1, .int .i64 y.2] 123))
  have HQ := hid (at_new (W.alloc (.cells #[.int .u64 x.1, .int .i64 x.2] 123)) #[.int .u64 y.1, .int .i64 y.2] 123)
  have e2 : (W.alloc (.cells #[.int .u64 x.1, .int .i64 x.2] 123)).heap.size = W.heap.size + 1 := by simp
  rw [e2] at HQ
  clear e2
  obtain ⟨w1, hw1⟩ : ∃ w1, (W.alloc (.cells #[.int .u64 x.1, .int .i64 x.2] 123)).alloc (.cells #[.int .u64 y.1, .int .i64 y.2] 123) = w1 := ⟨_, rfl⟩
  rw [hw1] at HP HQ HEnd
  obtain ⟨P1, hP1⟩ : ∃ P1, W.heap.size = P1 := ⟨_, rfl⟩
  obtain ⟨P2, hP2⟩ : ∃ P2, P1 + 1 = P2 := ⟨_, rfl⟩
  rw [hP1] at HP HQ
  rw [hP2] at HQ
  have HOr : Hid (Calls Tryz.prog 69 #[.slice (some ⟨w1.drew.heap.size, 0, none⟩) 2 2] (w1.drew.alloc (.cells #[.int .i64 c1, .int .i64 c2] 3)) fun e w' => e = .returned (.int .i64 (cf x y)) ∧ w' = w1.drew.alloc (.cells #[.int .i64 c1, .int .i64 c2] 3)) := hid (by
    have := or_any [c1, c2] w1.drew.heap.size (w1.drew.alloc (.cells #[.int .i64 c1, .int .i64 c2] 3)) (by simp) (fun k hk => by
      have h := at_new w1.drew #[.int .i64 c1, .int .i64 c2] 3
      match k, hk with
      | 0, _ => exact at_cell h 0
      | 1, _ => exact at_cell h 1
      | k + 2, hk => simp at hk; omega)
    rw [← hc1, ← hc2, cf_first, hc1, hc2] at this
    exact this)
  have HSX : Hid ((w1.drew.cell? ⟨P1, 0, none⟩ = some (.int .u64 x.1) ∧ w1.drew.cell? ⟨P1, 1, none⟩ = some (.int .i64 x.2) ∧ w1.drew.cell? ⟨P2, 0, none⟩ = some (.int .u64 y.1) ∧ w1.drew.cell? ⟨P2, 1, none⟩ = some (.int .i64 y.2)) ∧ ((w1.drew.alloc (.cells #[.int .i64 c1, .int .i64 c2] 3)).cell? ⟨P1, 0, none⟩ = some (.int .u64 x.1) ∧ (w1.drew.alloc (.cells #[.int .i64 c1, .int .i64 c2] 3)).cell? ⟨P1, 1, none⟩ = some (.int .i64 x.2) ∧ (w1.drew.alloc (.cells #[.int .i64 c1, .int .i64 c2] 3)).cell? ⟨P2, 0, none⟩ = some (.int .u64 y.1) ∧ (w1.drew.alloc (.cells #[.int .i64 c1, .int .i64 c2] 3)).cell? ⟨P2, 1, none⟩ = some (.int .i64 y.2)) ∧ True) := hid (by
    have a1 := at_alloc (at_drew HP.out) (.cells #[.int .i64 c1, .int .i64 c2] 3)
    have a2 := at_alloc (at_drew HQ.out) (.cells #[.int .i64 c1, .int .i64 c2] 3)
    exact ⟨⟨at_cell HP.out 0, at_cell HP.out 1, at_cell HQ.out 0, at_cell HQ.out 1⟩, ⟨at_cell a1 0, at_cell a1 1, at_cell a2 0, at_cell a2 1⟩, trivial⟩)
  have hS0 : w1.cell? ⟨P1, 0, none⟩ = some (.int .u64 x.1) ∧ w1.cell? ⟨P1, 1, none⟩ = some (.int .i64 x.2) ∧ w1.cell? ⟨P2, 0, none⟩ = some (.int .u64 y.1) ∧ w1.cell? ⟨P2, 1, none⟩ = some (.int .i64 y.2) := HSX.out.1
  clear HP HQ
  go_enter Tryz.func88, Tryz.ntmps88
  go_wp2_with fail
  refine wp_region_noPanic ?_
  refine wp_region_held_drew (S := (fun w' => w'.cell? ⟨P1, 0, none⟩ = some (.int .u64 x.1) ∧ w'.cell? ⟨P1, 1, none⟩ = some (.int .i64 x.2) ∧ w'.cell? ⟨P2, 0, none⟩ = some (.int .u64 y.1) ∧ w'.cell? ⟨P2, 1, none⟩ = some (.int .i64 y.2))) (by kernel_rfl) (by assumption) (fun hHeld => ?_)
  refine wpAnyH_take (i := 0) (v := .pointer (some ⟨P1, 0, none⟩)) rfl (by kernel_rfl) (by kernel_rfl) (by kernel_rfl) (fun _ _ _ h => h) (Or.inl ⟨by rfl, fun w hSw => by (try dsimp only at hSw); go_simp⟩) (by assumption) ?_
  try simp only [List.getElem_toArray, List.getElem_cons_zero, List.getElem_cons_succ, Act.put, List.setIfInBounds_toArray, List.set_cons_zero, List.set_cons_succ]
  refine wpAnyH_take (i := 1) (v := .int .u64 x.1) rfl (by kernel_rfl) (by kernel_rfl) (by kernel_rfl) (fun _ _ _ h => h) (Or.inl ⟨by rfl, fun w hSw => by (try dsimp only at hSw); go_simp⟩) (by assumption) ?_
  try simp only [List.getElem_toArray, List.getElem_cons_zero, List.getElem_cons_succ, Act.put, List.setIfInBounds_toArray, List.set_cons_zero, List.set_cons_succ]
  refine wpAnyH_take (i := 2) (v := .pointer (some ⟨P2, 0, none⟩)) rfl (by kernel_rfl) (by kernel_rfl) (by kernel_rfl) (fun _ _ _ h => h) (Or.inl ⟨by rfl, fun w hSw => by (try dsimp only at hSw); go_simp⟩) (by assumption) ?_
  try simp only [List.getElem_toArray, List.getElem_cons_zero, List.getElem_cons_succ, Act.put, List.setIfInBounds_toArray, List.set_cons_zero, List.set_cons_succ]
  refine wpAnyH_take (i := 3) (v := .int .u64 y.1) rfl (by kernel_rfl) (by kernel_rfl) (by kernel_rfl) (fun _ _ _ h => h) (Or.inl ⟨by rfl, fun w hSw => by (try dsimp only at hSw); go_simp⟩) (by assumption) ?_
  try simp only [List.getElem_toArray, List.getElem_cons_zero, List.getElem_cons_succ, Act.put, List.setIfInBounds_toArray, List.set_cons_zero, List.set_cons_succ]
  refine wpAnyH_take (i := 5) (v := .pointer (some ⟨P1, 1, none⟩)) rfl (by kernel_rfl) (by kernel_rfl) (by kernel_rfl) (fun _ _ _ h => h) (Or.inl ⟨by rfl, fun w hSw => by (try dsimp only at hSw); go_simp⟩) (by assumption) ?_
  try simp only [List.getElem_toArray, List.getElem_cons_zero, List.getElem_cons_succ, Act.put, List.setIfInBounds_toArray, List.set_cons_zero, List.set_cons_succ]
  refine wpAnyH_take (i := 6) (v := .int .i64 x.2) rfl (by kernel_rfl) (by kernel_rfl) (by kernel_rfl) (fun _ _ _ h => h) (Or.inl ⟨by rfl, fun w hSw => by (try dsimp only at hSw); go_simp⟩) (by assumption) ?_
  try simp only [List.getElem_toArray, List.getElem_cons_zero, List.getElem_cons_succ, Act.put, List.setIfInBounds_toArray, List.set_cons_zero, List.set_cons_succ]
  refine wpAnyH_take (i := 7) (v := .pointer (some ⟨P2, 1, none⟩)) rfl (by kernel_rfl) (by kernel_rfl) (by kernel_rfl) (fun _ _ _ h => h) (Or.inl ⟨by rfl, fun w hSw => by (try dsimp only at hSw); go_simp⟩) (by assumption) ?_
  try simp only [List.getElem_toArray, List.getElem_cons_zero, List.getElem_cons_succ, Act.put, List.setIfInBounds_toArray, List.set_cons_zero, List.set_cons_succ]
  refine wpAnyH_take (i := 8) (v := .int .i64 y.2) rfl (by kernel_rfl) (by kernel_rfl) (by kernel_rfl) (fun _ _ _ h => h) (Or.inl ⟨by rfl, fun w hSw => by (try dsimp only at hSw); go_simp⟩) (by assumption) ?_
  try simp only [List.getElem_toArray, List.getElem_cons_zero, List.getElem_cons_succ, Act.put, List.setIfInBounds_toArray, List.set_cons_zero, List.set_cons_succ]
  refine wpAnyH_ready (rs := [4]) (by kernel_rfl) (by simp) ?_
  refine AllReadyH.cons (i := 4) rfl (fun K hK => ?_) AllReadyH.nil
  go_simp
  refine (cmpU x.1 y.1 _).mono ?_
  rintro e1 w3 ⟨rfl, rfl⟩
  have hS := HSX.out.1
  clear hHeld
  show K _ _
  refine hK.out _ _ (by assumption) (fun hHeld => ?_)
  clear hK K
  try simp only [List.getElem_toArray, List.getElem_cons_zero, List.getElem_cons_succ, Act.put, List.setIfInBounds_toArray, List.set_cons_zero, List.set_cons_succ]
  refine wpAnyH_ready (rs := [9]) (by kernel_rfl) (by simp) ?_
  refine AllReadyH.cons (i := 9) rfl (fun K hK => ?_) AllReadyH.nil
  go_simp
  refine (cmpS x.2 y.2 _).mono ?_
  rintro e1 w4 ⟨rfl, rfl⟩
  have hS := HSX.out.1
  clear hHeld
  show K _ _
  refine hK.out _ _ (by assumption) (fun hHeld => ?_)
  clear hK K
  try simp only [List.getElem_toArray, List.getElem_cons_zero, List.getElem_cons_succ, Act.put, List.setIfInBounds_toArray, List.set_cons_zero, List.set_cons_succ]
  refine wpAnyH_ready (rs := [10]) (by kernel_rfl) (by simp) ?_
  refine AllReadyH.cons (i := 10) rfl (fun K hK => ?_) AllReadyH.nil
  go_simp
  have hS := HSX.out.2.1
  clear hHeld
  show K _ _
  refine hK.out _ _ (by assumption) (fun hHeld => ?_)
  clear hK K
  try simp only [List.getElem_toArray, List.getElem_cons_zero, List.getElem_cons_succ, Act.put, List.setIfInBounds_toArray, List.set_cons_zero, List.set_cons_succ]
  refine wpAnyH_ready (rs := [11]) (by kernel_rfl) (by simp) ?_
  refine AllReadyH.cons (i := 11) rfl (fun K hK => ?_) AllReadyH.nil
  go_simp
  refine (HOr.out).mono ?_
  rintro e1 w5 ⟨rfl, rfl⟩
  have hS := HSX.out.2.1
  clear hHeld
  show K _ _
  refine hK.out _ _ (by assumption) (fun hHeld => ?_)
  clear hK K
  try simp only [List.getElem_toArray, List.getElem_cons_zero, List.getElem_cons_succ, Act.put, List.setIfInBounds_toArray, List.set_cons_zero, List.set_cons_succ]
  refine wpAnyH_take (i := 12) (v := .int .i64 (cf x y)) rfl (by kernel_rfl) (by kernel_rfl) (by kernel_rfl) (fun _ _ _ h => h) (Or.inl ⟨by rfl, fun w hSw => by (try dsimp only at hSw); go_simp⟩) (by assumption) ?_
  try simp only [List.getElem_toArray, List.getElem_cons_zero, List.getElem_cons_succ, Act.put, List.setIfInBounds_toArray, List.set_cons_zero, List.set_cons_succ]
  refine wpAnyH_done (by kernel_rfl) ?_ _
  refine NoPanic.normal ?_
  go_wp2_with fail
  go_ret
  exact ⟨rfl, HEnd.out⟩
section
open Go.Shelf Go.RowKit Go.Lib Go.Sort
theorem lt_cf (x y : It) : ltOf cf x y = decide (Lt x y) := by
  unfold ltOf cf orI cmpI Lt
  by_cases h1 : x.1 < y.1
  · simp [h1]
  · by_cases h2 : y.1 < x.1
    · have h3 : ¬ x.1 = y.1 := by omega
      simp [h1, h2, h3]
    · have h3 : x.1 = y.1 := by omega
      by_cases h4 : x.2 < y.2
      · simp [h3, h4]
      · by_cases h5 : y.2 < x.2 <;> simp [h3, h4, h5]
theorem swo_cf : SWO (ltOf cf) where
  irrefl x := by rw [lt_cf]; simp [Lt]
  trans x y z h1 h2 := by rw [lt_cf] at *; simp only [decide_eq_true_eq] at *; exact lt_trans h1 h2
  ntrans x y z h1 h2 := by rw [lt_cf] at *; simp only [decide_eq_false_iff_not] at *; unfold Lt at *; omega
theorem tot_cf (x y : It) (h1 : ltOf cf x y = false) (h2 : ltOf cf y x = false) : x = y := by
  rw [lt_cf] at h1 h2
  simp only [decide_eq_false_iff_not] at h1 h2
  unfold Lt at h1 h2
  have e1 : x.1 = y.1 := by omega
  have e2 : x.2 = y.2 := by omega
  exact Prod.ext e1 e2
def encI (x : It) : List Value := [.int .u64 x.1, .int .i64 x.2]
def srtd (T : List It) : List It := T.mergeSort fun x y => !(ltOf cf) y x
theorem srtd_perm (T : List It) : (srtd T).Perm T := List.mergeSort_perm _ _
theorem srtd_pair (T : List It) : (srtd T).Pairwise (fun a b => Lt a b ∨ a = b) := by
  have h := List.pairwise_mergeSort (le := fun x y => !(ltOf cf) y x) (fun a b c h1 h2 => by
    rw [lt_cf] at *
    simp only [Bool.not_eq_true', decide_eq_false_iff_not] at *
    unfold Lt at *
    omega) (fun a b => by
    rw [lt_cf, lt_cf]
    simp only [Bool.or_eq_true, Bool.not_eq_true', decide_eq_false_iff_not]
    unfold Lt
    omega) T
  refine h.imp (fun {a b} h => ?_)
  rw [lt_cf] at h
  simp only [Bool.not_eq_true', decide_eq_false_iff_not] at h
  unfold Lt at *
  by_cases e1 : a.1 = b.1
  · by_cases e2 : a.2 = b.2
    · exact .inr (Prod.ext e1 e2)
    · exact .inl (by omega)
  · exact .inl (by omega)
/- A row of items that is read. -/
def RdT (w : World) (v : Value) (l : List It) : Prop := ∃ a c, v = .slice a l.length c ∧ (0 < l.length → ∃ q, a = some ⟨q, 0, none⟩ ∧ ∀ i x, l[i]? = some x → w.cell? ⟨q, i * 2, none⟩ = some (.int .u64 x.1) ∧ w.cell? ⟨q, i * 2 + 1, none⟩ = some (.int .i64 x.2))
theorem enc_at (x : It) (c : Nat) (hc : c < 2) : (encI x)[c]! = if c = 0 then .int .u64 x.1 else .int .i64 x.2 := by
  match c, hc with
  | 0, _ => rfl
  | 1, _ => rfl
theorem holds_row {w : World} {q n cap : Nat} {l : List It} (h : Row w (.slice (some ⟨q, 0, none⟩) n cap) l) : HoldsK encI 2 w q 0 l.toArray := by
  intro t ht
  rw [size_flatK] at ht
  rw [get_flatK _ _ _ _ ht]
  have hi : t / 2 < l.length := by simp at ht; omega
  have hx : l[t / 2]? = some l[t / 2] := List.getElem?_eq_getElem hi
  obtain ⟨c0, c1, cf⟩ := row_cells h hx
  have e : l.toArray[t / 2]! = l[t / 2] := by simp [hi]
  rw [e, enc_at _ _ (Nat.mod_lt _ (by omega))]
  refine ⟨?_, cf _⟩
  by_cases h0 : t % 2 = 0
  · rw [if_pos h0]
    rw [show 0 + t = t / 2 * 2 by omega]
    exact c0
  · rw [if_neg h0]
    rw [show 0 + t = t / 2 * 2 + 1 by omega]
    exact c1
theorem sorted_block (w : World) (q n : Nat) (d : Array It) (os : Array Obj) {k : Nat} (hk : k < w.heap.size) (hn : k ≠ q) : (sortWorldK encI 2 w q 0 n d os).heap[k]? = w.heap[k]? := by
  unfold sortWorldK putRowK putRow mapBlock
  rw [heap_grow_old _ _ (by simpa [ahead] using hk)]
  show (w.heap.modify q _)[k]? = _
  rw [Array.getElem?_modify, if_neg (Ne.symm hn)]
/- What the sort leaves. -/
def SortC (T : List It) (v : Value) (w : World) (e : Ending) (w' : World) : Prop :=
  e = .returned (.tuple #[]) ∧ (w'.os = w.os ∧ w'.output = w.output ∧ w.heap.size ≤ w'.heap.size ∧ ∀ k, k < w.heap.size → v.ownBlock ≠ some k → w'.heap[k]? = w.heap[k]?) ∧ RdT w' v (srtd T)
theorem sort_any (T : List It) (hT : T.length ≤ 1000) (v : Value) (w : World) (h : Row w v T) : Calls Tryz.prog 87 #[v, .func (.func 88) #[] #[]] w (SortC T v w) := by
  have hlen : (srtd T).length = T.length := (srtd_perm T).length_eq
  rcases Nat.eq_zero_or_pos T.length with h0 | h0
  · obtain ⟨a, cap, rfl⟩ := row_is h
    rw [h0]
    refine (AnyF.slices_SortFunc_none { layI with } a cap (.func (.func 88) #[] #[]) w).mono ?_
    rintro e w' ⟨rfl, rfl⟩
    exact ⟨rfl, ⟨rfl, rfl, Nat.le_refl _, fun _ _ _ => rfl⟩, a, cap, by rw [hlen, h0], fun hp => by omega⟩
  · obtain ⟨q, cap, rfl, hc, hm⟩ := row_some h h0
    have hq : q < w.heap.size := by
      obtain ⟨cs, hcs⟩ := row_at h (q := q) rfl
      exact at_lt hcs
    have eg : ∀ args w, (callFunc 88 args).run Tryz.prog w = .ok (.enter 88 args) w := enters_of Tryz.func88 (by kernel_rfl) rfl
    have hH := holds_row h
    have hcon := AnyQ.slices_SortFunc_total layI 2 Tryz.isAgg123 Tryz.sizeOf123 encI (fun _ => rfl) (fun x v hv => by
      simp [encI] at hv
      rcases hv with rfl | rfl <;> rfl) cf swo_cf 88 #[] q 0 cap T.toArray w eg (fun _ _ _ _ x y => compare_any x y _) hH hq (by simp; omega) tot_cf
    refine (show Calls Tryz.prog 87 _ _ _ from hcon).mono ?_
    rintro e w' ⟨rfl, n, os, rfl⟩
    refine ⟨rfl, ⟨rfl, rfl, ?_, fun k hk hn => sorted_block w q n _ os hk (fun e => hn (by rw [e]; rfl))⟩, some ⟨q, 0, none⟩, cap, by rw [hlen], fun _ => ⟨q, rfl, fun i x hx => ?_⟩⟩
    · unfold sortWorldK putRowK putRow mapBlock
      rw [size_grow]
      show w.heap.size ≤ (w.heap.modify q _).size + _
      simp
    · have hi := lt_of_some hx
      have h1 : HoldsK encI 2 (sortWorldK encI 2 w q 0 n (T.mergeSort fun x y => !(ltOf cf) y x).toArray os) q 0 (srtd T).toArray :=
        holdsK_grow encI 2 _ _ _ _ _ (by simpa [putRowK, ahead] using hq) (holdsK_putRowK encI 2 _ _ _ T.toArray _ (holdsK_ahead encI 2 _ _ _ _ _ hH) (by simp))
      have h2 := fun c (hc : c < 2) => h1.cell (i := i) (c := c) (by simpa using hi) hc
      have e : (srtd T).toArray[i]! = x := by
        rw [List.getElem?_eq_getElem hi] at hx
        injection hx with hx
        simp [hi, hx]
      have c0 := (h2 0 (by omega))
      have c1 := (h2 1 (by omega))
      rw [e] at c0 c1
      rw [Nat.zero_add] at c0 c1
      exact ⟨c0.1, c1.1⟩
end
end Go.Proofs.YthgbdaladngpdaaGreat.Whl

/- Rows of numbers in memory; the contract of the reference's Same, of two rows with the same numbers. The rows have at most 4096 numbers. -/
namespace Go.Proofs.YthgbdaladngpdaaGreat.Whl
open Go.ChangeShapes Go.WideShapes Go.ChangeAt Go.RowKit
set_option linter.unusedVariables false
set_option maxRecDepth 100000
set_option linter.unusedSimpArgs false

def iv (xs : List Int) : List Value := xs.map (Value.int .i64)
theorem iv_len (xs : List Int) : (iv xs).length = xs.length := by unfold iv; simp
/- A row that is read. -/
def Rw (w : World) (v : Value) (xs : List Int) : Prop :=
  ∃ a c, v = .slice a xs.length c ∧ (0 < xs.length → ∃ g o, a = some ⟨g, o, none⟩ ∧ ∀ i x, xs[i]? = some x → w.cell? ⟨g, o + i, none⟩ = some (.int .i64 x))
/- A row of one's own. -/
def OwnI (w : World) (B : Nat) (v : Value) (xs : List Int) : Prop := w.ownsRow B 3 1 v xs.length (iv xs)
section
variable {w w' : World} {B : Nat} {v : Value} {xs : List Int}
theorem cell_lt {b o : Nat} {v : Value} (h : w.cell? ⟨b, o, none⟩ = some v) : b < w.heap.size := by
  unfold World.cell? at h
  cases hb : w.heap[b]? with
  | none => simp [hb] at h
  | some x => exact (Array.getElem?_eq_some_iff.1 hb).1
theorem rw_kept (h : Rw w v xs) (k : Kept w w') : Rw w' v xs := by
  obtain ⟨a, c, rfl, h⟩ := h
  refine ⟨a, c, rfl, fun hp => ?_⟩
  obtain ⟨g, o, rfl, hc⟩ := h hp
  exact ⟨g, o, rfl, fun i x hx => (kept_cell k (cell_lt (hc i x hx))).trans (hc i x hx)⟩
theorem own_kept (h : OwnI w B v xs) (k : ∀ g cur, v.ownBlock = some g → At w g cur 3 → w'.heap[g]? = w.heap[g]?) : OwnI w' B v xs := by
  refine ⟨h.1, ?_⟩
  rcases h.2 with hn | ⟨g, cap, cur, rfl, hb, hg, rest⟩
  · exact .inl hn
  · exact .inr ⟨g, cap, cur, rfl, hb, (k g cur rfl hg).trans hg, rest⟩
theorem own_stays (h : OwnI w B v xs) (k : Kept w w') : OwnI w' B v xs := own_kept h (fun g cur _ ha => kept_block k (at_lt ha))
theorem own_low {B' : Nat} (h : OwnI w B v xs) (hb : B' ≤ B) : OwnI w B' v xs := by
  refine ⟨h.1, ?_⟩
  rcases h.2 with hn | ⟨g, cap, cur, rfl, hg, rest⟩
  · exact .inl hn
  · exact .inr ⟨g, cap, cur, rfl, Nat.le_trans hb hg, rest⟩
theorem rw_own (h : OwnI w B v xs) : Rw w v xs := by
  rcases h.2 with ⟨rfl, hn⟩ | ⟨g, cap, cur, rfl, hb, hg, rest⟩
  · exact ⟨none, 0, by rw [hn], fun hp => absurd hp (by omega)⟩
  · refine ⟨_, cap, rfl, fun _ => ⟨g, 0, rfl, fun i x hx => ?_⟩⟩
    have := World.ownsRow.cells h (g := g) rfl i (.int .i64 x) (by unfold iv; simp [hx])
    rw [← this]
    rcases Nat.eq_zero_or_pos i with h0 | h0
    · subst h0; simp [Addr.add]
    · rw [show (⟨g, 0, none⟩ : Addr).add i = ⟨g, 0 + i, none⟩ by simp [Addr.add]; omega]
theorem own_nil (w : World) (B : Nat) : OwnI w B (.slice none 0 0) [] := World.ownsRow_nil w B 3 1
/- A row as it is built. -/
theorem own_built (w : World) (B : Nat) (hB : B ≤ w.heap.size) (xs : List Int) (hm : xs.length ≤ 4096) : OwnI (w.alloc (.cells (iv xs).toArray 3)) B (.slice (some ⟨w.heap.size, 0, none⟩) xs.length xs.length) xs := by
  refine ⟨by rw [iv_len, Nat.mul_one], .inr ⟨w.heap.size, xs.length, _, rfl, hB, at_new w _ 3, Nat.le_refl _, by unfold maxLen; omega, by simp [iv_len], ?_⟩⟩
  have h1 : xs.length * 1 = (iv xs).length := by rw [iv_len, Nat.mul_one]
  rw [h1]
  simp
end
theorem info3 : (Tryz.prog.info? 3).map (fun i => (i.zero, i.size, i.bytes)) = some (some (.int .i64 0), 1, 8) := by kernel_rfl
theorem take_on {xs : List Int} {k : Nat} (h : k < xs.length) : xs.take (k + 1) = xs.take k ++ [xs[k]] := List.take_succ_eq_append_getElem h
theorem cell_one (w : World) (x : Value) : ∀ (j : Nat) (u : Value), ([x] : List Value)[j]? = some u → (w.alloc (.cells #[x] 3)).cell? ((⟨w.heap.size, 0, none⟩ : Addr).add j) = some u := by
  intro j u hu
  match j, hu with
  | 0, hu =>
    simp at hu
    subst hu
    exact at_cell (at_new w #[x] 3) 0
  | j + 1, hu => simp at hu
/- What a call answers that makes a row. -/
def RowC (xs : List Int) (w : World) (e : Ending) (w' : World) : Prop := ∃ v, e = .returned v ∧ OwnI w' w.heap.size v xs ∧ Kept w w'
theorem own_len {w : World} {B m : Nat} {v : Value} {xs : List Int} (h : w.ownsRow B 3 1 v m (iv xs)) (e : xs.length = m) : OwnI w B v xs := by subst e; exact h
theorem iv_snoc (xs : List Int) (x : Int) : iv (xs ++ [x]) = iv xs ++ [.int .i64 x] := by unfold iv; simp
theorem kept_grown {W w w' : World} {row : Option Nat} (h : Kept W w) (g : w.grownBy w' row) (hr : ∀ k, row = some k → W.heap.size ≤ k) : Kept W w' :=
  kept_of (g.os.trans (kept_os h)) (g.output.trans (kept_output h)) (Nat.le_trans h.2 g.size) (fun i hi => (g.block i (Nat.lt_of_lt_of_le hi h.2) (fun e => by have := hr i e.symm; omega)).trans (kept_block h hi))
def lenV : Value → Nat
  | .slice _ n _ => n
  | _ => 0
theorem own_lenV {w : World} {B : Nat} {v : Value} {xs : List Int} (h : OwnI w B v xs) : lenV v = xs.length := by
  obtain ⟨a, c, rfl, _⟩ := rw_own h
  rfl
theorem own_tn {F : Nat → Prop} {w w' : World} {B : Nat} {v : Value} {xs : List Int} (h : OwnI w B v xs) (t : Tn F w w') (hF : ∀ k, F k → k < B) : OwnI w' B v xs := by
  refine ⟨h.1, ?_⟩
  rcases h.2 with hn | ⟨g, cap, cur, rfl, hb, hg, rest⟩
  · exact .inl hn
  · exact .inr ⟨g, cap, cur, rfl, hb, (t.2.2.2 g (at_lt hg) (fun hf => by have := hF g hf; omega)).trans hg, rest⟩
end Go.Proofs.YthgbdaladngpdaaGreat.Whl

/- The contract of Due: what is due, by times, of one time by ids; the rest stays. A wheel has at most 1000 items. -/
namespace Go.Proofs.YthgbdaladngpdaaGreat.Whl
open Go.ChangeShapes Go.WideShapes Go.ChangeAt Go.RowKit
set_option linter.unusedVariables false
set_option maxRecDepth 100000
set_option linter.unusedSimpArgs false

def ids (l : List It) : List Int := l.map (·.2)
theorem due_nil (t : Int) (w : World) : Calls Tryz.prog 51 #[.pointer none, .int .u64 t] w fun e w' => e = .returned (.slice none 0 0) ∧ w' = w := by
  go_enter Tryz.func51, Tryz.ntmps51
  go_wp2_with fail
  go_ret
  exact ⟨rfl, rfl⟩
/- While it goes on: what was taken out, and what is left. -/
structure DS (F : Nat → Prop) (X : Nat) (M : List It) (t : Int) (w wr : World) (v : Value) (k : Nat) (T : List It) (m : Nat) (V : Nat → Value) (L : Nat → List It) (g : Int → Option (Nat × Nat)) : Prop where
  gl : GL wr F X m V L g
  own : wr.ownsRow w.heap.size 123 2 v T.length (iw T)
  perm : M.Perm (T ++ flat L)
  told : ∀ x ∈ T, x.1 ≤ t
  left : ∀ b, b < k → ∀ x ∈ L b, t < x.1
  tn : Tn F w wr
section
variable {F : Nat → Prop} {X : Nat} {M : List It} {t : Int} {w wr u : World} {v : Value} {k : Nat} {T : List It} {m : Nat} {V : Nat → Value} {L : Nat → List It} {g : Int → Option (Nat × Nat)}
theorem own_row {B n : Nat} (h : w.ownsRow B 123 2 v n (iw T)) (e : T.length = n) : Row w v T := by
  subst e
  refine ⟨h.1, ?_⟩
  rcases h.2 with hn | ⟨q, cap, cur, rfl, hg, rest⟩
  · exact .inl hn
  · exact .inr ⟨q, cap, cur, rfl, Nat.zero_le _, rest⟩
theorem ds_lt (h : DS F X M t w wr v k T m V L g) : T.length + (flat L).length = M.length := by rw [h.perm.length_eq]; simp
theorem ds_len (h : DS F X M t w wr v k T m V L g) : lenV v = T.length := by
  obtain ⟨a, cap, e⟩ := row_is (own_row h.own rfl)
  rw [e]; rfl
theorem ds_next (h : DS F X M t w wr v k T m V L g) (hk : ∀ x ∈ L k, t < x.1) : DS F X M t w wr v (k + 1) T m V L g :=
  ⟨h.gl, h.own, h.perm, h.told, fun b hb x hx => by
    by_cases e : b = k
    · subst e; exact hk x hx
    · exact h.left b (by omega) x hx, h.tn⟩
theorem ds_over (h : DS F X M t w wr v k T m V L g) (hb : k < 64) {x : It} (hx : (L k)[0]? = some x) (ht : ¬ x.1 ≤ t) : ∀ y ∈ L k, t < y.1 := fun y hy => by
  obtain ⟨j, hj⟩ := List.getElem?_of_mem hy
  have := heap_min (h.gl.heap k hb) j (lt_of_some hj)
  rw [du_some hx, du_some hj] at this
  omega
/- One is taken out: the row that is told stands. -/
theorem own_tn59 {B n : Nat} {xs : List Value} (h : w.ownsRow B 123 2 v n xs) (tn : Tn F w u) (hF : ∀ j, F j → j < B) : u.ownsRow B 123 2 v n xs := by
  refine ⟨h.1, ?_⟩
  rcases h.2 with hn | ⟨q, cap, cur, rfl, hb, hg, rest⟩
  · exact .inl hn
  · exact .inr ⟨q, cap, cur, rfl, hb, (tn.2.2.2 q (at_lt hg) (fun hf => by have := hF q hf; omega)).trans hg, rest⟩
theorem gl_same {w' : World} (h : GL w F X m V L g) (hs : ∀ j, F j → w'.heap[j]? = w.heap[j]?) (hz : w.heap.size ≤ w'.heap.size) : GL w' F X m V L g := by
  have hm := h.mem
  obtain ⟨cs, h1, h2⟩ := hm.obj
  exact ⟨⟨⟨cs, (hs X hm.fX).trans h1, h2⟩, whr_block hm.map (hs m hm.fm), fun b hb => row_block (hm.row b hb) (fun q _ hq _ => hs q (hm.fV b q hb hq)), hm.apart, hm.fX, hm.fm, hm.fV, fun j hj => Nat.lt_of_lt_of_le (hm.low j hj) hz⟩, h.full, h.heap, h.wf⟩
end
theorem ds_take {F : Nat → Prop} {X : Nat} {M : List It} {t : Int} {w wr w2 w4 : World} {v v4 : Value} {k : Nat} {T : List It} {m : Nat} {V V2 : Nat → Value} {L : Nat → List It} {g g2 : Int → Option (Nat × Nat)} {x : It} {l2 : List It} {o : Obj}
    (h : DS F X M t w wr v k T m V L g) (hb : k < 64) (ht : x.1 ≤ t) (hF : ∀ j, F j → j < w.heap.size) (t2 : Tn F wr w2) (gl2 : GL w2 F X m V2 (upd L k l2) g2) (p2 : (L k).Perm (x :: l2))
    (hg : (w2.alloc o).grownBy w4 v.ownBlock) (ho : w4.ownsRow w.heap.size 123 2 v4 (T.length + 1) (iw T ++ [.int .u64 x.1, .int .i64 x.2])) : DS F X M t w w4 v4 k (T ++ [x]) m V2 (upd L k l2) g2 := by
  have hlo := World.ownsRow.lt h.own
  have hbk : ∀ j, j < (w2.alloc o).heap.size → j < w.heap.size → w4.heap[j]? = (w2.alloc o).heap[j]? := fun j h1 h2 => hg.block j h1 (fun e => by
    have := (hlo j e.symm).1
    omega)
  have hsz : w.heap.size ≤ w2.heap.size := Nat.le_trans h.tn.2.2.1 t2.2.2.1
  have k3 := kept_alloc (kept_refl w2) o
  have tn2 := tn_trans h.tn t2
  refine ⟨gl_same (gl_kept gl2 k3) (fun j hj => hbk j (by have := hF j hj; have := k3.2; omega) (hF j hj)) hg.size, ?_, ?_, ?_, ?_, ?_⟩
  · rw [show (T ++ [x]).length = T.length + 1 by simp, iw_app]
    exact ho
  · refine h.perm.trans ?_
    rw [List.append_assoc]
    exact (flat_out hb p2).append_left T
  · intro y hy
    rcases List.mem_append.1 hy with hy | hy
    · exact h.told y hy
    · simp at hy; rw [hy]; exact ht
  · intro b hb' y hy
    rw [upd_ne _ _ (by omega)] at hy
    exact h.left b hb' y hy
  · have tn3 := tn_trans tn2 (tn_kept k3)
    exact ⟨hg.os.trans tn3.1, hg.output.trans tn3.2.1, Nat.le_trans tn3.2.2.1 hg.size, fun j hj hn => (hbk j (Nat.lt_of_lt_of_le hj tn3.2.2.1) hj).trans (tn3.2.2.2 j hj hn)⟩
/- What Due answers and leaves. -/
def DueC (F : Nat → Prop) (X : Nat) (M : List It) (t : Int) (w : World) (e : Ending) (w' : World) : Prop :=
  ∃ v, e = .returned v ∧ OwnI w' w.heap.size v (ids (due M t)) ∧ Tn F w w' ∧ Good w' F X (aft M t)
def DueC2 (F : Nat → Prop) (X : Nat) (M : List It) (t : Int) (w : World) (e : Ending) (w' : World) : Prop :=
  ∃ v, e = .returned v ∧ OwnI w' w.heap.size v (ids (due M t)) ∧ Tn F w w' ∧ Good w' F X (aft M t) ∧ v ≠ .slice none 0 0
theorem srt_aft {M : List It} (h : Srt M) (t : Int) : Srt (aft M t) := srt_sub h List.filter_sublist
theorem srt_due {M : List It} (h : Srt M) (t : Int) : Srt (due M t) := srt_sub h List.filter_sublist
theorem make_ints (w : World) (n : Nat) (hn : n ≤ 4096) :
    (Instr.makeSlice 90 (.int .i64 (n : Int)) (.int .i64 (n : Int))).run Tryz.prog w = .ok (.slice (some ⟨w.heap.size, 0, none⟩) n n) (w.alloc (.cells (madeCells #[.int .i64 0] (n * 1)) 3)) := by
  obtain ⟨i0, hi, hz0, hz1, hz2⟩ := info_parts info3
  have := run_make (P := Tryz.prog) w 90 3 i0 _ Tryz.underlying90 hi hz0 .i64 .i64 (n : Int) (n : Int) (by omega) (by omega) (by rw [hz2]; omega) (by omega)
  rw [this, hz1]
  rfl
/- A row of numbers that is filled. -/
def Fill (w : World) (N n : Nat) (l : List It) (k : Nat) : Prop := ∃ cs, At w N cs 3 ∧ cs.size = n ∧ ∀ i x, i < k → l[i]? = some x → cs[i]? = some (.int .i64 x.2)
theorem fill_made (w : World) (n : Nat) (l : List It) : Fill (w.alloc (.cells (madeCells #[.int .i64 0] (n * 1)) 3)) w.heap.size n l 0 := ⟨_, at_new w _ 3, by unfold madeCells; simp, fun i x h => by omega⟩
theorem fill_kept {w w' : World} {N n k : Nat} {l : List It} (h : Fill w N n l k) (kk : Kept w w') : Fill w' N n l k := by
  obtain ⟨cs, h1, h2⟩ := h
  exact ⟨cs, at_kept h1 kk, h2⟩
theorem fill_next {w : World} {N n k : Nat} {l : List It} (h : Fill w N n l k) {x : It} (hx : l[k]? = some x) (hk : k < n) : Fill (w.setCell ⟨N, k, none⟩ (.int .i64 x.2)) N n l (k + 1) := by
  obtain ⟨cs, h1, h2, h3⟩ := h
  refine ⟨_, at_set h1 _ _, by simpa using h2, fun i y hi hy => ?_⟩
  rw [Array.getElem?_setIfInBounds]
  by_cases e : k = i
  · subst e
    rw [if_pos rfl, if_pos (by omega)]
    rw [hx] at hy
    injection hy with hy
    rw [hy]
  · rw [if_neg e]
    exact h3 i y (by omega) hy
theorem fill_cell {w : World} {N n k : Nat} {l : List It} (h : Fill w N n l k) (hk : k < n) : ∃ u, w.cell? ⟨N, k, none⟩ = some u ∧ w.frozen? ⟨N, k, none⟩ = false := by
  obtain ⟨cs, h1, h2, h3⟩ := h
  exact ⟨cs[k], (at_cell h1 _).trans (Array.getElem?_eq_getElem (by omega)), at_frozen h1 _⟩
theorem fill_own {w : World} {N n B : Nat} {l : List It} (h : Fill w N n l n) (hn : l.length = n) (hB : B ≤ N) (h4 : n ≤ 4096) : OwnI w B (.slice (some ⟨N, 0, none⟩) n n) (ids l) := by
  obtain ⟨cs, h1, h2, h3⟩ := h
  have hl : (ids l).length = n := by unfold ids; simpa using hn
  refine ⟨by rw [iv_len, Nat.mul_one], .inr ⟨N, n, cs, by rw [hl], hB, h1, by omega, by unfold maxLen; omega, by omega, ?_⟩⟩
  rw [hl, Nat.mul_one]
  apply List.ext_getElem?
  intro i
  rw [List.getElem?_take]
  split
  · rename_i hi
    have hx : l[i]? = some l[i] := List.getElem?_eq_getElem (by omega)
    have := h3 i _ hi hx
    unfold iv ids
    simp only [List.map_map, List.getElem?_map, hx, Option.map_some, Function.comp]
    simpa using this
  · rename_i hi
    rw [List.getElem?_eq_none (by rw [iv_len, hl]; omega)]
set_option maxHeartbeats 6400000 in
theorem due_all {F : Nat → Prop} {X : Nat} {M : List It} (t : Int) (hM : M.length ≤ 1000) (w : World) (h : Good w F X M) : Calls Tryz.prog 51 #[.pointer (some ⟨X, 0, none⟩), .int .u64 t] w (DueC2 F X M t w) := by
  have HF : Hid (∀ j, F j → j < w.heap.size) := hid (good_low h)
  obtain ⟨m, V, L, g, h1, h2, h3⟩ := h
  have HS := hid h3
  have HD0 : Hid (∃ T m V L g, DS F X M t w w (.slice none 0 0) 0 T m V L g) := hid ⟨[], m, V, L, g, h1, World.ownsRow_nil w _ 123 2, by simpa using h2, fun x hx => (by cases hx), fun b hb => (by omega), tn_refl⟩
  have HTk : Hid (∀ wr v k T m V L g x, DS F X M t w wr v k T m V L g → k < 64 → (L k)[0]? = some x → Calls Tryz.prog 86 #[.pointer (some ⟨X, 0, none⟩), .agg #[.int .i64 (k : Int), .int .i64 ((0 : Nat) : Int)]] wr (OutC F X m L k x wr)) := hid (fun wr v k T m V L g x hd hk hx => take_any k 0 x (by have := ds_lt hd; omega) hk hx wr hd.gl)
  obtain ⟨i0, hi, hz0, hz1, hz2⟩ := info_parts (P := Tryz.prog) (e := 123) info59
  have HI := hid (And.intro hi (And.intro hz0 (And.intro hz1 hz2)))
  clear h1 h2 h3 hi hz0 hz1 hz2
  go_enter Tryz.func51, Tryz.ntmps51
  go_wp2_with fail
  go_loopw [5, 6, 12] (fun v b j wr => ∃ k : Nat, k ≤ 64 ∧ j = .int .i64 (k : Int) ∧ Hid (∃ T m V L g, DS F X M t w wr v k T m V L g)) (fun _ _ j _ => 64 - (intOf j).toNat)
  case atStart => exact ⟨0, by omega, rfl, HD0⟩
  case round =>
    clear HD0
    obtain ⟨k, hk, rfl, HD⟩ := hrel
    by_cases hlt : k < 64
    · have hkd : decide ((k : Int) < 64) = true := by simp; omega
      go_wp2_with fail
      try rw [hkd]
      go_loopw [5] (fun v wr => True ∧ Hid (∃ T m V L g, DS F X M t w wr v k T m V L g)) (fun v _ => M.length - lenV v)
      case atStart => exact ⟨trivial, HD⟩
      case round =>
        clear HD
        obtain ⟨T, m, V, L, g, hd⟩ := hrel.2.out
        obtain ⟨va, cap, hv⟩ := row_is (hd.gl.mem.row k hlt)
        have c0 := (wm_cell hd.gl.mem hlt).1
        rw [hv] at c0
        have hTl := ds_lt hd
        have hl : (L k).length ≤ 1000 := by have := flat_len L hlt; omega
        have hk2 : ¬ (64 : Int) ≤ (k : Int) := by omega
        rcases Nat.eq_zero_or_pos (L k).length with hz | hz
        · rw [hz] at c0
          have HN : Hid (∃ T m V L g, DS F X M t w wr u5 (k + 1) T m V L g) := hid ⟨T, m, V, L, g, ds_next hd (fun x hx => by rw [List.eq_nil_of_length_eq_zero hz] at hx; cases hx)⟩
          clear hd hv hl hz hTl hrel
          go_wp2_with fail
          go_roundw
          case rel => exact ⟨k + 1, by omega, by go_num, HN⟩
          case measure => simp [intOf]; omega
        · have hr := hd.gl.mem.row k hlt
          obtain ⟨q, cap2, hv2, _⟩ := row_some hr hz
          rw [hv2] at hv
          injection hv with e1 e2 e3
          clear e2
          subst e1 e3
          obtain ⟨x, hx⟩ : ∃ x, (L k)[0]? = some x := ⟨(L k)[0], List.getElem?_eq_getElem hz⟩
          rw [hv2] at hr
          have r0 := (row_cells hr hx).1
          rw [Nat.zero_mul] at r0
          have hn2 : (0 : Int) < ((L k).length : Int) := by omega
          have hn3 : ¬ ((L k).length : Int) ≤ 0 := by omega
          by_cases ht : x.1 ≤ t
          · have htk := HTk.out wr u5 k T m V L g x hd hlt hx
            have HDd := hid hd
            have HM := hid (ds_len hd)
            have HTl := hid hTl
            have hTs : T.length < M.length := by have := flat_len L hlt; omega
            clear hd hx hr hv2 hTl hrel
            generalize (L k).length = n at *
            go_wp2_with fail
            refine htk.mono ?_
            rintro e w2 ⟨rfl, t2, V2, l2, g2, gl2, p2⟩
            have HO2 := hid (World.ownsRow.alloc (own_tn59 HDd.out.own t2 HF.out) (.cells #[.int .u64 x.1, .int .i64 x.2] 123))
            have HNew := hid (fun v4 w4 => ds_take (v4 := v4) (w4 := w4) (o := .cells #[.int .u64 x.1, .int .i64 x.2] 123) HDd.out hlt ht HF.out t2 gl2 p2)
            have HB : Hid (w.heap.size ≤ w2.heap.size) := hid (Nat.le_trans HDd.out.tn.2.2.1 t2.2.2.1)
            have HA := hid (at_new w2 #[.int .u64 x.1, .int .i64 x.2] 123)
            clear htk t2 gl2 p2 c0 r0 hn2 hn3
            go_wp2_with (at_builtin; go_must (refine wpList_append_own _ rfl (.tmp 36) (.tmp 41) 117 rfl w.heap.size 123 i0 (.agg #[.int .u64 0, .int .i64 0]) 2 16 Tryz.underlying117 HI.out.1 HI.out.2.1 HI.out.2.2.1 HI.out.2.2.2 rfl (by decide) _ _ _ rfl HO2.out ⟨w2.heap.size, 0, none⟩ 1 1 [.int .u64 x.1, .int .i64 x.2] rfl rfl (item_cells HA.out) (by intro u hu; simp at hu; rcases hu with rfl | rfl <;> rfl) (by unfold maxLen; omega) (by omega) (by have := HB.out; simp; omega) ?_; intro v3 w3 hown3 hgrow3 hnil3))
            have HDn := hid (HNew.out v3 w3 hgrow3 hown3)
            clear hown3 hgrow3 hnil3 HNew HO2 HA
            go_roundw
            case rel => exact ⟨trivial, hid ⟨_, _, _, _, _, HDn.out⟩⟩
            case measure =>
              rw [HM.out, ds_len HDn.out]
              simp
              omega
          · have hd2 : decide (x.1 ≤ t) = false := by simpa using ht
            have HN : Hid (∃ T m V L g, DS F X M t w wr u5 (k + 1) T m V L g) := hid ⟨T, m, V, L, g, ds_next hd (ds_over hd hlt hx ht)⟩
            clear hd hx hr hv2 hTl ht hrel
            generalize (L k).length = n at *
            go_wp2_with fail
            go_roundw
            case rel => exact ⟨k + 1, by omega, by go_num, HN⟩
            case measure => simp [intOf]; omega
    · have hke : k = 64 := by omega
      subst hke
      clear hlt hk
      obtain ⟨T, m, V, L, g, hd⟩ := HD.out
      obtain ⟨hT, hR⟩ := due_unique (T := T) (R := flat L) HS.out hd.perm hd.told (fun x hx => by
        obtain ⟨b, hb, hx⟩ := flat_mem.1 hx
        exact hd.left b hb x hx)
      have hTl := ds_lt hd
      have hsort := sort_any T (by omega) u5 wr (own_row hd.own rfl)
      have hse : srtd T = due M t := sort_unique ((srtd_perm T).trans hT) (srtd_pair T) (srt_due HS.out t)
      have hdl : (due M t).length ≤ 1000 := by rw [← hT.length_eq]; omega
      have HSE := hid hse
      have HDd := hid hd
      have HR := hid hR
      clear hd hT hR hTl hse HTk HI HD
      go_wp2_with fail
      refine hsort.mono ?_
      rintro e w2 ⟨rfl, ⟨o1, o2, o3, o4⟩, rd⟩
      rw [HSE.out] at rd
      have hlo := World.ownsRow.lt HDd.out.own
      have HG2 := hid (gl_same HDd.out.gl (fun j hj => o4 j (Nat.lt_of_lt_of_le (HF.out j hj) HDd.out.tn.2.2.1) (fun e => by have := (hlo j e).1; have := HF.out j hj; omega)) o3)
      have HT2 : Hid (Tn F w w2) := hid ⟨o1.trans HDd.out.tn.1, o2.trans HDd.out.tn.2.1, Nat.le_trans HDd.out.tn.2.2.1 o3, fun j hj hn => (o4 j (Nat.lt_of_lt_of_le hj HDd.out.tn.2.2.1) (fun e => by have := (hlo j e).1; omega)).trans (HDd.out.tn.2.2.2 j hj hn)⟩
      have HE : Hid (∀ (u : World) (N : Nat), Kept w2 u → w2.heap.size ≤ N → Fill u N (due M t).length (due M t) (due M t).length → DueC2 F X M t w (.returned (.slice (some ⟨N, 0, none⟩) (due M t).length (due M t).length)) u) := hid (fun u N ku hN hf => ⟨_, rfl, fill_own hf rfl (Nat.le_trans HT2.out.2.2.1 hN) (by omega), tn_trans HT2.out (tn_kept ku), ⟨m, V, L, g, gl_kept HG2.out ku, HR.out.symm, srt_aft HS.out t⟩, by simp⟩)
      obtain ⟨a, c, hu5, hrd⟩ := rd
      have HRd : Hid (∀ k x, (due M t)[k]? = some x → ∃ q, a = some ⟨q, 0, none⟩ ∧ w2.cell? ⟨q, k * 2, none⟩ = some (.int .u64 x.1) ∧ w2.cell? ⟨q, k * 2 + 1, none⟩ = some (.int .i64 x.2)) := hid (fun k x hx => by
        obtain ⟨q, e, hq⟩ := hrd (Nat.lt_of_le_of_lt (Nat.zero_le _) (lt_of_some hx))
        exact ⟨q, e, hq k x hx⟩)
      have hmk := make_ints w2 (due M t).length (by omega)
      have HFi := hid (fill_made w2 (due M t).length (due M t))
      have HK3 := hid (kept_alloc (kept_refl w2) (.cells (madeCells #[.int .i64 0] ((due M t).length * 1)) 3))
      have HN : Hid (w2.heap.size ≤ w2.heap.size) := hid (Nat.le_refl _)
      have HX : Hid (∀ k, k < (due M t).length → ∃ x, (due M t)[k]? = some x) := hid (fun k hk => ⟨(due M t)[k], List.getElem?_eq_getElem hk⟩)
      clear hsort o1 o2 o3 o4 hlo hrd HG2 HT2 HR HSE HDd HS HF
      subst hu5
      generalize hnn : (due M t).length = n at *
      generalize hw3 : w2.alloc (.cells (madeCells #[.int .i64 0] (n * 1)) 3) = w3 at *
      clear hw3
      generalize hN : w2.heap.size = N at HFi HN hmk
      have HN2 : Hid (w2.heap.size ≤ N) := hid (by omega)
      clear hN HN
      go_wp2_with fail
      go_loopw [8, 9, 51] (fun i p j wr => ∃ k : Nat, k ≤ n ∧ j = .int .i64 (k : Int) ∧ Hid (Kept w2 wr) ∧ Hid (Fill wr N n (due M t) k)) (fun _ _ j _ => n - (intOf j).toNat)
      case atStart => exact ⟨0, Nat.zero_le _, rfl, HK3, HFi⟩
      case round =>
        clear HK3 HFi
        obtain ⟨k, hk, rfl, HK, HFi⟩ := hrel
        by_cases hlt : k < n
        · obtain ⟨x, hx⟩ := HX.out k hlt
          obtain ⟨q, rfl, q0, q1⟩ := HRd.out k x hx
          have c0 := (kept_cell HK.out (cell_lt q0)).trans q0
          have c1 := (kept_cell HK.out (cell_lt q1)).trans q1
          have HK4 := hid (kept_alloc HK.out (.cells #[.int .u64 x.1, .int .i64 x.2] 123))
          have HF4 := hid (fill_kept HFi.out (kept_alloc (kept_refl _) (.cells #[.int .u64 x.1, .int .i64 x.2] 123)))
          have HA4 := hid (at_new wr #[.int .u64 x.1, .int .i64 x.2] 123)
          obtain ⟨w4, hw4⟩ : ∃ w4, wr.alloc (.cells #[.int .u64 x.1, .int .i64 x.2] 123) = w4 := ⟨_, rfl⟩
          obtain ⟨P, hP⟩ : ∃ P, wr.heap.size = P := ⟨_, rfl⟩
          rw [hw4] at HK4 HF4 HA4
          rw [hP] at HA4
          obtain ⟨u, n0, nf⟩ := fill_cell HF4.out hlt
          obtain ⟨a0, a1, af⟩ := at_cells2 HA4.out
          obtain ⟨w5, hw5⟩ : ∃ w5, w4.setCell ⟨N, k, none⟩ (.int .i64 x.2) = w5 := ⟨_, rfl⟩
          have HF5 := hid (fill_next HF4.out hx hlt)
          have HK5 := hid (kept_set HK4.out HN2.out k (.int .i64 x.2))
          rw [hw5] at HF5 HK5
          clear hx q0 q1 HF4 HK4 HA4
          go_wp2_with fail
          go_roundw
          case rel => exact ⟨k + 1, by omega, by go_num, HK5, HF5⟩
          case measure => simp [intOf]; omega
        · have hke : k = n := by omega
          subst hke
          go_wp2_with fail
          go_ret
          exact HE.out _ _ HK.out HN2.out HFi.out
theorem due_any {F : Nat → Prop} {X : Nat} {M : List It} (t : Int) (hM : M.length ≤ 1000) (w : World) (h : Good w F X M) : Calls Tryz.prog 51 #[.pointer (some ⟨X, 0, none⟩), .int .u64 t] w (DueC F X M t w) :=
  (due_all t hM w h).mono (fun e w' h => by
    obtain ⟨v, h1, h2, h3, h4, _⟩ := h
    exact ⟨v, h1, h2, h3, h4⟩)
end Go.Proofs.YthgbdaladngpdaaGreat.Whl
