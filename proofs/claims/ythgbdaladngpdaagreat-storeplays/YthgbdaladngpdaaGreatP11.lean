/- The contracts of the store's small functions: a key's range, a record's length, what is old when, what is taken, what is above its floor; Len, Size, Evicted, Floor, Digest; the same of a nil store. Texts have at most as many bytes as a text may have. The contract of takeOut: a place is emptied. The store has at most 500 records. -/
import Derived.Test.YthgbdaladngpdaaGreatP10
import Derived.BigQuiet
import Derived.Deep.RegionHeld3
import Derived.Deep.CutBlock
import Derived.Deep.DeepCutAuto
/- The contracts of the store's small functions: a key's range, a record's length, what is old when, what is taken, what is above its floor; Len, Size, Evicted, Floor, Digest; the same of a nil store. Texts have at most as many bytes as a text may have. -/
namespace Go.Proofs.YthgbdaladngpdaaGreat
open Go.ChangeShapes Go.WideShapes Go.ChangeAt Go.RowKit
open Go.Proofs.YthgbdaladngpdaaGreat.Whl (Tn tn_kept tn_refl tn_trans tn_set tn_alloc at_tn kept_tn It)
set_option linter.unusedVariables false
set_option linter.unusedSimpArgs false
set_option maxRecDepth 100000

theorem idx34 (X k : Nat) (h : (k : Int) < 64) (w : World) : (Instr.indexAt 34 (.pointer (some ⟨X, 4, none⟩)) (.int .i64 (k : Int))).run Tryz.prog w = .ok (.pointer (some ⟨X, 4 + k * 3, none⟩)) w := by go_simp
theorem idx74 (X k : Nat) (h : (k : Int) < 64) (w : World) : (Instr.indexAt 74 (.pointer (some ⟨X, 196, none⟩)) (.int .i64 (k : Int))).run Tryz.prog w = .ok (.pointer (some ⟨X, 196 + k, none⟩)) w := by go_simp
theorem shr58 (t : Int) (h : (Lit.int .u64 t).wf = true) : wrap64 (t / 288230376151711744) = t / 288230376151711744 := by
  have := bounds_u64 h
  unfold wrap64; omega
theorem range_any (s : ByteArray) (hs : s.size ≤ maxLen) (w : World) :
    Calls Tryz.prog 56 #[.string s] w fun e w' => e = .returned (.int .i64 (rg s : Int)) ∧ w' = w := by
  have ht := wf_textI s.data.toList s.size
  rw [← rg_int]
  go_enter Tryz.func56, Tryz.ntmps56
  go_wp2_with fail
  refine (text_any s hs _).mono ?_
  rintro e w' ⟨rfl, rfl⟩
  go_wp2_with fail
  go_ret
  exact ⟨ret_int (shr58 _ ht), rfl⟩
theorem length_any (r : R) (hk : r.key.size ≤ 1000) (hb : r.body.size ≤ 3000) (w : World) :
    Calls Tryz.prog 41 #[.agg #[.string r.key, .int .u64 r.s.p, .int .u32 r.s.l, .int .u8 r.s.n, .int .u8 r.kind, .int .u32 r.flags, .int .u64 r.exp, .string r.body]] w fun e w' => e = .returned (.int .i64 (lenR r : Int)) ∧ Kept w w' := by
  have HE : Hid ((r.key.size : Int) + (r.body.size : Int) = (lenR r : Int)) := by
    show _ = _
    unfold lenR; omega
  have HK := hid (kept_alloc (kept_refl w) (.cells #[.string r.key, .int .u64 r.s.p, .int .u32 r.s.l, .int .u8 r.s.n, .int .u8 r.kind, .int .u32 r.flags, .int .u64 r.exp, .string r.body] 42))
  go_enter Tryz.func41, Tryz.ntmps41
  go_wp2_with fail
  go_ret
  exact ⟨ret_int HE.out, HK.out⟩
theorem zero33 (w : World) : (zeroValue 33).run Tryz.prog w = .ok (.agg #[.int .u64 0, .int .u32 0, .int .u8 0]) w := by kernel_rfl
theorem res1s {fn : Func} {p : Tmp} (h : fn.results = #[.cell p 33]) (tmps : Array Value) {w : World} {X T : Nat} {v0 v1 v2 : Value} (hp : tmps.getD p undef = .pointer (some ⟨X, 0, none⟩)) (hA : At w X #[v0, v1, v2] T) :
    (results fn tmps).run Tryz.prog w = .ok (.agg #[v0, v1, v2]) w := by
  obtain ⟨c0, c1, c2, -⟩ := at_cells3 hA
  have hp' : tmps[p]?.getD undef = .pointer (some ⟨X, 0, none⟩) := by simpa using hp
  simp [results, h, go_sem, hp', c0, c1, c2]
theorem upTo_any (n m : Int) (w : World) : Calls Tryz.prog 33 #[.int .i64 n, .int .i64 m] w fun e w' => e = .returned (.bool (decide (1 ≤ n) && decide (n ≤ m))) ∧ w' = w := by
  by_cases h : 1 ≤ n
  · have HE : Hid (decide (n ≤ m) = (decide (1 ≤ n) && decide (n ≤ m))) := by show _ = _; simp [h]
    go_enter Tryz.func33, Tryz.ntmps33
    go_wp2_with fail
    go_ret
    exact ⟨ret_bool HE.out, rfl⟩
  · have HE : Hid (false = (decide (1 ≤ n) && decide (n ≤ m))) := by show _ = _; simp [h]
    go_enter Tryz.func33, Tryz.ntmps33
    go_wp2_with fail
    go_ret
    exact ⟨ret_bool HE.out, rfl⟩
theorem isRange_any (k : Int) (w : World) : Calls Tryz.prog 53 #[.int .i64 k] w fun e w' => e = .returned (.bool (decide (0 ≤ k) && decide (k < 64))) ∧ w' = w := by
  by_cases h : 0 ≤ k
  · have HE : Hid (decide (k < 64) = (decide (0 ≤ k) && decide (k < 64))) := by show _ = _; simp [h]
    go_enter Tryz.func53, Tryz.ntmps53
    go_wp2_with fail
    go_ret
    exact ⟨ret_bool HE.out, rfl⟩
  · have HE : Hid (false = (decide (0 ≤ k) && decide (k < 64))) := by show _ = _; simp [h]
    go_enter Tryz.func53, Tryz.ntmps53
    go_wp2_with fail
    go_ret
    exact ⟨ret_bool HE.out, rfl⟩
section
variable {F : Nat → Prop} {X : Nat} {c : Cf} {pl : Nat → R} {l : List Nat} {f : ByteArray → Option Int} {M : List It} {fl : Nat → Stp} {dg : Nat → Nat} {size ev ct : Nat} {a : Ad}
theorem oldAt_any (hc : c.may) (r : R) (h0 : 0 ≤ r.s.p) (h1 : r.s.p ≤ 281474976710655) (w : World) (h : Sm w F X c pl l f M fl dg size ev ct a) :
    Calls Tryz.prog 37 #[.pointer (some ⟨X, 0, none⟩), .agg #[.string r.key, .int .u64 r.s.p, .int .u32 r.s.l, .int .u8 r.s.n, .int .u8 r.kind, .int .u32 r.flags, .int .u64 r.exp, .string r.body]] w fun e w' => e = .returned (.int .u64 (r.s.p + (c.K : Int))) ∧ Kept w w' := by
  have hK := hc.2.2.2.2.2
  have HK := hid (kept_alloc (kept_refl w) (.cells #[.string r.key, .int .u64 r.s.p, .int .u32 r.s.l, .int .u8 r.s.n, .int .u8 r.kind, .int .u32 r.flags, .int .u64 r.exp, .string r.body] 42))
  obtain ⟨⟨_, _, _, _, _, _, c7, _⟩, _⟩ := sm_cells (sm_kept h HK.out)
  obtain ⟨d0, d1, d2, d3, d4, d5, d6, d7⟩ := at_cells8' (at_new w #[.string r.key, .int .u64 r.s.p, .int .u32 r.s.l, .int .u8 r.s.n, .int .u8 r.kind, .int .u32 r.flags, .int .u64 r.exp, .string r.body] 42)
  clear h hc
  generalize c.K = K at *
  go_enter Tryz.func37, Tryz.ntmps37
  go_wp2_with fail
  generalize w.alloc (.cells #[.string r.key, .int .u64 r.s.p, .int .u32 r.s.l, .int .u8 r.s.n, .int .u8 r.kind, .int .u32 r.flags, .int .u64 r.exp, .string r.body] 42) = w1 at *
  generalize w.heap.size = Y at *
  go_quiet (fail)
  go_wp2_with fail
  go_ret
  exact ⟨rfl, HK.out⟩
theorem taken_any (i : Nat) (hi : i < c.n) (hn : c.n ≤ 1024) (w : World) (h : Sm w F X c pl l f M fl dg size ev ct a) :
    Calls Tryz.prog 55 #[.pointer (some ⟨X, 0, none⟩), .int .i64 (i : Int)] w fun e w' => e = .returned (.bool (decide ((pl i).kind ≠ 0))) ∧ w' = w := by
  obtain ⟨⟨c0, _⟩, _⟩ := sm_cells h
  obtain ⟨⟨_, _, _, _, r4, _⟩, _⟩ := rowR_cells h.row hi
  have HE : Hid (((pl i).kind != 0) = decide ((pl i).kind ≠ 0)) := by
    show _ = _
    by_cases e : (pl i).kind = 0
    · rw [e]; rfl
    · simp [e]
  clear h
  generalize (pl i).kind = k at *
  generalize c.n = n at *
  go_enter Tryz.func55, Tryz.ntmps55
  go_wp2_with fail
  go_ret
  exact ⟨ret_bool HE.out, rfl⟩
theorem slen_any (w : World) (h : Sm w F X c pl l f M fl dg size ev ct a) :
    Calls Tryz.prog 22 #[.pointer (some ⟨X, 0, none⟩)] w fun e w' => e = .returned (.int .i64 (ct : Int)) ∧ w' = w := by
  obtain ⟨⟨_, c1, _⟩, _⟩ := sm_cells h
  have ht := h.tab.tab
  rw [h.cnt] at ht
  have hl := Slo.len_any w ht
  clear h ht
  go_enter Tryz.func22, Tryz.ntmps22
  go_wp2_with fail
  refine hl.mono ?_
  rintro e w' ⟨rfl, rfl⟩
  go_wp2_with fail
  go_ret
  exact ⟨rfl, rfl⟩
theorem ssize_any (w : World) (h : Sm w F X c pl l f M fl dg size ev ct a) :
    Calls Tryz.prog 23 #[.pointer (some ⟨X, 0, none⟩)] w fun e w' => e = .returned (.int .i64 (size : Int)) ∧ w' = w := by
  obtain ⟨⟨_, _, _, _, _, c5, _⟩, _⟩ := sm_cells h
  clear h
  go_enter Tryz.func23, Tryz.ntmps23
  go_wp2_with fail
  go_ret
  exact ⟨rfl, rfl⟩
theorem sev_any (w : World) (h : Sm w F X c pl l f M fl dg size ev ct a) :
    Calls Tryz.prog 25 #[.pointer (some ⟨X, 0, none⟩)] w fun e w' => e = .returned (.int .i64 (ev : Int)) ∧ w' = w := by
  obtain ⟨⟨_, _, _, _, _, _, _, c8⟩, _⟩ := sm_cells h
  clear h
  go_enter Tryz.func25, Tryz.ntmps25
  go_wp2_with fail
  go_ret
  exact ⟨rfl, rfl⟩
theorem above_any (r : R) (hk : r.key.size ≤ maxLen) (w : World) (h : Sm w F X c pl l f M fl dg size ev ct a) :
    Calls Tryz.prog 40 #[.pointer (some ⟨X, 0, none⟩), .agg #[.string r.key, .int .u64 r.s.p, .int .u32 r.s.l, .int .u8 r.s.n, .int .u8 r.kind, .int .u32 r.flags, .int .u64 r.exp, .string r.body]] w fun e w' => e = .returned (.bool (decide (cmp (fl (rg r.key)) r.s < 0))) ∧ Kept w w' := by
  have HK := hid (kept_alloc (kept_refl w) (.cells #[.string r.key, .int .u64 r.s.p, .int .u32 r.s.l, .int .u8 r.s.n, .int .u8 r.kind, .int .u32 r.flags, .int .u64 r.exp, .string r.body] 42))
  have HW := hid (sm_kept h HK.out)
  have HA := hid (at_new w #[.string r.key, .int .u64 r.s.p, .int .u32 r.s.l, .int .u8 r.s.n, .int .u8 r.kind, .int .u32 r.flags, .int .u64 r.exp, .string r.body] 42)
  have hRg := range_any r.key hk
  have hk64 := rg_lt r.key
  clear h
  go_enter Tryz.func40, Tryz.ntmps40
  go_wp2_with fail
  generalize w.alloc (.cells #[.string r.key, .int .u64 r.s.p, .int .u32 r.s.l, .int .u8 r.s.n, .int .u8 r.kind, .int .u32 r.flags, .int .u64 r.exp, .string r.body] 42) = w1 at *
  generalize w.heap.size = Y at *
  have HS : Hid (∀ u, Kept w1 u → (u.cell? ⟨X, 4 + rg r.key * 3, none⟩ = some (.int .u64 (fl (rg r.key)).p) ∧ u.cell? ⟨X, 4 + rg r.key * 3 + 1, none⟩ = some (.int .u32 (fl (rg r.key)).l) ∧ u.cell? ⟨X, 4 + rg r.key * 3 + 2, none⟩ = some (.int .u8 (fl (rg r.key)).n)) ∧ (u.cell? ⟨Y, 0, none⟩ = some (.string r.key) ∧ u.cell? ⟨Y, 1, none⟩ = some (.int .u64 r.s.p) ∧ u.cell? ⟨Y, 2, none⟩ = some (.int .u32 r.s.l) ∧ u.cell? ⟨Y, 3, none⟩ = some (.int .u8 r.s.n) ∧ u.cell? ⟨Y, 4, none⟩ = some (.int .u8 r.kind) ∧ u.cell? ⟨Y, 5, none⟩ = some (.int .u32 r.flags) ∧ u.cell? ⟨Y, 6, none⟩ = some (.int .u64 r.exp) ∧ u.cell? ⟨Y, 7, none⟩ = some (.string r.body))) := hid (fun u ku => ⟨sm_floor (sm_kept HW.out ku) hk64, at_cells8' (at_kept HA.out ku)⟩)
  obtain ⟨q, hq⟩ : ∃ q, fl (rg r.key) = q := ⟨_, rfl⟩
  have HQ := hid hq
  rw [hq] at HS
  clear hq
  generalize rg r.key = k at HS hRg hk64
  have hidx := idx34 X k (by omega)
  clear hk64
  have k0 : Kept w1 w1.drew := kept_refl w1
  clear HW HA
  refine wp_region_noPanic ?_
  refine wp_region_held_drew (S := (fun w' => (w'.cell? ⟨X, 4 + k * 3, none⟩ = some (.int .u64 q.p) ∧ w'.cell? ⟨X, 4 + k * 3 + 1, none⟩ = some (.int .u32 q.l) ∧ w'.cell? ⟨X, 4 + k * 3 + 2, none⟩ = some (.int .u8 q.n)) ∧ (w'.cell? ⟨Y, 0, none⟩ = some (.string r.key) ∧ w'.cell? ⟨Y, 1, none⟩ = some (.int .u64 r.s.p) ∧ w'.cell? ⟨Y, 2, none⟩ = some (.int .u32 r.s.l) ∧ w'.cell? ⟨Y, 3, none⟩ = some (.int .u8 r.s.n) ∧ w'.cell? ⟨Y, 4, none⟩ = some (.int .u8 r.kind) ∧ w'.cell? ⟨Y, 5, none⟩ = some (.int .u32 r.flags) ∧ w'.cell? ⟨Y, 6, none⟩ = some (.int .u64 r.exp) ∧ w'.cell? ⟨Y, 7, none⟩ = some (.string r.body)))) (by kernel_rfl) (HS.out _ (by assumption)) (fun hHeld => ?_)
  refine wpAnyH_take (i := 0) (v := .pointer (some ⟨X, 0, none⟩)) rfl (by kernel_rfl) (by kernel_rfl) (by kernel_rfl) (fun _ _ _ h => h) (Or.inl ⟨by rfl, fun w hSw => by (try dsimp only at hSw); go_simp⟩) (by assumption) ?_
  try simp only [List.getElem_toArray, List.getElem_cons_zero, List.getElem_cons_succ, Act.put, List.setIfInBounds_toArray, List.set_cons_zero, List.set_cons_succ]
  refine wpAnyH_take (i := 1) (v := .pointer (some ⟨Y, 0, none⟩)) rfl (by kernel_rfl) (by kernel_rfl) (by kernel_rfl) (fun _ _ _ h => h) (Or.inl ⟨by rfl, fun w hSw => by (try dsimp only at hSw); go_simp⟩) (by assumption) ?_
  try simp only [List.getElem_toArray, List.getElem_cons_zero, List.getElem_cons_succ, Act.put, List.setIfInBounds_toArray, List.set_cons_zero, List.set_cons_succ]
  refine wpAnyH_take (i := 2) (v := .string r.key) rfl (by kernel_rfl) (by kernel_rfl) (by kernel_rfl) (fun _ _ _ h => h) (Or.inl ⟨by rfl, fun w hSw => by (try dsimp only at hSw); go_simp⟩) (by assumption) ?_
  try simp only [List.getElem_toArray, List.getElem_cons_zero, List.getElem_cons_succ, Act.put, List.setIfInBounds_toArray, List.set_cons_zero, List.set_cons_succ]
  refine wpAnyH_take (i := 4) (v := .pointer (some ⟨X, 0, none⟩)) rfl (by kernel_rfl) (by kernel_rfl) (by kernel_rfl) (fun _ _ _ h => h) (Or.inl ⟨by rfl, fun w hSw => by (try dsimp only at hSw); go_simp⟩) (by assumption) ?_
  try simp only [List.getElem_toArray, List.getElem_cons_zero, List.getElem_cons_succ, Act.put, List.setIfInBounds_toArray, List.set_cons_zero, List.set_cons_succ]
  refine wpAnyH_take (i := 5) (v := .pointer (some ⟨X, 4, none⟩)) rfl (by kernel_rfl) (by kernel_rfl) (by kernel_rfl) (fun _ _ _ h => h) (Or.inl ⟨by rfl, fun w hSw => by (try dsimp only at hSw); go_simp⟩) (by assumption) ?_
  try simp only [List.getElem_toArray, List.getElem_cons_zero, List.getElem_cons_succ, Act.put, List.setIfInBounds_toArray, List.set_cons_zero, List.set_cons_succ]
  refine wpAnyH_take (i := 8) (v := .pointer (some ⟨Y, 1, none⟩)) rfl (by kernel_rfl) (by kernel_rfl) (by kernel_rfl) (fun _ _ _ h => h) (Or.inl ⟨by rfl, fun w hSw => by (try dsimp only at hSw); go_simp⟩) (by assumption) ?_
  try simp only [List.getElem_toArray, List.getElem_cons_zero, List.getElem_cons_succ, Act.put, List.setIfInBounds_toArray, List.set_cons_zero, List.set_cons_succ]
  refine wpAnyH_take (i := 9) (v := .agg #[.int .u64 r.s.p, .int .u32 r.s.l, .int .u8 r.s.n]) rfl (by kernel_rfl) (by kernel_rfl) (by kernel_rfl) (fun _ _ _ h => h) (Or.inl ⟨by rfl, fun w hSw => by (try dsimp only at hSw); go_simp⟩) (by assumption) ?_
  try simp only [List.getElem_toArray, List.getElem_cons_zero, List.getElem_cons_succ, Act.put, List.setIfInBounds_toArray, List.set_cons_zero, List.set_cons_succ]
  refine wpAnyH_ready (rs := [3]) (by kernel_rfl) (by simp) ?_
  refine AllReadyH.cons (i := 3) rfl (fun K hK => ?_) AllReadyH.nil
  go_simp
  refine (hRg _).mono ?_
  rintro e w3 ⟨rfl, rfl⟩
  clear hHeld
  show K _ _
  refine hK.out _ _ (HS.out _ (by assumption)) (fun hHeld => ?_)
  clear hK K
  try simp only [List.getElem_toArray, List.getElem_cons_zero, List.getElem_cons_succ, Act.put, List.setIfInBounds_toArray, List.set_cons_zero, List.set_cons_succ]
  refine wpAnyH_take (i := 6) (v := .pointer (some ⟨X, 4 + k * 3, none⟩)) rfl (by kernel_rfl) (by kernel_rfl) (by kernel_rfl) (fun _ _ _ h => h) (Or.inl ⟨by rfl, fun w hSw => by (try dsimp only at hSw); go_simp⟩) (by assumption) ?_
  try simp only [List.getElem_toArray, List.getElem_cons_zero, List.getElem_cons_succ, Act.put, List.setIfInBounds_toArray, List.set_cons_zero, List.set_cons_succ]
  refine wpAnyH_take (i := 7) (v := .agg #[.int .u64 q.p, .int .u32 q.l, .int .u8 q.n]) rfl (by kernel_rfl) (by kernel_rfl) (by kernel_rfl) (fun _ _ _ h => h) (Or.inl ⟨by rfl, fun w hSw => by (try dsimp only at hSw); go_simp⟩) (by assumption) ?_
  try simp only [List.getElem_toArray, List.getElem_cons_zero, List.getElem_cons_succ, Act.put, List.setIfInBounds_toArray, List.set_cons_zero, List.set_cons_succ]
  refine wpAnyH_ready (rs := [10]) (by kernel_rfl) (by simp) ?_
  refine AllReadyH.cons (i := 10) rfl (fun K hK => ?_) AllReadyH.nil
  go_simp
  refine (compare_any q r.s _).mono ?_
  rintro e w3 ⟨rfl, h3⟩
  replace k0 := kept_trans k0 h3
  clear h3
  clear hHeld
  show K _ _
  refine hK.out _ _ (HS.out _ (by assumption)) (fun hHeld => ?_)
  clear hK K
  try simp only [List.getElem_toArray, List.getElem_cons_zero, List.getElem_cons_succ, Act.put, List.setIfInBounds_toArray, List.set_cons_zero, List.set_cons_succ]
  refine wpAnyH_take (i := 11) (v := .bool (decide (cmp q r.s < 0))) rfl (by kernel_rfl) (by kernel_rfl) (by kernel_rfl) (fun _ _ _ h => h) (Or.inl ⟨by rfl, fun w hSw => by (try dsimp only at hSw); go_simp⟩) (by assumption) ?_
  try simp only [List.getElem_toArray, List.getElem_cons_zero, List.getElem_cons_succ, Act.put, List.setIfInBounds_toArray, List.set_cons_zero, List.set_cons_succ]
  refine wpAnyH_take (i := 12) (v := .bool (decide (cmp q r.s < 0))) rfl (by kernel_rfl) (by kernel_rfl) (by kernel_rfl) (fun _ _ _ h => h) (Or.inl ⟨by rfl, fun w hSw => by (try dsimp only at hSw); go_simp⟩) (by assumption) ?_
  try simp only [List.getElem_toArray, List.getElem_cons_zero, List.getElem_cons_succ, Act.put, List.setIfInBounds_toArray, List.set_cons_zero, List.set_cons_succ]
  refine wpAnyH_done (by kernel_rfl) ?_ _
  refine NoPanic.normal ?_
  clear hHeld
  have HK2 := hid (kept_trans HK.out k0)
  clear k0 HK HS
  go_wp2_with fail
  go_ret
  exact ⟨ret_bool (by rw [HQ.out]), HK2.out⟩
theorem sfloor_bad (k : Int) (hk : ¬ (0 ≤ k ∧ k < 64)) (w : World) : Calls Tryz.prog 26 #[.pointer (some ⟨X, 0, none⟩), .int .i64 k] w fun e w' => e = .returned (.agg #[.int .u64 0, .int .u32 0, .int .u8 0]) ∧ Kept w w' := by
  have hz := zero33
  have hR := isRange_any k
  have hd : (decide (0 ≤ k) && decide (k < 64)) = false := by
    by_cases h : 0 ≤ k
    · have : ¬ k < 64 := fun g => hk ⟨h, g⟩
      simp [this]
    · simp [h]
  rw [hd] at hR
  have HA := hid (at_new w #[.int .u64 0, .int .u32 0, .int .u8 0] 33)
  have HK := hid (kept_alloc (kept_refl w) (.cells #[.int .u64 0, .int .u32 0, .int .u8 0] 33))
  clear hd
  go_enter Tryz.func26, Tryz.ntmps26
  go_wp2_with fail
  generalize w.alloc (.cells #[.int .u64 0, .int .u32 0, .int .u8 0] 33) = w1 at *
  have hY : w.heap.size ≤ w.heap.size := Nat.le_refl _
  generalize hY0 : w.heap.size = Y at HA hY
  refine (hR _).mono ?_
  rintro e w2 ⟨rfl, rfl⟩
  obtain ⟨c0, c1, c2, cf⟩ := at_cells3 HA.out
  have HA2 := hid (at_set (at_set (at_set HA.out 0 (.int .u64 0)) 1 (.int .u32 0)) 2 (.int .u8 0))
  have HK2 := hid (kept_set (kept_set (kept_set HK.out (Nat.le_of_eq hY0) 0 (.int .u64 0)) (Nat.le_of_eq hY0) 1 (.int .u32 0)) (Nat.le_of_eq hY0) 2 (.int .u8 0))
  clear HA HK
  go_wp2_with fail
  exact bodyPost_ret (res1s Tryz.results26 _ rfl HA2.out) rfl ⟨rfl, HK2.out⟩
theorem sfloor_any (k : Nat) (hk : k < 64) (w : World) (h : Sm w F X c pl l f M fl dg size ev ct a) : Calls Tryz.prog 26 #[.pointer (some ⟨X, 0, none⟩), .int .i64 (k : Int)] w fun e w' => e = .returned (.agg #[.int .u64 (fl k).p, .int .u32 (fl k).l, .int .u8 (fl k).n]) ∧ Kept w w' := by
  have hz := zero33
  have hR := isRange_any (k : Int)
  have hd : (decide (0 ≤ (k : Int)) && decide ((k : Int) < 64)) = true := by simp; omega
  rw [hd] at hR
  have HA := hid (at_new w #[.int .u64 0, .int .u32 0, .int .u8 0] 33)
  have HK := hid (kept_alloc (kept_refl w) (.cells #[.int .u64 0, .int .u32 0, .int .u8 0] 33))
  have HW := hid (sm_kept h HK.out)
  have hk65 : ¬ (64 : Int) ≤ (k : Int) := by omega
  clear hd h
  go_enter Tryz.func26, Tryz.ntmps26
  go_wp2_with fail
  generalize w.alloc (.cells #[.int .u64 0, .int .u32 0, .int .u8 0] 33) = w1 at *
  have hY : w.heap.size ≤ w.heap.size := Nat.le_refl _
  generalize hY0 : w.heap.size = Y at HA hY
  refine (hR _).mono ?_
  rintro e w2 ⟨rfl, rfl⟩
  obtain ⟨c0, c1, c2, cf⟩ := at_cells3 HA.out
  obtain ⟨f0, f1, f2⟩ := sm_floor HW.out hk
  have HA2 := hid (at_set (at_set (at_set HA.out 0 (.int .u64 (fl k).p)) 1 (.int .u32 (fl k).l)) 2 (.int .u8 (fl k).n))
  have HK2 := hid (kept_set (kept_set (kept_set HK.out (Nat.le_of_eq hY0) 0 (.int .u64 (fl k).p)) (Nat.le_of_eq hY0) 1 (.int .u32 (fl k).l)) (Nat.le_of_eq hY0) 2 (.int .u8 (fl k).n))
  clear HA HK HW
  go_wp2_with fail
  exact bodyPost_ret (res1s Tryz.results26 _ rfl HA2.out) rfl ⟨rfl, HK2.out⟩
theorem sdig_bad (k : Int) (hk : ¬ (0 ≤ k ∧ k < 64)) (w : World) : Calls Tryz.prog 27 #[.pointer (some ⟨X, 0, none⟩), .int .i64 k] w fun e w' => e = .returned (.int .u64 0) ∧ w' = w := by
  have hR := isRange_any k
  have hd : (decide (0 ≤ k) && decide (k < 64)) = false := by
    by_cases h : 0 ≤ k
    · have : ¬ k < 64 := fun g => hk ⟨h, g⟩
      simp [this]
    · simp [h]
  rw [hd] at hR
  clear hd
  go_enter Tryz.func27, Tryz.ntmps27
  go_wp2_with fail
  refine (hR _).mono ?_
  rintro e w2 ⟨rfl, rfl⟩
  go_wp2_with fail
  go_ret
  exact ⟨rfl, rfl⟩
theorem sdig_any (k : Nat) (hk : k < 64) (w : World) (h : Sm w F X c pl l f M fl dg size ev ct a) : Calls Tryz.prog 27 #[.pointer (some ⟨X, 0, none⟩), .int .i64 (k : Int)] w fun e w' => e = .returned (.int .u64 (dg k : Int)) ∧ w' = w := by
  have hR := isRange_any (k : Int)
  have hd : (decide (0 ≤ (k : Int)) && decide ((k : Int) < 64)) = true := by simp; omega
  rw [hd] at hR
  have c0 := sm_digest h hk
  have hk65 : ¬ (64 : Int) ≤ (k : Int) := by omega
  clear hd h
  go_enter Tryz.func27, Tryz.ntmps27
  go_wp2_with fail
  refine (hR _).mono ?_
  rintro e w2 ⟨rfl, rfl⟩
  go_wp2_with fail
  go_ret
  exact ⟨rfl, rfl⟩
end
end Go.Proofs.YthgbdaladngpdaaGreat

/- The contract of takeOut: a place is emptied. The store has at most 500 records. -/
namespace Go.Proofs.YthgbdaladngpdaaGreat
open Go.ChangeShapes Go.WideShapes Go.ChangeAt Go.RowKit
open Go.Proofs.YthgbdaladngpdaaGreat.Whl (Tn tn_kept tn_refl tn_trans tn_set tn_alloc at_tn kept_tn It)
set_option linter.unusedVariables false
set_option linter.unusedSimpArgs false
set_option maxRecDepth 100000

theorem nodup_subN {α : Type} : ∀ {L P : List α}, L.Nodup → (∀ x ∈ L, x ∈ P) → L.length ≤ P.length
  | [], P, _, _ => Nat.zero_le _
  | x :: L, P, h, hs => by
    obtain ⟨h1, h2⟩ := List.nodup_cons.1 h
    obtain ⟨a, b, rfl⟩ := List.append_of_mem (hs x List.mem_cons_self)
    have := nodup_subN (P := a ++ b) h2 (fun y hy => by
      have := hs y (List.mem_cons_of_mem _ hy)
      simp at this ⊢
      rcases this with g | g | g
      · exact .inl g
      · rw [g] at hy; exact absurd hy h1
      · exact .inr g)
    simp at this ⊢
    omega
theorem whl_len {c : Cf} {pl : Nat → R} {l : List Nat} {f : ByteArray → Option Int} {M : List It} {pend : Nat → Prop} (h : Coh c pl l f M pend) (hM : Whl.Srt M) : M.length ≤ l.length := by
  have h1 : (M.map (fun z => z.2)).Nodup := by
    have := hM.uni
    unfold List.Nodup
    rw [List.pairwise_map]
    exact this
  have h2 := nodup_subN (P := l.map (fun i : Nat => (i : Int))) h1 (fun x hx => by
    obtain ⟨z, hz, rfl⟩ := List.mem_map.1 hx
    obtain ⟨i, hi, _, rfl⟩ := (h.whl z).1 hz
    exact List.mem_map.2 ⟨i, hi, rfl⟩)
  simpa using h2
theorem wf_nat {i : Nat} (h : i ≤ 1024) : Whl.Wf (i : Int) := WalkArith.wf_i64 (by omega)
theorem xor_int {a b v : Nat} (ha : a < 18446744073709551616) (hb : b < 18446744073709551616) (h : a ^^^ b = v) : bits .xor .u64 (a : Int) (b : Int) = (v : Int) := by
  rw [u64_xor_nat _ _ (by omega) (by omega), h]
def OutC (F : Nat → Prop) (X : Nat) (c : Cf) (pl : Nat → R) (l : List Nat) (fl : Nat → Stp) (ev : Nat) (pend' : Nat → Prop) (i : Nat) (w : World) (e : Ending) (w' : World) : Prop :=
  e = .returned (.tuple #[]) ∧ Tn F w w' ∧ StI w' F X c (updR pl i zeroR) (less l i) fl ev pend'
set_option maxHeartbeats 3200000 in
theorem takeOut_any {F : Nat → Prop} {X : Nat} {c : Cf} {pl : Nat → R} {l : List Nat} {fl : Nat → Stp} {ev : Nat} {pend pend' : Nat → Prop} (hc : c.may) (i : Nat) (hi : i ∈ l) (hl : l.length ≤ 500) (hp : ∀ j, j ≠ i → (pend' j ↔ pend j)) (w : World) (h : StI w F X c pl l fl ev pend) :
    Calls Tryz.prog 42 #[.pointer (some ⟨X, 0, none⟩), .int .i64 (i : Int)] w (OutC F X c pl l fl ev pend' i w) := by
  obtain ⟨f, M, a, hm, hco⟩ := h
  have hz := zero27
  have hin : i < c.n := hco.low i hi
  have hn4 : c.n ≤ 1024 := hc.2.1
  have hmay := hco.may i hi
  have hkey : (pl i).key.size ≤ 250 := (may_len hmay).2
  have hlenr : lenR (pl i) ≤ 1274 := (may_len hmay).1
  have hbod : (pl i).body.size ≤ 3000 := by unfold lenR at hlenr; omega
  have hML : M.length ≤ 1000 := by have := whl_len hco (Whl.good_srt hm.whl); omega
  obtain ⟨⟨c0, c1, c2, c3, _⟩, cf⟩ := sm_cells hm
  obtain ⟨⟨r0, r1, r2, r3, r4, r5, r6, r7⟩, _⟩ := rowR_cells hm.row hin
  -- what it ends as
  have HEnd : Hid (∀ (u : World) (a' : Ad) (f' : ByteArray → Option Int), Tn F w u → (∀ k, f' k = if k = (pl i).key then none else f k) → Sm u F X c (updR pl i zeroR) (less l i) f' (Whl.wo M (i : Int)) fl (updN (fun k => digL k (l.map pl)) (rg (pl i).key) (digL (rg (pl i).key) (l.map pl) ^^^ dgN (pl i))) (sizeL ((less l i).map pl)) ev (l.length - 1) a' → OutC F X c pl l fl ev pend' i w (.returned (.tuple #[])) u) := hid (fun u a' f' tu hf hs => by
    refine ⟨rfl, tu, f', Whl.wo M (i : Int), a', ?_, coh_out hco hi hp hf (fun z => ?_)⟩
    · have e1 : (less l i).length = l.length - 1 := by
        have := (coh_perm hco hi).length_eq
        simp at this; omega
      have e2 : (less l i).map (updR pl i zeroR) = (less l i).map pl := map_less pl zeroR l i
      have e3 : updN (fun k => digL k (l.map pl)) (rg (pl i).key) (digL (rg (pl i).key) (l.map pl) ^^^ dgN (pl i)) = fun k => digL k ((less l i).map pl) := by
        funext k
        unfold updN
        split
        · rename_i e
          subst e
          rw [coh_dig hco hi, if_pos rfl, Nat.xor_comm (dgN (pl i)), Nat.xor_assoc, Nat.xor_self, Nat.xor_zero]
        · rename_i e
          show digL k (l.map pl) = _
          rw [coh_dig hco hi, if_neg (Ne.symm e)]
      rw [e2, e1, ← e3]
      exact hs
    · unfold Whl.wo; simp)
  have HSz := hid (coh_size hco hi)
  have HSb : Hid (sizeL (l.map pl) ≤ 1000000) := hid (by
    have := size_bound (l.map pl) (fun r hr => by
      obtain ⟨j, hj, rfl⟩ := List.mem_map.1 hr
      exact hco.may j hj)
    simp at this
    omega)
  have HDg : Hid (digL (rg (pl i).key) (l.map pl) < 18446744073709551616) := hid (digL_lt _ _)
  have HLl : Hid (1 ≤ l.length ∧ i ∈ l) := hid ⟨by cases l with | nil => cases hi | cons x t => simp, hi⟩
  have HSm := hid hm
  have HMp : Hid (f (pl i).key ≠ none) := hid (fun e => by
    have := (hco.map (pl i).key (i : Int)).2 ⟨i, hi, rfl, rfl⟩
    rw [e] at this; cases this)
  have hY : ¬ F w.heap.size := fun hf => by have := hm.low _ hf; omega
  have HY := hid hY
  clear hm hco hmay hp hY
  generalize hsz0 : sizeL (l.map pl) = sz at *
  generalize hsz1 : sizeL ((less l i).map pl) = sz1 at *
  have HSm0 : Hid (Sm w F X c pl l f M fl (fun k => digL k (l.map pl)) sz ev l.length a) := HSm
  clear HSm hsz0 hsz1
  generalize hr0 : pl i = r at *
  obtain ⟨w1, hw1⟩ : ∃ w1, w.alloc (.cells #[.string r.key, .int .u64 r.s.p, .int .u32 r.s.l, .int .u8 r.s.n, .int .u8 r.kind, .int .u32 r.flags, .int .u64 r.exp, .string r.body] 42) = w1 := ⟨_, rfl⟩
  obtain ⟨Y, hYs⟩ : ∃ Y, w.heap.size = Y := ⟨_, rfl⟩
  have K1 := kept_alloc (kept_refl w) (.cells #[.string r.key, .int .u64 r.s.p, .int .u32 r.s.l, .int .u8 r.s.n, .int .u8 r.kind, .int .u32 r.flags, .int .u64 r.exp, .string r.body] 42)
  have A1 := at_new w #[.string r.key, .int .u64 r.s.p, .int .u32 r.s.l, .int .u8 r.s.n, .int .u8 r.kind, .int .u32 r.flags, .int .u64 r.exp, .string r.body] 42
  rw [hw1] at K1 A1
  rw [hYs] at A1 HY
  have HA1 := hid A1
  have HW1 := hid (sm_kept HSm0.out K1)
  have HK1 := hid K1
  have HYs := hid hYs
  clear K1 A1 HSm0
  obtain ⟨⟨d0, d1, _⟩, _⟩ := sm_cells HW1.out
  obtain ⟨⟨q0, q1, q2, q3, q4, q5, q6, q7⟩, qf⟩ := rowR_cells HW1.out.row hin
  have HW2 := hid (sm_pl HW1.out hin zeroR)
  have T12 := tn_set8o (tn_refl (F := F) (w := w1)) HW1.out.fP (i * 8) (.string zeroR.key) (.int .u64 zeroR.s.p) (.int .u32 zeroR.s.l) (.int .u8 zeroR.s.n) (.int .u8 zeroR.kind) (.int .u32 zeroR.flags) (.int .u64 zeroR.exp) (.string zeroR.body)
  have HA2 := hid (at_tn HA1.out T12 HY.out)
  have HT2 := hid (tn_trans (tn_kept (F := F) HK1.out) T12)
  clear T12
  simp only [set8o, zeroR, zero] at HW2 HT2 HA2
  obtain ⟨w2, hw2⟩ : ∃ w2, set8o w1 a.P (i * 8) (.string ⟨#[]⟩) (.int .u64 0) (.int .u32 0) (.int .u8 0) (.int .u8 0) (.int .u32 0) (.int .u64 0) (.string ⟨#[]⟩) = w2 := ⟨_, rfl⟩
  simp only [set8o] at hw2
  rw [hw2] at HW2 HT2 HA2
  replace HW2 : Hid (Sm w2 F X c (updR pl i zeroR) l f M fl (fun k => digL k (l.map pl)) sz ev l.length a) := HW2
  clear HW1 HK1 HA1
  have hsm : r.key.size ≤ maxLen := by unfold maxLen; omega
  have HW2d := hid (sm_kept HW2.out (kept_drew (kept_refl w2)))
  have hDrop := Slo.drop_any r.key hsm w2.drew HW2d.out.tab
  have HD4 : Hid (∀ u, Slo.Turns a.Xt a.Rt w2.drew u → Slo.Good u a.Xt a.Rt a.m c.n (Slo.dropT (Slo.hm a.m) a.m a.T r.key).2 → ∃ a' f', (∀ k, f' k = if k = r.key then none else f k) ∧ Sm u F X c (updR pl i zeroR) l f' M fl (fun k => digL k (l.map pl)) sz ev (l.length - 1) a' ∧ Tn F w u ∧ At u Y #[.string r.key, .int .u64 r.s.p, .int .u32 r.s.l, .int .u8 r.s.n, .int .u8 r.kind, .int .u32 r.flags, .int .u64 r.exp, .string r.body] 42) := hid (fun u t g => by
    refine ⟨{ a with T := (Slo.dropT (Slo.hm a.m) a.m a.T r.key).2 }, fun k => if k = r.key then none else f k, fun k => rfl, sm_tab HW2d.out t g (fun k => ?_) ?_, tn_trans HT2.out (tn_turns t HW2.out.fXt HW2.out.fRt), at_tn HA2.out (tn_turns (F := F) t HW2.out.fXt HW2.out.fRt) HY.out⟩
    · rw [Slo.drop_mp HW2d.out.tab g, HW2.out.mp]
    · have := Slo.drop_cnt (k := r.key) HW2d.out.tab
      rw [HW2.out.mp, if_neg HMp.out, HW2.out.cnt] at this
      omega)
  have hS0 : (w2.drew.cell? ⟨X, 1, none⟩ = some (.pointer (some ⟨a.Xt, 0, none⟩))) ∧ (w2.drew.cell? ⟨Y, 0, none⟩ = some (.string r.key)) := ⟨(sm_cells HW2d.out).1.2.1, at_cell (at_drew HA2.out) 0⟩
  have HS4 : Hid (∀ u, Slo.Turns a.Xt a.Rt w2.drew u → (u.cell? ⟨X, 1, none⟩ = some (.pointer (some ⟨a.Xt, 0, none⟩))) ∧ (u.cell? ⟨Y, 0, none⟩ = some (.string r.key))) := hid (fun u t => by
    have q := sm_ats HW2d.out
    obtain ⟨cs, h1, h2⟩ := HW2d.out.obj
    exact ⟨(at_cell (Slo.at_turns h1 t (ne_of q.x q.xt (by decide)) (ne_of q.x q.rt (by decide))) 1).trans h2.c1, at_cell (at_tn HA2.out (tn_turns (F := F) t HW2.out.fXt HW2.out.fRt) HY.out) 0⟩)
  clear HW2 HT2 HA2
  go_enter Tryz.func42, Tryz.ntmps42
  go_wp2_with fail
  clear hw1 hw2 hz c0 c1 c2 c3 cf r0 r1 r2 r3 r4 r5 r6 r7 q0 q1 q2 q3 q4 q5 q6 q7 d0 d1
  refine wp_region_noPanic ?_
  refine wp_region_held_drew (S := (fun w' => (w'.cell? ⟨X, 1, none⟩ = some (.pointer (some ⟨a.Xt, 0, none⟩))) ∧ (w'.cell? ⟨Y, 0, none⟩ = some (.string r.key)))) (by kernel_rfl) (by first | exact hS0 | assumption) (fun hHeld => ?_)
  refine wpAnyH_take (i := 0) (v := .pointer (some ⟨X, 0, none⟩)) rfl (by kernel_rfl) (by kernel_rfl) (by kernel_rfl) (fun _ _ _ h => h) (Or.inl ⟨by rfl, fun w hSw => by (try dsimp only at hSw); go_simp⟩) (by assumption) ?_
  refine wpAnyH_take (i := 1) (v := .pointer (some ⟨X, 0, none⟩)) rfl (by kernel_rfl) (by kernel_rfl) (by kernel_rfl) (fun _ _ _ h => h) (Or.inl ⟨by rfl, fun w hSw => by (try dsimp only at hSw); go_simp⟩) (by assumption) ?_
  refine wpAnyH_take (i := 2) (v := .pointer (some ⟨X, 1, none⟩)) rfl (by kernel_rfl) (by kernel_rfl) (by kernel_rfl) (fun _ _ _ h => h) (Or.inl ⟨by rfl, fun w hSw => by (try dsimp only at hSw); go_simp⟩) (by assumption) ?_
  refine wpAnyH_take (i := 3) (v := .pointer (some ⟨a.Xt, 0, none⟩)) rfl (by kernel_rfl) (by kernel_rfl) (by kernel_rfl) (fun _ _ _ h => h) (Or.inl ⟨by rfl, fun w hSw => by (try dsimp only at hSw); go_simp⟩) (by assumption) ?_
  refine wpAnyH_take (i := 4) (v := .pointer (some ⟨Y, 0, none⟩)) rfl (by kernel_rfl) (by kernel_rfl) (by kernel_rfl) (fun _ _ _ h => h) (Or.inl ⟨by rfl, fun w hSw => by (try dsimp only at hSw); go_simp⟩) (by assumption) ?_
  refine wpAnyH_take (i := 5) (v := .string r.key) rfl (by kernel_rfl) (by kernel_rfl) (by kernel_rfl) (fun _ _ _ h => h) (Or.inl ⟨by rfl, fun w hSw => by (try dsimp only at hSw); go_simp⟩) (by assumption) ?_
  try simp only [List.getElem_toArray, List.getElem_cons_zero, List.getElem_cons_succ, Act.put, List.setIfInBounds_toArray, List.set_cons_zero, List.set_cons_succ]
  refine wpAnyH_ready (rs := [6]) (by kernel_rfl) (by simp) ?_
  refine AllReadyH.cons (i := 6) rfl (fun K hK => ?_) AllReadyH.nil
  go_simp
  refine (hDrop).mono ?_
  rintro e w4 ⟨rfl, t4, g4⟩
  have HB := hid (HD4.out _ t4 g4)
  have hS := HS4.out _ t4
  clear t4 g4
  clear hHeld
  show K _ _
  refine hK.out _ _ (by first | exact hS0 | assumption) (fun hHeld => ?_)
  clear hK K
  try simp only [List.getElem_toArray, List.getElem_cons_zero, List.getElem_cons_succ, Act.put, List.setIfInBounds_toArray, List.set_cons_zero, List.set_cons_succ]
  refine wpAnyH_done (by kernel_rfl) ?_ _
  refine NoPanic.normal ?_
  clear hHeld hDrop hS hS0 HD4 HS4
  obtain ⟨a4, f4, hf4, hw4, ht4, ha4⟩ := HB.out
  obtain ⟨⟨_, _, c2, c3, _⟩, _⟩ := sm_cells hw4
  have HF4 := hid hf4
  have HW4 := hid hw4
  have HT4 := hid ht4
  have HA4 := hid ha4
  clear HB hf4 hw4 ht4 ha4 HW2d HMp
  go_wp2_with fail
  refine (Lru.drop_any i hin _ HW4.out.lst).mono ?_
  rintro e w5 ⟨rfl, t5, g5⟩
  have HW5 : Hid (Sm w5 F X c (updR pl i zeroR) (less l i) f4 M fl (fun k => digL k (l.map pl)) sz ev (l.length - 1) a4) := hid (sm_lst HW4.out t5 g5)
  have HT5 := hid (tn_trans HT4.out (tn_turn t5 HW4.out.fRl))
  have HA5 := hid (at_tn HA4.out (tn_turn (F := F) t5 HW4.out.fRl) HY.out)
  clear c2 c3 t5 g5 HW4 HT4 HA4
  obtain ⟨⟨_, _, _, c3, _⟩, _⟩ := sm_cells HW5.out
  go_wp2_with fail
  refine (Whl.drop_any (i : Int) (wf_nat (by omega)) hML _ HW5.out.whl).mono ?_
  rintro e w6 ⟨rfl, t6, g6⟩
  have HW6 := hid (sm_whl' HW5.out t6 g6)
  have HT6 := hid (tn_trans HT5.out (tn_mono t6 HW5.out.fw))
  have HA6 := hid (at_tn HA5.out (tn_mono t6 HW5.out.fw) HY.out)
  clear c3 t6 g6 HW5 HT5 HA5
  have hRg := range_any r.key hsm
  have HK64 := hid (rg_lt r.key)
  obtain ⟨k, hk⟩ : ∃ k, rg r.key = k := ⟨_, rfl⟩
  rw [hk] at hRg HK64 HEnd HDg
  clear hk
  obtain ⟨v, hv⟩ : ∃ v, digL (k) (l.map pl) ^^^ dgN r = v := ⟨_, rfl⟩
  have hxor : bits .xor .u64 (digL (k) (l.map pl) : Int) (digR r) = (v : Int) := by rw [dgN_int]; exact xor_int HDg.out (dgN_lt r) hv
  have hidx := idx74 X k (by have := HK64.out; omega)
  have hkm : r.key.size ≤ maxLen := hsm
  rw [hv] at HEnd
  have HE : Hid (∀ u, Kept w6 u → Hid (Sm (u.setCell ⟨X, 196 + k, none⟩ (.int .u64 (v : Int))) F X c (updR pl i zeroR) (less l i) f4 (Whl.wo M (i : Int)) fl (updN (fun k => digL k (l.map pl)) (k) v) sz ev (l.length - 1) a4) ∧ Hid (Tn F w (u.setCell ⟨X, 196 + k, none⟩ (.int .u64 (v : Int)))) ∧ Hid (At (u.setCell ⟨X, 196 + k, none⟩ (.int .u64 (v : Int))) Y #[.string r.key, .int .u64 r.s.p, .int .u32 r.s.l, .int .u8 r.s.n, .int .u8 r.kind, .int .u32 r.flags, .int .u64 r.exp, .string r.body] 42)) := hid (fun u ku => ⟨hid (sm_dg (sm_kept HW6.out ku) HK64.out v), hid (tn_set (tn_trans HT6.out (tn_kept ku)) (.inl HW6.out.fX) _ _), hid (at_other (at_kept HA6.out ku) (fun e => HY.out (by rw [e]; exact HW6.out.fX)) _ _)⟩)
  have HC : Hid (∀ u, Kept w6 u → u.cell? ⟨X, 196 + k, none⟩ = some (.int .u64 (digL (k) (l.map pl) : Int))) := hid (fun u ku => sm_digest (sm_kept HW6.out ku) HK64.out)
  have HF : Hid (∀ u, Kept w6 u → ∀ j, u.frozen? ⟨X, j, none⟩ = false) := hid (fun u ku => (sm_cells (sm_kept HW6.out ku)).2)
  have HS : Hid (∀ u, Kept w6 u → (u.cell? ⟨Y, 0, none⟩ = some (.string r.key) ∧ u.cell? ⟨Y, 1, none⟩ = some (.int .u64 r.s.p) ∧ u.cell? ⟨Y, 2, none⟩ = some (.int .u32 r.s.l) ∧ u.cell? ⟨Y, 3, none⟩ = some (.int .u8 r.s.n) ∧ u.cell? ⟨Y, 4, none⟩ = some (.int .u8 r.kind) ∧ u.cell? ⟨Y, 5, none⟩ = some (.int .u32 r.flags) ∧ u.cell? ⟨Y, 6, none⟩ = some (.int .u64 r.exp) ∧ u.cell? ⟨Y, 7, none⟩ = some (.string r.body))) := hid (fun u ku => at_cells8' (at_kept HA6.out ku))
  have HZ : Hid (∀ u, Kept w6 u → ((u.setCell ⟨X, 196 + k, none⟩ (.int .u64 (v : Int))).cell? ⟨Y, 0, none⟩ = some (.string r.key) ∧ (u.setCell ⟨X, 196 + k, none⟩ (.int .u64 (v : Int))).cell? ⟨Y, 1, none⟩ = some (.int .u64 r.s.p) ∧ (u.setCell ⟨X, 196 + k, none⟩ (.int .u64 (v : Int))).cell? ⟨Y, 2, none⟩ = some (.int .u32 r.s.l) ∧ (u.setCell ⟨X, 196 + k, none⟩ (.int .u64 (v : Int))).cell? ⟨Y, 3, none⟩ = some (.int .u8 r.s.n) ∧ (u.setCell ⟨X, 196 + k, none⟩ (.int .u64 (v : Int))).cell? ⟨Y, 4, none⟩ = some (.int .u8 r.kind) ∧ (u.setCell ⟨X, 196 + k, none⟩ (.int .u64 (v : Int))).cell? ⟨Y, 5, none⟩ = some (.int .u32 r.flags) ∧ (u.setCell ⟨X, 196 + k, none⟩ (.int .u64 (v : Int))).cell? ⟨Y, 6, none⟩ = some (.int .u64 r.exp) ∧ (u.setCell ⟨X, 196 + k, none⟩ (.int .u64 (v : Int))).cell? ⟨Y, 7, none⟩ = some (.string r.body))) := hid (fun u ku => at_cells8' (HE.out u ku).2.2.out)
  generalize hd0 : digL (k) (l.map pl) = d at hxor HC HDg
  clear hv hd0 HDg HW6 HT6 HA6 hML
  go_upto_region 5 with fail
  go_cut [0] (fun s wc => s = .pointer (some ⟨X, 0, none⟩) ∧ Hid (Sm wc F X c (updR pl i zeroR) (less l i) f4 (Whl.wo M (i : Int)) fl (updN (fun k => digL k (l.map pl)) k v) sz ev (l.length - 1) a4) ∧ Hid (Tn F w wc) ∧ Hid (At wc Y #[.string r.key, .int .u64 r.s.p, .int .u32 r.s.l, .int .u8 r.s.n, .int .u8 r.kind, .int .u32 r.flags, .int .u64 r.exp, .string r.body] 42))
  case first =>
    clear HEnd HF4 HSz HSb
    have k0 : Kept w6 w6.drew := kept_refl w6
    have cD := HC.out _ k0
    refine wp_region_noPanic ?_
    refine wp_region_held_drew (S := (fun w' => (w'.cell? ⟨Y, 0, none⟩ = some (.string r.key) ∧ w'.cell? ⟨Y, 1, none⟩ = some (.int .u64 r.s.p) ∧ w'.cell? ⟨Y, 2, none⟩ = some (.int .u32 r.s.l) ∧ w'.cell? ⟨Y, 3, none⟩ = some (.int .u8 r.s.n) ∧ w'.cell? ⟨Y, 4, none⟩ = some (.int .u8 r.kind) ∧ w'.cell? ⟨Y, 5, none⟩ = some (.int .u32 r.flags) ∧ w'.cell? ⟨Y, 6, none⟩ = some (.int .u64 r.exp) ∧ w'.cell? ⟨Y, 7, none⟩ = some (.string r.body)))) (by kernel_rfl) (by first | exact HS.out _ k0 | assumption) (fun hHeld => ?_)
    refine wpAnyH_take (i := 0) (v := .pointer (some ⟨X, 0, none⟩)) rfl (by kernel_rfl) (by kernel_rfl) (by kernel_rfl) (fun _ _ _ h => h) (Or.inl ⟨by rfl, fun w hSw => by (try dsimp only at hSw); go_simp⟩) (by assumption) ?_
    refine wpAnyH_take (i := 1) (v := .pointer (some ⟨Y, 0, none⟩)) rfl (by kernel_rfl) (by kernel_rfl) (by kernel_rfl) (fun _ _ _ h => h) (Or.inl ⟨by rfl, fun w hSw => by (try dsimp only at hSw); go_simp⟩) (by assumption) ?_
    refine wpAnyH_take (i := 2) (v := .string r.key) rfl (by kernel_rfl) (by kernel_rfl) (by kernel_rfl) (fun _ _ _ h => h) (Or.inl ⟨by rfl, fun w hSw => by (try dsimp only at hSw); go_simp⟩) (by assumption) ?_
    refine wpAnyH_take (i := 4) (v := .pointer (some ⟨X, 0, none⟩)) rfl (by kernel_rfl) (by kernel_rfl) (by kernel_rfl) (fun _ _ _ h => h) (Or.inl ⟨by rfl, fun w hSw => by (try dsimp only at hSw); go_simp⟩) (by assumption) ?_
    refine wpAnyH_take (i := 5) (v := .pointer (some ⟨X, 196, none⟩)) rfl (by kernel_rfl) (by kernel_rfl) (by kernel_rfl) (fun _ _ _ h => h) (Or.inl ⟨by rfl, fun w hSw => by (try dsimp only at hSw); go_simp⟩) (by assumption) ?_
    refine wpAnyH_take (i := 8) (v := .agg #[.string r.key, .int .u64 r.s.p, .int .u32 r.s.l, .int .u8 r.s.n, .int .u8 r.kind, .int .u32 r.flags, .int .u64 r.exp, .string r.body]) rfl (by kernel_rfl) (by kernel_rfl) (by kernel_rfl) (fun _ _ _ h => h) (Or.inl ⟨by rfl, fun w hSw => by (try dsimp only at hSw); go_simp⟩) (by assumption) ?_
    refine wpAnyH_take (i := 11) (v := .pointer (some ⟨X, 0, none⟩)) rfl (by kernel_rfl) (by kernel_rfl) (by kernel_rfl) (fun _ _ _ h => h) (Or.inl ⟨by rfl, fun w hSw => by (try dsimp only at hSw); go_simp⟩) (by assumption) ?_
    refine wpAnyH_take (i := 12) (v := .pointer (some ⟨X, 196, none⟩)) rfl (by kernel_rfl) (by kernel_rfl) (by kernel_rfl) (fun _ _ _ h => h) (Or.inl ⟨by rfl, fun w hSw => by (try dsimp only at hSw); go_simp⟩) (by assumption) ?_
    try simp only [List.getElem_toArray, List.getElem_cons_zero, List.getElem_cons_succ, Act.put, List.setIfInBounds_toArray, List.set_cons_zero, List.set_cons_succ]
    refine wpAnyH_ready (rs := [3]) (by kernel_rfl) (by simp) ?_
    refine AllReadyH.cons (i := 3) rfl (fun K hK => ?_) AllReadyH.nil
    go_simp
    refine (hRg _).mono ?_
    rintro e w3 ⟨rfl, rfl⟩
    clear hHeld
    show K _ _
    refine hK.out _ _ (by first | exact HS.out _ k0 | assumption) (fun hHeld => ?_)
    clear hK K
    refine wpAnyH_take (i := 6) (v := .pointer (some ⟨X, 196 + k, none⟩)) rfl (by kernel_rfl) (by kernel_rfl) (by kernel_rfl) (fun _ _ _ h => h) (Or.inl ⟨by rfl, fun w hSw => by (try dsimp only at hSw); go_simp⟩) (by assumption) ?_
    try simp only [List.getElem_toArray, List.getElem_cons_zero, List.getElem_cons_succ, Act.put, List.setIfInBounds_toArray, List.set_cons_zero, List.set_cons_succ]
    refine wpAnyH_ready (rs := [7, 9]) (by kernel_rfl) (by simp) ?_
    refine AllReadyH.cons (i := 7) rfl (fun K hK => ?_) ?_
    · go_simp
      clear hHeld
      show K _ _
      refine hK.out _ _ (by first | exact HS.out _ k0 | assumption) (fun hHeld => ?_)
      clear hK K
      try simp only [List.getElem_toArray, List.getElem_cons_zero, List.getElem_cons_succ, Act.put, List.setIfInBounds_toArray, List.set_cons_zero, List.set_cons_succ]
      refine wpAnyH_ready (rs := [9]) (by kernel_rfl) (by simp) ?_
      refine AllReadyH.cons (i := 9) rfl (fun K hK => ?_) AllReadyH.nil
      go_simp
      refine (Digest_any r hkm _).mono ?_
      rintro e w3 ⟨rfl, h3⟩
      replace k0 := kept_trans k0 h3
      clear h3
      have cD := HC.out _ k0
      clear hHeld
      show K _ _
      refine hK.out _ _ (by first | exact HS.out _ k0 | assumption) (fun hHeld => ?_)
      clear hK K
      refine wpAnyH_take (i := 10) (v := .int .u64 (v : Int)) rfl (by kernel_rfl) (by kernel_rfl) (by kernel_rfl) (fun _ _ _ h => h) (Or.inl ⟨by rfl, fun w hSw => by (try dsimp only at hSw); go_simp⟩) (by assumption) ?_
      refine wpAnyH_take (i := 13) (v := .pointer (some ⟨X, 196 + k, none⟩)) rfl (by kernel_rfl) (by kernel_rfl) (by kernel_rfl) (fun _ _ _ h => h) (Or.inl ⟨by rfl, fun w hSw => by (try dsimp only at hSw); go_simp⟩) (by assumption) ?_
      try simp only [List.getElem_toArray, List.getElem_cons_zero, List.getElem_cons_succ, Act.put, List.setIfInBounds_toArray, List.set_cons_zero, List.set_cons_succ]
      refine wpAnyH_ready (rs := [14]) (by kernel_rfl) (by simp) ?_
      refine AllReadyH.cons (i := 14) rfl (fun K hK => ?_) AllReadyH.nil
      have fD := HF.out _ k0
      go_simp
      have hS := HZ.out _ k0
      clear hHeld
      show K _ _
      refine hK.out _ _ (by first | exact HS.out _ k0 | assumption) (fun hHeld => ?_)
      clear hK K
      try simp only [List.getElem_toArray, List.getElem_cons_zero, List.getElem_cons_succ, Act.put, List.setIfInBounds_toArray, List.set_cons_zero, List.set_cons_succ]
      refine wpAnyH_done (by kernel_rfl) ?_ _
      refine NoPanic.normal ?_
      clear hHeld
      go_wp2_with fail
      go_meet
      case rel => exact ⟨rfl, HE.out _ k0⟩
    refine AllReadyH.cons (i := 9) rfl (fun K hK => ?_) AllReadyH.nil
    go_simp
    refine (Digest_any r hkm _).mono ?_
    rintro e w3 ⟨rfl, h3⟩
    replace k0 := kept_trans k0 h3
    clear h3
    have cD := HC.out _ k0
    clear hHeld
    show K _ _
    refine hK.out _ _ (by first | exact HS.out _ k0 | assumption) (fun hHeld => ?_)
    clear hK K
    try simp only [List.getElem_toArray, List.getElem_cons_zero, List.getElem_cons_succ, Act.put, List.setIfInBounds_toArray, List.set_cons_zero, List.set_cons_succ]
    refine wpAnyH_ready (rs := [7]) (by kernel_rfl) (by simp) ?_
    refine AllReadyH.cons (i := 7) rfl (fun K hK => ?_) AllReadyH.nil
    go_simp
    clear hHeld
    show K _ _
    refine hK.out _ _ (by first | exact HS.out _ k0 | assumption) (fun hHeld => ?_)
    clear hK K
    refine wpAnyH_take (i := 10) (v := .int .u64 (v : Int)) rfl (by kernel_rfl) (by kernel_rfl) (by kernel_rfl) (fun _ _ _ h => h) (Or.inl ⟨by rfl, fun w hSw => by (try dsimp only at hSw); go_simp⟩) (by assumption) ?_
    refine wpAnyH_take (i := 13) (v := .pointer (some ⟨X, 196 + k, none⟩)) rfl (by kernel_rfl) (by kernel_rfl) (by kernel_rfl) (fun _ _ _ h => h) (Or.inl ⟨by rfl, fun w hSw => by (try dsimp only at hSw); go_simp⟩) (by assumption) ?_
    try simp only [List.getElem_toArray, List.getElem_cons_zero, List.getElem_cons_succ, Act.put, List.setIfInBounds_toArray, List.set_cons_zero, List.set_cons_succ]
    refine wpAnyH_ready (rs := [14]) (by kernel_rfl) (by simp) ?_
    refine AllReadyH.cons (i := 14) rfl (fun K hK => ?_) AllReadyH.nil
    have fD := HF.out _ k0
    go_simp
    have hS := HZ.out _ k0
    clear hHeld
    show K _ _
    refine hK.out _ _ (by first | exact HS.out _ k0 | assumption) (fun hHeld => ?_)
    clear hK K
    try simp only [List.getElem_toArray, List.getElem_cons_zero, List.getElem_cons_succ, Act.put, List.setIfInBounds_toArray, List.set_cons_zero, List.set_cons_succ]
    refine wpAnyH_done (by kernel_rfl) ?_ _
    refine NoPanic.normal ?_
    clear hHeld
    go_wp2_with fail
    go_meet
    case rel => exact ⟨rfl, HE.out _ k0⟩
  case rest =>
    obtain ⟨rfl, HW7, HT7, HA7⟩ := hcut
    clear HE HC HF HS HZ hRg hxor hidx
    have HE : Hid (∀ u, Kept wc u → OutC F X c pl l fl ev pend' i w (.returned (.tuple #[])) (u.setCell ⟨X, 261, none⟩ (.int .i64 (sz1 : Int)))) := hid (fun u ku => HEnd.out _ a4 f4 (tn_set (tn_trans HT7.out (tn_kept ku)) (.inl HW7.out.fX) _ _) HF4.out (sm_si (sm_kept HW7.out ku) sz1))
    have HC : Hid (∀ u, Kept wc u → u.cell? ⟨X, 261, none⟩ = some (.int .i64 (sz : Int))) := hid (fun u ku => (sm_cells (sm_kept HW7.out ku)).1.2.2.2.2.2.1)
    have HF : Hid (∀ u, Kept wc u → ∀ j, u.frozen? ⟨X, j, none⟩ = false) := hid (fun u ku => (sm_cells (sm_kept HW7.out ku)).2)
    have HS : Hid (∀ u, Kept wc u → (u.cell? ⟨Y, 0, none⟩ = some (.string r.key) ∧ u.cell? ⟨Y, 1, none⟩ = some (.int .u64 r.s.p) ∧ u.cell? ⟨Y, 2, none⟩ = some (.int .u32 r.s.l) ∧ u.cell? ⟨Y, 3, none⟩ = some (.int .u8 r.s.n) ∧ u.cell? ⟨Y, 4, none⟩ = some (.int .u8 r.kind) ∧ u.cell? ⟨Y, 5, none⟩ = some (.int .u32 r.flags) ∧ u.cell? ⟨Y, 6, none⟩ = some (.int .u64 r.exp) ∧ u.cell? ⟨Y, 7, none⟩ = some (.string r.body))) := hid (fun u ku => at_cells8' (at_kept HA7.out ku))
    have HZ : Hid (∀ u, Kept wc u → ((u.setCell ⟨X, 261, none⟩ (.int .i64 (sz1 : Int))).cell? ⟨Y, 0, none⟩ = some (.string r.key) ∧ (u.setCell ⟨X, 261, none⟩ (.int .i64 (sz1 : Int))).cell? ⟨Y, 1, none⟩ = some (.int .u64 r.s.p) ∧ (u.setCell ⟨X, 261, none⟩ (.int .i64 (sz1 : Int))).cell? ⟨Y, 2, none⟩ = some (.int .u32 r.s.l) ∧ (u.setCell ⟨X, 261, none⟩ (.int .i64 (sz1 : Int))).cell? ⟨Y, 3, none⟩ = some (.int .u8 r.s.n) ∧ (u.setCell ⟨X, 261, none⟩ (.int .i64 (sz1 : Int))).cell? ⟨Y, 4, none⟩ = some (.int .u8 r.kind) ∧ (u.setCell ⟨X, 261, none⟩ (.int .i64 (sz1 : Int))).cell? ⟨Y, 5, none⟩ = some (.int .u32 r.flags) ∧ (u.setCell ⟨X, 261, none⟩ (.int .i64 (sz1 : Int))).cell? ⟨Y, 6, none⟩ = some (.int .u64 r.exp) ∧ (u.setCell ⟨X, 261, none⟩ (.int .i64 (sz1 : Int))).cell? ⟨Y, 7, none⟩ = some (.string r.body))) := hid (fun u ku => at_cells8' (at_other (at_kept HA7.out ku) (fun e => HY.out (by rw [e]; exact HW7.out.fX)) _ _))
    have hsub : (sz : Int) - (lenR r : Int) = (sz1 : Int) := by have := HSz.out; omega
    have hsb : (sz : Int) ≤ 1000000 := by have := HSb.out; omega
    have k0 : Kept wc wc.drew := kept_refl wc
    have cD := HC.out _ k0
    obtain ⟨v2, hv2⟩ : ∃ v2, sz1 = v2 := ⟨_, rfl⟩
    rw [hv2] at HE HZ hsub
    have hwr : IntKind.i64.wrap (v2 : Int) = (v2 : Int) := by rw [IntKind.wrap_i64]; omega
    have hkey : r.key.size ≤ 1000 := by omega
    clear HEnd HF4 HSz HSb HW7 HT7 HA7 hv2 hlenr hsm hkm
    go_wp2_with fail
    refine wp_region_noPanic ?_
    refine wp_region_held_drew (S := (fun w' => (w'.cell? ⟨Y, 0, none⟩ = some (.string r.key) ∧ w'.cell? ⟨Y, 1, none⟩ = some (.int .u64 r.s.p) ∧ w'.cell? ⟨Y, 2, none⟩ = some (.int .u32 r.s.l) ∧ w'.cell? ⟨Y, 3, none⟩ = some (.int .u8 r.s.n) ∧ w'.cell? ⟨Y, 4, none⟩ = some (.int .u8 r.kind) ∧ w'.cell? ⟨Y, 5, none⟩ = some (.int .u32 r.flags) ∧ w'.cell? ⟨Y, 6, none⟩ = some (.int .u64 r.exp) ∧ w'.cell? ⟨Y, 7, none⟩ = some (.string r.body)))) (by kernel_rfl) (by first | exact HS.out _ k0 | assumption) (fun hHeld => ?_)
    refine wpAnyH_take (i := 0) (v := .pointer (some ⟨X, 0, none⟩)) rfl (by kernel_rfl) (by kernel_rfl) (by kernel_rfl) (fun _ _ _ h => h) (Or.inl ⟨by rfl, fun w hSw => by (try dsimp only at hSw); go_simp⟩) (by assumption) ?_
    refine wpAnyH_take (i := 1) (v := .pointer (some ⟨X, 0, none⟩)) rfl (by kernel_rfl) (by kernel_rfl) (by kernel_rfl) (fun _ _ _ h => h) (Or.inl ⟨by rfl, fun w hSw => by (try dsimp only at hSw); go_simp⟩) (by assumption) ?_
    refine wpAnyH_take (i := 2) (v := .pointer (some ⟨X, 261, none⟩)) rfl (by kernel_rfl) (by kernel_rfl) (by kernel_rfl) (fun _ _ _ h => h) (Or.inl ⟨by rfl, fun w hSw => by (try dsimp only at hSw); go_simp⟩) (by assumption) ?_
    refine wpAnyH_take (i := 4) (v := .agg #[.string r.key, .int .u64 r.s.p, .int .u32 r.s.l, .int .u8 r.s.n, .int .u8 r.kind, .int .u32 r.flags, .int .u64 r.exp, .string r.body]) rfl (by kernel_rfl) (by kernel_rfl) (by kernel_rfl) (fun _ _ _ h => h) (Or.inl ⟨by rfl, fun w hSw => by (try dsimp only at hSw); go_simp⟩) (by assumption) ?_
    try simp only [List.getElem_toArray, List.getElem_cons_zero, List.getElem_cons_succ, Act.put, List.setIfInBounds_toArray, List.set_cons_zero, List.set_cons_succ]
    refine wpAnyH_ready (rs := [3, 5]) (by kernel_rfl) (by simp) ?_
    refine AllReadyH.cons (i := 3) rfl (fun K hK => ?_) ?_
    · go_simp
      clear hHeld
      show K _ _
      refine hK.out _ _ (by first | exact HS.out _ k0 | assumption) (fun hHeld => ?_)
      clear hK K
      try simp only [List.getElem_toArray, List.getElem_cons_zero, List.getElem_cons_succ, Act.put, List.setIfInBounds_toArray, List.set_cons_zero, List.set_cons_succ]
      refine wpAnyH_ready (rs := [5]) (by kernel_rfl) (by simp) ?_
      refine AllReadyH.cons (i := 5) rfl (fun K hK => ?_) AllReadyH.nil
      go_simp
      refine (length_any r hkey hbod _).mono ?_
      rintro e w3 ⟨rfl, h3⟩
      replace k0 := kept_trans k0 h3
      clear h3
      have cD := HC.out _ k0
      clear hHeld
      show K _ _
      refine hK.out _ _ (by first | exact HS.out _ k0 | assumption) (fun hHeld => ?_)
      clear hK K
      refine wpAnyH_take (i := 6) (v := .int .i64 (v2 : Int)) rfl (by kernel_rfl) (by kernel_rfl) (by kernel_rfl) (fun _ _ _ h => h) (Or.inl ⟨by rfl, fun w hSw => by (try dsimp only at hSw); go_simp⟩) (by assumption) ?_
      refine wpAnyH_take (i := 7) (v := .pointer (some ⟨X, 0, none⟩)) rfl (by kernel_rfl) (by kernel_rfl) (by kernel_rfl) (fun _ _ _ h => h) (Or.inl ⟨by rfl, fun w hSw => by (try dsimp only at hSw); go_simp⟩) (by assumption) ?_
      refine wpAnyH_take (i := 8) (v := .pointer (some ⟨X, 261, none⟩)) rfl (by kernel_rfl) (by kernel_rfl) (by kernel_rfl) (fun _ _ _ h => h) (Or.inl ⟨by rfl, fun w hSw => by (try dsimp only at hSw); go_simp⟩) (by assumption) ?_
      try simp only [List.getElem_toArray, List.getElem_cons_zero, List.getElem_cons_succ, Act.put, List.setIfInBounds_toArray, List.set_cons_zero, List.set_cons_succ]
      refine wpAnyH_ready (rs := [9]) (by kernel_rfl) (by simp) ?_
      refine AllReadyH.cons (i := 9) rfl (fun K hK => ?_) AllReadyH.nil
      have fD := HF.out _ k0
      go_simp
      have hS := HZ.out _ k0
      clear hHeld
      show K _ _
      refine hK.out _ _ (by first | exact HS.out _ k0 | assumption) (fun hHeld => ?_)
      clear hK K
      try simp only [List.getElem_toArray, List.getElem_cons_zero, List.getElem_cons_succ, Act.put, List.setIfInBounds_toArray, List.set_cons_zero, List.set_cons_succ]
      refine wpAnyH_done (by kernel_rfl) ?_ _
      refine NoPanic.normal ?_
      clear hHeld
      have HQ := hid (HE.out _ k0)
      clear k0 HS HC HF HZ HE hS fD cD
      go_wp2_with fail
      exact bodyPost_end (v := .tuple #[]) (by kernel_rfl) rfl HQ.out
    refine AllReadyH.cons (i := 5) rfl (fun K hK => ?_) AllReadyH.nil
    go_simp
    refine (length_any r hkey hbod _).mono ?_
    rintro e w3 ⟨rfl, h3⟩
    replace k0 := kept_trans k0 h3
    clear h3
    have cD := HC.out _ k0
    clear hHeld
    show K _ _
    refine hK.out _ _ (by first | exact HS.out _ k0 | assumption) (fun hHeld => ?_)
    clear hK K
    try simp only [List.getElem_toArray, List.getElem_cons_zero, List.getElem_cons_succ, Act.put, List.setIfInBounds_toArray, List.set_cons_zero, List.set_cons_succ]
    refine wpAnyH_ready (rs := [3]) (by kernel_rfl) (by simp) ?_
    refine AllReadyH.cons (i := 3) rfl (fun K hK => ?_) AllReadyH.nil
    go_simp
    clear hHeld
    show K _ _
    refine hK.out _ _ (by first | exact HS.out _ k0 | assumption) (fun hHeld => ?_)
    clear hK K
    refine wpAnyH_take (i := 6) (v := .int .i64 (v2 : Int)) rfl (by kernel_rfl) (by kernel_rfl) (by kernel_rfl) (fun _ _ _ h => h) (Or.inl ⟨by rfl, fun w hSw => by (try dsimp only at hSw); go_simp⟩) (by assumption) ?_
    refine wpAnyH_take (i := 7) (v := .pointer (some ⟨X, 0, none⟩)) rfl (by kernel_rfl) (by kernel_rfl) (by kernel_rfl) (fun _ _ _ h => h) (Or.inl ⟨by rfl, fun w hSw => by (try dsimp only at hSw); go_simp⟩) (by assumption) ?_
    refine wpAnyH_take (i := 8) (v := .pointer (some ⟨X, 261, none⟩)) rfl (by kernel_rfl) (by kernel_rfl) (by kernel_rfl) (fun _ _ _ h => h) (Or.inl ⟨by rfl, fun w hSw => by (try dsimp only at hSw); go_simp⟩) (by assumption) ?_
    try simp only [List.getElem_toArray, List.getElem_cons_zero, List.getElem_cons_succ, Act.put, List.setIfInBounds_toArray, List.set_cons_zero, List.set_cons_succ]
    refine wpAnyH_ready (rs := [9]) (by kernel_rfl) (by simp) ?_
    refine AllReadyH.cons (i := 9) rfl (fun K hK => ?_) AllReadyH.nil
    have fD := HF.out _ k0
    go_simp
    have hS := HZ.out _ k0
    clear hHeld
    show K _ _
    refine hK.out _ _ (by first | exact HS.out _ k0 | assumption) (fun hHeld => ?_)
    clear hK K
    try simp only [List.getElem_toArray, List.getElem_cons_zero, List.getElem_cons_succ, Act.put, List.setIfInBounds_toArray, List.set_cons_zero, List.set_cons_succ]
    refine wpAnyH_done (by kernel_rfl) ?_ _
    refine NoPanic.normal ?_
    clear hHeld
    have HQ := hid (HE.out _ k0)
    clear k0 HS HC HF HZ HE hS fD cD
    go_wp2_with fail
    exact bodyPost_end (v := .tuple #[]) (by kernel_rfl) rfl HQ.out
end Go.Proofs.YthgbdaladngpdaaGreat
