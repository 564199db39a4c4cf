/- The contracts of the store's small functions: a key's range, a record's length, what is old when, what is taken, what is above its floor; Len, Size, Evicted, Floor, Digest; the same of a nil store. Texts have at most as many bytes as a text may have. -/
import Derived.Test.YthgbdaladngpdaaGreatStoMem
import Derived.BigQuiet
namespace Go.Proofs.YthgbdaladngpdaaGreat
open Go.ChangeShapes Go.WideShapes Go.ChangeAt Go.RowKit
open Go.Proofs.YthgbdaladngpdaaGreat.Whl (Tn tn_kept tn_refl tn_trans tn_set tn_alloc at_tn kept_tn It)
set_option linter.unusedVariables false
set_option linter.unusedSimpArgs false
set_option maxRecDepth 100000

theorem idx34 (X k : Nat) (h : (k : Int) < 64) (w : World) : (Instr.indexAt 34 (.pointer (some ⟨X, 4, none⟩)) (.int .i64 (k : Int))).run Tryz.prog w = .ok (.pointer (some ⟨X, 4 + k * 3, none⟩)) w := by go_simp
theorem idx74 (X k : Nat) (h : (k : Int) < 64) (w : World) : (Instr.indexAt 74 (.pointer (some ⟨X, 196, none⟩)) (.int .i64 (k : Int))).run Tryz.prog w = .ok (.pointer (some ⟨X, 196 + k, none⟩)) w := by go_simp
theorem shr58 (t : Int) (h : (Lit.int .u64 t).wf = true) : wrap64 (t / 288230376151711744) = t / 288230376151711744 := by
  have := bounds_u64 h
  unfold wrap64; omega
theorem range_any (s : ByteArray) (hs : s.size ≤ maxLen) (w : World) :
    Calls Tryz.prog 56 #[.string s] w fun e w' => e = .returned (.int .i64 (rg s : Int)) ∧ w' = w := by
  have ht := wf_textI s.data.toList s.size
  rw [← rg_int]
  go_enter Tryz.func56, Tryz.ntmps56
  go_wp2_with fail
  refine (text_any s hs _).mono ?_
  rintro e w' ⟨rfl, rfl⟩
  go_wp2_with fail
  go_ret
  exact ⟨ret_int (shr58 _ ht), rfl⟩
theorem length_any (r : R) (hk : r.key.size ≤ 1000) (hb : r.body.size ≤ 3000) (w : World) :
    Calls Tryz.prog 41 #[.agg #[.string r.key, .int .u64 r.s.p, .int .u32 r.s.l, .int .u8 r.s.n, .int .u8 r.kind, .int .u32 r.flags, .int .u64 r.exp, .string r.body]] w fun e w' => e = .returned (.int .i64 (lenR r : Int)) ∧ Kept w w' := by
  have HE : Hid ((r.key.size : Int) + (r.body.size : Int) = (lenR r : Int)) := by
    show _ = _
    unfold lenR; omega
  have HK := hid (kept_alloc (kept_refl w) (.cells #[.string r.key, .int .u64 r.s.p, .int .u32 r.s.l, .int .u8 r.s.n, .int .u8 r.kind, .int .u32 r.flags, .int .u64 r.exp, .string r.body] 42))
  go_enter Tryz.func41, Tryz.ntmps41
  go_wp2_with fail
  go_ret
  exact ⟨ret_int HE.out, HK.out⟩
theorem zero33 (w : World) : (zeroValue 33).run Tryz.prog w = .ok (.agg #[.int .u64 0, .int .u32 0, .int .u8 0]) w := by kernel_rfl
theorem res1s {fn : Func} {p : Tmp} (h : fn.results = #[.cell p 33]) (tmps : Array Value) {w : World} {X T : Nat} {v0 v1 v2 : Value} (hp : tmps.getD p undef = .pointer (some ⟨X, 0, none⟩)) (hA : At w X #[v0, v1, v2] T) :
    (results fn tmps).run Tryz.prog w = .ok (.agg #[v0, v1, v2]) w := by
  obtain ⟨c0, c1, c2, -⟩ := at_cells3 hA
  have hp' : tmps[p]?.getD undef = .pointer (some ⟨X, 0, none⟩) := by simpa using hp
  simp [results, h, go_sem, hp', c0, c1, c2]
theorem upTo_any (n m : Int) (w : World) : Calls Tryz.prog 33 #[.int .i64 n, .int .i64 m] w fun e w' => e = .returned (.bool (decide (1 ≤ n) && decide (n ≤ m))) ∧ w' = w := by
  by_cases h : 1 ≤ n
  · have HE : Hid (decide (n ≤ m) = (decide (1 ≤ n) && decide (n ≤ m))) := by show _ = _; simp [h]
    go_enter Tryz.func33, Tryz.ntmps33
    go_wp2_with fail
    go_ret
    exact ⟨ret_bool HE.out, rfl⟩
  · have HE : Hid (false = (decide (1 ≤ n) && decide (n ≤ m))) := by show _ = _; simp [h]
    go_enter Tryz.func33, Tryz.ntmps33
    go_wp2_with fail
    go_ret
    exact ⟨ret_bool HE.out, rfl⟩
theorem isRange_any (k : Int) (w : World) : Calls Tryz.prog 53 #[.int .i64 k] w fun e w' => e = .returned (.bool (decide (0 ≤ k) && decide (k < 64))) ∧ w' = w := by
  by_cases h : 0 ≤ k
  · have HE : Hid (decide (k < 64) = (decide (0 ≤ k) && decide (k < 64))) := by show _ = _; simp [h]
    go_enter Tryz.func53, Tryz.ntmps53
    go_wp2_with fail
    go_ret
    exact ⟨ret_bool HE.out, rfl⟩
  · have HE : Hid (false = (decide (0 ≤ k) && decide (k < 64))) := by show _ = _; simp [h]
    go_enter Tryz.func53, Tryz.ntmps53
    go_wp2_with fail
    go_ret
    exact ⟨ret_bool HE.out, rfl⟩
section
variable {F : Nat → Prop} {X : Nat} {c : Cf} {pl : Nat → R} {l : List Nat} {f : ByteArray → Option Int} {M : List It} {fl : Nat → Stp} {dg : Nat → Nat} {size ev ct : Nat} {a : Ad}
theorem oldAt_any (hc : c.may) (r : R) (h0 : 0 ≤ r.s.p) (h1 : r.s.p ≤ 281474976710655) (w : World) (h : Sm w F X c pl l f M fl dg size ev ct a) :
    Calls Tryz.prog 37 #[.pointer (some ⟨X, 0, none⟩), .agg #[.string r.key, .int .u64 r.s.p, .int .u32 r.s.l, .int .u8 r.s.n, .int .u8 r.kind, .int .u32 r.flags, .int .u64 r.exp, .string r.body]] w fun e w' => e = .returned (.int .u64 (r.s.p + (c.K : Int))) ∧ Kept w w' := by
  have hK := hc.2.2.2.2.2
  have HK := hid (kept_alloc (kept_refl w) (.cells #[.string r.key, .int .u64 r.s.p, .int .u32 r.s.l, .int .u8 r.s.n, .int .u8 r.kind, .int .u32 r.flags, .int .u64 r.exp, .string r.body] 42))
  obtain ⟨⟨_, _, _, _, _, _, c7, _⟩, _⟩ := sm_cells (sm_kept h HK.out)
  obtain ⟨d0, d1, d2, d3, d4, d5, d6, d7⟩ := at_cells8' (at_new w #[.string r.key, .int .u64 r.s.p, .int .u32 r.s.l, .int .u8 r.s.n, .int .u8 r.kind, .int .u32 r.flags, .int .u64 r.exp, .string r.body] 42)
  clear h hc
  generalize c.K = K at *
  go_enter Tryz.func37, Tryz.ntmps37
  go_wp2_with fail
  generalize w.alloc (.cells #[.string r.key, .int .u64 r.s.p, .int .u32 r.s.l, .int .u8 r.s.n, .int .u8 r.kind, .int .u32 r.flags, .int .u64 r.exp, .string r.body] 42) = w1 at *
  generalize w.heap.size = Y at *
  go_quiet (fail)
  go_wp2_with fail
  go_ret
  exact ⟨rfl, HK.out⟩
theorem taken_any (i : Nat) (hi : i < c.n) (hn : c.n ≤ 1024) (w : World) (h : Sm w F X c pl l f M fl dg size ev ct a) :
    Calls Tryz.prog 55 #[.pointer (some ⟨X, 0, none⟩), .int .i64 (i : Int)] w fun e w' => e = .returned (.bool (decide ((pl i).kind ≠ 0))) ∧ w' = w := by
  obtain ⟨⟨c0, _⟩, _⟩ := sm_cells h
  obtain ⟨⟨_, _, _, _, r4, _⟩, _⟩ := rowR_cells h.row hi
  have HE : Hid (((pl i).kind != 0) = decide ((pl i).kind ≠ 0)) := by
    show _ = _
    by_cases e : (pl i).kind = 0
    · rw [e]; rfl
    · simp [e]
  clear h
  generalize (pl i).kind = k at *
  generalize c.n = n at *
  go_enter Tryz.func55, Tryz.ntmps55
  go_wp2_with fail
  go_ret
  exact ⟨ret_bool HE.out, rfl⟩
theorem slen_any (w : World) (h : Sm w F X c pl l f M fl dg size ev ct a) :
    Calls Tryz.prog 22 #[.pointer (some ⟨X, 0, none⟩)] w fun e w' => e = .returned (.int .i64 (ct : Int)) ∧ w' = w := by
  obtain ⟨⟨_, c1, _⟩, _⟩ := sm_cells h
  have ht := h.tab.tab
  rw [h.cnt] at ht
  have hl := Slo.len_any w ht
  clear h ht
  go_enter Tryz.func22, Tryz.ntmps22
  go_wp2_with fail
  refine hl.mono ?_
  rintro e w' ⟨rfl, rfl⟩
  go_wp2_with fail
  go_ret
  exact ⟨rfl, rfl⟩
theorem ssize_any (w : World) (h : Sm w F X c pl l f M fl dg size ev ct a) :
    Calls Tryz.prog 23 #[.pointer (some ⟨X, 0, none⟩)] w fun e w' => e = .returned (.int .i64 (size : Int)) ∧ w' = w := by
  obtain ⟨⟨_, _, _, _, _, c5, _⟩, _⟩ := sm_cells h
  clear h
  go_enter Tryz.func23, Tryz.ntmps23
  go_wp2_with fail
  go_ret
  exact ⟨rfl, rfl⟩
theorem sev_any (w : World) (h : Sm w F X c pl l f M fl dg size ev ct a) :
    Calls Tryz.prog 25 #[.pointer (some ⟨X, 0, none⟩)] w fun e w' => e = .returned (.int .i64 (ev : Int)) ∧ w' = w := by
  obtain ⟨⟨_, _, _, _, _, _, _, c8⟩, _⟩ := sm_cells h
  clear h
  go_enter Tryz.func25, Tryz.ntmps25
  go_wp2_with fail
  go_ret
  exact ⟨rfl, rfl⟩
theorem above_any (r : R) (hk : r.key.size ≤ maxLen) (w : World) (h : Sm w F X c pl l f M fl dg size ev ct a) :
    Calls Tryz.prog 40 #[.pointer (some ⟨X, 0, none⟩), .agg #[.string r.key, .int .u64 r.s.p, .int .u32 r.s.l, .int .u8 r.s.n, .int .u8 r.kind, .int .u32 r.flags, .int .u64 r.exp, .string r.body]] w fun e w' => e = .returned (.bool (decide (cmp (fl (rg r.key)) r.s < 0))) ∧ Kept w w' := by
  have HK := hid (kept_alloc (kept_refl w) (.cells #[.string r.key, .int .u64 r.s.p, .int .u32 r.s.l, .int .u8 r.s.n, .int .u8 r.kind, .int .u32 r.flags, .int .u64 r.exp, .string r.body] 42))
  have HW := hid (sm_kept h HK.out)
  have HA := hid (at_new w #[.string r.key, .int .u64 r.s.p, .int .u32 r.s.l, .int .u8 r.s.n, .int .u8 r.kind, .int .u32 r.flags, .int .u64 r.exp, .string r.body] 42)
  have hRg := range_any r.key hk
  have hk64 := rg_lt r.key
  clear h
  go_enter Tryz.func40, Tryz.ntmps40
  go_wp2_with fail
  generalize w.alloc (.cells #[.string r.key, .int .u64 r.s.p, .int .u32 r.s.l, .int .u8 r.s.n, .int .u8 r.kind, .int .u32 r.flags, .int .u64 r.exp, .string r.body] 42) = w1 at *
  generalize w.heap.size = Y at *
  have HS : Hid (∀ u, Kept w1 u → (u.cell? ⟨X, 4 + rg r.key * 3, none⟩ = some (.int .u64 (fl (rg r.key)).p) ∧ u.cell? ⟨X, 4 + rg r.key * 3 + 1, none⟩ = some (.int .u32 (fl (rg r.key)).l) ∧ u.cell? ⟨X, 4 + rg r.key * 3 + 2, none⟩ = some (.int .u8 (fl (rg r.key)).n)) ∧ (u.cell? ⟨Y, 0, none⟩ = some (.string r.key) ∧ u.cell? ⟨Y, 1, none⟩ = some (.int .u64 r.s.p) ∧ u.cell? ⟨Y, 2, none⟩ = some (.int .u32 r.s.l) ∧ u.cell? ⟨Y, 3, none⟩ = some (.int .u8 r.s.n) ∧ u.cell? ⟨Y, 4, none⟩ = some (.int .u8 r.kind) ∧ u.cell? ⟨Y, 5, none⟩ = some (.int .u32 r.flags) ∧ u.cell? ⟨Y, 6, none⟩ = some (.int .u64 r.exp) ∧ u.cell? ⟨Y, 7, none⟩ = some (.string r.body))) := hid (fun u ku => ⟨sm_floor (sm_kept HW.out ku) hk64, at_cells8' (at_kept HA.out ku)⟩)
  obtain ⟨q, hq⟩ : ∃ q, fl (rg r.key) = q := ⟨_, rfl⟩
  have HQ := hid hq
  rw [hq] at HS
  clear hq
  generalize rg r.key = k at HS hRg hk64
  have hidx := idx34 X k (by omega)
  clear hk64
  have k0 : Kept w1 w1.drew := kept_refl w1
  clear HW HA
  refine wp_region_noPanic ?_
  refine wp_region_held_drew (S := (fun w' => (w'.cell? ⟨X, 4 + k * 3, none⟩ = some (.int .u64 q.p) ∧ w'.cell? ⟨X, 4 + k * 3 + 1, none⟩ = some (.int .u32 q.l) ∧ w'.cell? ⟨X, 4 + k * 3 + 2, none⟩ = some (.int .u8 q.n)) ∧ (w'.cell? ⟨Y, 0, none⟩ = some (.string r.key) ∧ w'.cell? ⟨Y, 1, none⟩ = some (.int .u64 r.s.p) ∧ w'.cell? ⟨Y, 2, none⟩ = some (.int .u32 r.s.l) ∧ w'.cell? ⟨Y, 3, none⟩ = some (.int .u8 r.s.n) ∧ w'.cell? ⟨Y, 4, none⟩ = some (.int .u8 r.kind) ∧ w'.cell? ⟨Y, 5, none⟩ = some (.int .u32 r.flags) ∧ w'.cell? ⟨Y, 6, none⟩ = some (.int .u64 r.exp) ∧ w'.cell? ⟨Y, 7, none⟩ = some (.string r.body)))) (by kernel_rfl) (HS.out _ (by assumption)) (fun hHeld => ?_)
  refine wpAnyH_take (i := 0) (v := .pointer (some ⟨X, 0, none⟩)) rfl (by kernel_rfl) (by kernel_rfl) (by kernel_rfl) (fun _ _ _ h => h) (Or.inl ⟨by rfl, fun w hSw => by (try dsimp only at hSw); go_simp⟩) (by assumption) ?_
  try simp only [List.getElem_toArray, List.getElem_cons_zero, List.getElem_cons_succ, Act.put, List.setIfInBounds_toArray, List.set_cons_zero, List.set_cons_succ]
  refine wpAnyH_take (i := 1) (v := .pointer (some ⟨Y, 0, none⟩)) rfl (by kernel_rfl) (by kernel_rfl) (by kernel_rfl) (fun _ _ _ h => h) (Or.inl ⟨by rfl, fun w hSw => by (try dsimp only at hSw); go_simp⟩) (by assumption) ?_
  try simp only [List.getElem_toArray, List.getElem_cons_zero, List.getElem_cons_succ, Act.put, List.setIfInBounds_toArray, List.set_cons_zero, List.set_cons_succ]
  refine wpAnyH_take (i := 2) (v := .string r.key) rfl (by kernel_rfl) (by kernel_rfl) (by kernel_rfl) (fun _ _ _ h => h) (Or.inl ⟨by rfl, fun w hSw => by (try dsimp only at hSw); go_simp⟩) (by assumption) ?_
  try simp only [List.getElem_toArray, List.getElem_cons_zero, List.getElem_cons_succ, Act.put, List.setIfInBounds_toArray, List.set_cons_zero, List.set_cons_succ]
  refine wpAnyH_take (i := 4) (v := .pointer (some ⟨X, 0, none⟩)) rfl (by kernel_rfl) (by kernel_rfl) (by kernel_rfl) (fun _ _ _ h => h) (Or.inl ⟨by rfl, fun w hSw => by (try dsimp only at hSw); go_simp⟩) (by assumption) ?_
  try simp only [List.getElem_toArray, List.getElem_cons_zero, List.getElem_cons_succ, Act.put, List.setIfInBounds_toArray, List.set_cons_zero, List.set_cons_succ]
  refine wpAnyH_take (i := 5) (v := .pointer (some ⟨X, 4, none⟩)) rfl (by kernel_rfl) (by kernel_rfl) (by kernel_rfl) (fun _ _ _ h => h) (Or.inl ⟨by rfl, fun w hSw => by (try dsimp only at hSw); go_simp⟩) (by assumption) ?_
  try simp only [List.getElem_toArray, List.getElem_cons_zero, List.getElem_cons_succ, Act.put, List.setIfInBounds_toArray, List.set_cons_zero, List.set_cons_succ]
  refine wpAnyH_take (i := 8) (v := .pointer (some ⟨Y, 1, none⟩)) rfl (by kernel_rfl) (by kernel_rfl) (by kernel_rfl) (fun _ _ _ h => h) (Or.inl ⟨by rfl, fun w hSw => by (try dsimp only at hSw); go_simp⟩) (by assumption) ?_
  try simp only [List.getElem_toArray, List.getElem_cons_zero, List.getElem_cons_succ, Act.put, List.setIfInBounds_toArray, List.set_cons_zero, List.set_cons_succ]
  refine wpAnyH_take (i := 9) (v := .agg #[.int .u64 r.s.p, .int .u32 r.s.l, .int .u8 r.s.n]) rfl (by kernel_rfl) (by kernel_rfl) (by kernel_rfl) (fun _ _ _ h => h) (Or.inl ⟨by rfl, fun w hSw => by (try dsimp only at hSw); go_simp⟩) (by assumption) ?_
  try simp only [List.getElem_toArray, List.getElem_cons_zero, List.getElem_cons_succ, Act.put, List.setIfInBounds_toArray, List.set_cons_zero, List.set_cons_succ]
  refine wpAnyH_ready (rs := [3]) (by kernel_rfl) (by simp) ?_
  refine AllReadyH.cons (i := 3) rfl (fun K hK => ?_) AllReadyH.nil
  go_simp
  refine (hRg _).mono ?_
  rintro e w3 ⟨rfl, rfl⟩
  clear hHeld
  show K _ _
  refine hK.out _ _ (HS.out _ (by assumption)) (fun hHeld => ?_)
  clear hK K
  try simp only [List.getElem_toArray, List.getElem_cons_zero, List.getElem_cons_succ, Act.put, List.setIfInBounds_toArray, List.set_cons_zero, List.set_cons_succ]
  refine wpAnyH_take (i := 6) (v := .pointer (some ⟨X, 4 + k * 3, none⟩)) rfl (by kernel_rfl) (by kernel_rfl) (by kernel_rfl) (fun _ _ _ h => h) (Or.inl ⟨by rfl, fun w hSw => by (try dsimp only at hSw); go_simp⟩) (by assumption) ?_
  try simp only [List.getElem_toArray, List.getElem_cons_zero, List.getElem_cons_succ, Act.put, List.setIfInBounds_toArray, List.set_cons_zero, List.set_cons_succ]
  refine wpAnyH_take (i := 7) (v := .agg #[.int .u64 q.p, .int .u32 q.l, .int .u8 q.n]) rfl (by kernel_rfl) (by kernel_rfl) (by kernel_rfl) (fun _ _ _ h => h) (Or.inl ⟨by rfl, fun w hSw => by (try dsimp only at hSw); go_simp⟩) (by assumption) ?_
  try simp only [List.getElem_toArray, List.getElem_cons_zero, List.getElem_cons_succ, Act.put, List.setIfInBounds_toArray, List.set_cons_zero, List.set_cons_succ]
  refine wpAnyH_ready (rs := [10]) (by kernel_rfl) (by simp) ?_
  refine AllReadyH.cons (i := 10) rfl (fun K hK => ?_) AllReadyH.nil
  go_simp
  refine (compare_any q r.s _).mono ?_
  rintro e w3 ⟨rfl, h3⟩
  replace k0 := kept_trans k0 h3
  clear h3
  clear hHeld
  show K _ _
  refine hK.out _ _ (HS.out _ (by assumption)) (fun hHeld => ?_)
  clear hK K
  try simp only [List.getElem_toArray, List.getElem_cons_zero, List.getElem_cons_succ, Act.put, List.setIfInBounds_toArray, List.set_cons_zero, List.set_cons_succ]
  refine wpAnyH_take (i := 11) (v := .bool (decide (cmp q r.s < 0))) rfl (by kernel_rfl) (by kernel_rfl) (by kernel_rfl) (fun _ _ _ h => h) (Or.inl ⟨by rfl, fun w hSw => by (try dsimp only at hSw); go_simp⟩) (by assumption) ?_
  try simp only [List.getElem_toArray, List.getElem_cons_zero, List.getElem_cons_succ, Act.put, List.setIfInBounds_toArray, List.set_cons_zero, List.set_cons_succ]
  refine wpAnyH_take (i := 12) (v := .bool (decide (cmp q r.s < 0))) rfl (by kernel_rfl) (by kernel_rfl) (by kernel_rfl) (fun _ _ _ h => h) (Or.inl ⟨by rfl, fun w hSw => by (try dsimp only at hSw); go_simp⟩) (by assumption) ?_
  try simp only [List.getElem_toArray, List.getElem_cons_zero, List.getElem_cons_succ, Act.put, List.setIfInBounds_toArray, List.set_cons_zero, List.set_cons_succ]
  refine wpAnyH_done (by kernel_rfl) ?_ _
  refine NoPanic.normal ?_
  clear hHeld
  have HK2 := hid (kept_trans HK.out k0)
  clear k0 HK HS
  go_wp2_with fail
  go_ret
  exact ⟨ret_bool (by rw [HQ.out]), HK2.out⟩
theorem sfloor_bad (k : Int) (hk : ¬ (0 ≤ k ∧ k < 64)) (w : World) : Calls Tryz.prog 26 #[.pointer (some ⟨X, 0, none⟩), .int .i64 k] w fun e w' => e = .returned (.agg #[.int .u64 0, .int .u32 0, .int .u8 0]) ∧ Kept w w' := by
  have hz := zero33
  have hR := isRange_any k
  have hd : (decide (0 ≤ k) && decide (k < 64)) = false := by
    by_cases h : 0 ≤ k
    · have : ¬ k < 64 := fun g => hk ⟨h, g⟩
      simp [this]
    · simp [h]
  rw [hd] at hR
  have HA := hid (at_new w #[.int .u64 0, .int .u32 0, .int .u8 0] 33)
  have HK := hid (kept_alloc (kept_refl w) (.cells #[.int .u64 0, .int .u32 0, .int .u8 0] 33))
  clear hd
  go_enter Tryz.func26, Tryz.ntmps26
  go_wp2_with fail
  generalize w.alloc (.cells #[.int .u64 0, .int .u32 0, .int .u8 0] 33) = w1 at *
  have hY : w.heap.size ≤ w.heap.size := Nat.le_refl _
  generalize hY0 : w.heap.size = Y at HA hY
  refine (hR _).mono ?_
  rintro e w2 ⟨rfl, rfl⟩
  obtain ⟨c0, c1, c2, cf⟩ := at_cells3 HA.out
  have HA2 := hid (at_set (at_set (at_set HA.out 0 (.int .u64 0)) 1 (.int .u32 0)) 2 (.int .u8 0))
  have HK2 := hid (kept_set (kept_set (kept_set HK.out (Nat.le_of_eq hY0) 0 (.int .u64 0)) (Nat.le_of_eq hY0) 1 (.int .u32 0)) (Nat.le_of_eq hY0) 2 (.int .u8 0))
  clear HA HK
  go_wp2_with fail
  exact bodyPost_ret (res1s Tryz.results26 _ rfl HA2.out) rfl ⟨rfl, HK2.out⟩
theorem sfloor_any (k : Nat) (hk : k < 64) (w : World) (h : Sm w F X c pl l f M fl dg size ev ct a) : Calls Tryz.prog 26 #[.pointer (some ⟨X, 0, none⟩), .int .i64 (k : Int)] w fun e w' => e = .returned (.agg #[.int .u64 (fl k).p, .int .u32 (fl k).l, .int .u8 (fl k).n]) ∧ Kept w w' := by
  have hz := zero33
  have hR := isRange_any (k : Int)
  have hd : (decide (0 ≤ (k : Int)) && decide ((k : Int) < 64)) = true := by simp; omega
  rw [hd] at hR
  have HA := hid (at_new w #[.int .u64 0, .int .u32 0, .int .u8 0] 33)
  have HK := hid (kept_alloc (kept_refl w) (.cells #[.int .u64 0, .int .u32 0, .int .u8 0] 33))
  have HW := hid (sm_kept h HK.out)
  have hk65 : ¬ (64 : Int) ≤ (k : Int) := by omega
  clear hd h
  go_enter Tryz.func26, Tryz.ntmps26
  go_wp2_with fail
  generalize w.alloc (.cells #[.int .u64 0, .int .u32 0, .int .u8 0] 33) = w1 at *
  have hY : w.heap.size ≤ w.heap.size := Nat.le_refl _
  generalize hY0 : w.heap.size = Y at HA hY
  refine (hR _).mono ?_
  rintro e w2 ⟨rfl, rfl⟩
  obtain ⟨c0, c1, c2, cf⟩ := at_cells3 HA.out
  obtain ⟨f0, f1, f2⟩ := sm_floor HW.out hk
  have HA2 := hid (at_set (at_set (at_set HA.out 0 (.int .u64 (fl k).p)) 1 (.int .u32 (fl k).l)) 2 (.int .u8 (fl k).n))
  have HK2 := hid (kept_set (kept_set (kept_set HK.out (Nat.le_of_eq hY0) 0 (.int .u64 (fl k).p)) (Nat.le_of_eq hY0) 1 (.int .u32 (fl k).l)) (Nat.le_of_eq hY0) 2 (.int .u8 (fl k).n))
  clear HA HK HW
  go_wp2_with fail
  exact bodyPost_ret (res1s Tryz.results26 _ rfl HA2.out) rfl ⟨rfl, HK2.out⟩
theorem sdig_bad (k : Int) (hk : ¬ (0 ≤ k ∧ k < 64)) (w : World) : Calls Tryz.prog 27 #[.pointer (some ⟨X, 0, none⟩), .int .i64 k] w fun e w' => e = .returned (.int .u64 0) ∧ w' = w := by
  have hR := isRange_any k
  have hd : (decide (0 ≤ k) && decide (k < 64)) = false := by
    by_cases h : 0 ≤ k
    · have : ¬ k < 64 := fun g => hk ⟨h, g⟩
      simp [this]
    · simp [h]
  rw [hd] at hR
  clear hd
  go_enter Tryz.func27, Tryz.ntmps27
  go_wp2_with fail
  refine (hR _).mono ?_
  rintro e w2 ⟨rfl, rfl⟩
  go_wp2_with fail
  go_ret
  exact ⟨rfl, rfl⟩
theorem sdig_any (k : Nat) (hk : k < 64) (w : World) (h : Sm w F X c pl l f M fl dg size ev ct a) : Calls Tryz.prog 27 #[.pointer (some ⟨X, 0, none⟩), .int .i64 (k : Int)] w fun e w' => e = .returned (.int .u64 (dg k : Int)) ∧ w' = w := by
  have hR := isRange_any (k : Int)
  have hd : (decide (0 ≤ (k : Int)) && decide ((k : Int) < 64)) = true := by simp; omega
  rw [hd] at hR
  have c0 := sm_digest h hk
  have hk65 : ¬ (64 : Int) ≤ (k : Int) := by omega
  clear hd h
  go_enter Tryz.func27, Tryz.ntmps27
  go_wp2_with fail
  refine (hR _).mono ?_
  rintro e w2 ⟨rfl, rfl⟩
  go_wp2_with fail
  go_ret
  exact ⟨rfl, rfl⟩
end
end Go.Proofs.YthgbdaladngpdaaGreat
