/- The contract of putIn: a free place is filled. The store has at most 500 records. A stamp ahead of another one: the truth and the number that tell it. No condition. -/
import Derived.Test.YthgbdaladngpdaaGreatP11
/- The contract of putIn: a free place is filled. The store has at most 500 records. -/
namespace Go.Proofs.YthgbdaladngpdaaGreat
open Go.ChangeShapes Go.WideShapes Go.ChangeAt Go.RowKit
open Go.Proofs.YthgbdaladngpdaaGreat.Whl (Tn tn_kept tn_refl tn_trans tn_set tn_alloc at_tn kept_tn It)
set_option linter.unusedVariables false
set_option linter.unusedSimpArgs false
set_option maxRecDepth 100000

theorem wu_of {n : Int} (h0 : 0 ≤ n) (h1 : n ≤ 18446744073709551615) : Whl.Wu n := WalkArith.wf_u64 (by omega)
theorem idx29 (P n i : Nat) (h : i < n) (hn : n ≤ 1024) (w : World) : (Instr.indexAt 29 (.slice (some ⟨P, 0, none⟩) n n) (.int .i64 (i : Int))).run Tryz.prog w = .ok (.pointer (some ⟨P, i * 8, none⟩)) w := by
  have h1 : (i : Int) < (n : Int) := by omega
  go_simp
theorem stp_set {F F' : Nat → Prop} {w u u' : World} (h : Whl.Stp F F' w u) (k : Kept u u') {X : Nat} (hX : F' X) (o : Nat) (v : Value) : Whl.Stp F F' w (u'.setCell ⟨X, o, none⟩ v) :=
  ⟨tn_set (tn_trans h.1 (tn_kept k)) (h.2 X hX) _ _, h.2⟩
def InC (F : Nat → Prop) (X : Nat) (c : Cf) (pl : Nat → R) (l : List Nat) (fl : Nat → Stp) (ev : Nat) (pend : Nat → Prop) (w : World) (e : Ending) (w' : World) : Prop :=
  e = .returned (.tuple #[]) ∧ ∃ F', Whl.Stp F F' w w' ∧ StI w' F' X c pl l fl ev pend
set_option maxHeartbeats 3200000 in
theorem putIn_any {F : Nat → Prop} {X : Nat} {c : Cf} {pl : Nat → R} {l : List Nat} {fl : Nat → Stp} {ev : Nat} {pend : Nat → Prop} (hc : c.may) (i : Nat) (hi : i ∉ l) (hin : i < c.n) (hl : l.length ≤ 500) (hln : l.length < c.n) (hpe : ¬ pend i) (r : R) (hmay : mayR r = true) (hok : r.ok) (hno : ∀ j ∈ l, (pl j).key ≠ r.key) (w : World) (h : StI w F X c pl l fl ev pend) :
    Calls Tryz.prog 44 #[.pointer (some ⟨X, 0, none⟩), .int .i64 (i : Int), .agg #[.string r.key, .int .u64 r.s.p, .int .u32 r.s.l, .int .u8 r.s.n, .int .u8 r.kind, .int .u32 r.flags, .int .u64 r.exp, .string r.body]] w (InC F X c (updR pl i r) (i :: l) fl ev pend w) := by
  obtain ⟨f, M, a, hm, hco⟩ := h
  have hn4 : c.n ≤ 1024 := hc.2.1
  have hkey : r.key.size ≤ 250 := (may_len hmay).2
  have hlenr : lenR r ≤ 1274 := (may_len hmay).1
  have hbod : r.body.size ≤ 3000 := by unfold lenR at hlenr; omega
  have hkf : r.key.size ≤ 140737488355328 := by omega
  have hbf : r.body.size ≤ 140737488355328 := by omega
  have hsm : r.key.size ≤ maxLen := by unfold maxLen; omega
  have hML : M.length ≤ 900 := by have := whl_len hco (Whl.good_srt hm.whl); omega
  have hp0 : 0 ≤ r.s.p := hok.2.1.1
  have hp1 : r.s.p ≤ 281474976710655 := by
    unfold mayR stampMay at hmay
    simp only [Bool.and_eq_true, decide_eq_true_iff] at hmay
    exact hmay.2.1.1
  have hfn : f r.key = none := (coh_none hco).2 (find_none.2 (fun q hq => by
    obtain ⟨j, hj, rfl⟩ := List.mem_map.1 hq
    exact hno j hj))
  have HEnd : Hid (∀ (u : World) (F' : Nat → Prop) (a' : Ad) (f' : ByteArray → Option Int), Whl.Stp F F' w u → (∀ k, f' k = if k = r.key then some (i : Int) else f k) → Sm u F' X c (updR pl i r) (i :: l) f' (Whl.ins (r.s.p + (c.K : Int), (i : Int)) (Whl.wo M (i : Int))) fl (updN (fun k => digL k (l.map pl)) (rg r.key) (digL (rg r.key) (l.map pl) ^^^ dgN r)) (sizeL (l.map pl) + lenR r) ev (l.length + 1) a' → InC F X c (updR pl i r) (i :: l) fl ev pend w (.returned (.tuple #[])) u) := hid (fun u F' a' f' tu hf hs => by
    refine ⟨rfl, F', tu, f', Whl.ins (r.s.p + (c.K : Int), (i : Int)) (Whl.wo M (i : Int)), a', ?_, coh_in hco hi hin hmay hok hno hpe hf (fun z => ?_)⟩
    · have e2 : (i :: l).map (updR pl i r) = r :: l.map pl := map_in pl r hi
      have e3 : updN (fun k => digL k (l.map pl)) (rg r.key) (digL (rg r.key) (l.map pl) ^^^ dgN r) = fun k => digL k (r :: l.map pl) := by
        funext k
        unfold updN
        split
        · rename_i e
          subst e
          rw [digL, if_pos rfl, Nat.xor_comm]
        · rename_i e
          show digL k (l.map pl) = _
          rw [digL, if_neg (Ne.symm e)]
      have e4 : sizeL (r :: l.map pl) = sizeL (l.map pl) + lenR r := by rw [sizeL]; omega
      rw [e2, ← e3, e4]
      exact hs
    · rw [(Whl.ins_perm _ _).mem_iff, List.mem_cons]
      unfold Whl.wo
      simp)
  have HSb : Hid (sizeL (l.map pl) ≤ 1000000) := hid (by
    have := size_bound (l.map pl) (fun r hr => by
      obtain ⟨j, hj, rfl⟩ := List.mem_map.1 hr
      exact hco.may j hj)
    simp at this
    omega)
  have HDg : Hid (digL (rg r.key) (l.map pl) < 18446744073709551616) := hid (digL_lt _ _)
  have HSm := hid hm
  have hY : ¬ F w.heap.size := fun hf => by have := hm.low _ hf; omega
  have HY := hid hY
  have HFn := hid hfn
  clear hm hco hmay hpe hY hno hfn
  generalize hsz0 : sizeL (l.map pl) = sz at *
  clear hsz0
  have K1 := kept_alloc (kept_refl w) (.cells #[.string r.key, .int .u64 r.s.p, .int .u32 r.s.l, .int .u8 r.s.n, .int .u8 r.kind, .int .u32 r.flags, .int .u64 r.exp, .string r.body] 42)
  have A1 := at_new w #[.string r.key, .int .u64 r.s.p, .int .u32 r.s.l, .int .u8 r.s.n, .int .u8 r.kind, .int .u32 r.flags, .int .u64 r.exp, .string r.body] 42
  have hYl : w.heap.size < (w.alloc (.cells #[.string r.key, .int .u64 r.s.p, .int .u32 r.s.l, .int .u8 r.s.n, .int .u8 r.kind, .int .u32 r.flags, .int .u64 r.exp, .string r.body] 42)).heap.size := by simp
  obtain ⟨w1, hw1⟩ : ∃ w1, w.alloc (.cells #[.string r.key, .int .u64 r.s.p, .int .u32 r.s.l, .int .u8 r.s.n, .int .u8 r.kind, .int .u32 r.flags, .int .u64 r.exp, .string r.body] 42) = w1 := ⟨_, rfl⟩
  obtain ⟨Y, hYs⟩ : ∃ Y, w.heap.size = Y := ⟨_, rfl⟩
  rw [hw1] at K1 A1 hYl
  rw [hYs] at A1 HY hYl
  have HA1 := hid A1
  have HW1 := hid (sm_kept HSm.out K1)
  have HK1 := hid K1
  have HYl := hid hYl
  have HYs := hid hYs
  clear K1 A1 HSm hYl
  have hidx := idx29 a.P c.n i hin hn4
  have HS : Hid (∀ u, Kept w1 u → (u.cell? ⟨X, 0, none⟩ = some (.slice (some ⟨a.P, 0, none⟩) c.n c.n)) ∧ (u.cell? ⟨Y, 0, none⟩ = some (.string r.key) ∧ u.cell? ⟨Y, 1, none⟩ = some (.int .u64 r.s.p) ∧ u.cell? ⟨Y, 2, none⟩ = some (.int .u32 r.s.l) ∧ u.cell? ⟨Y, 3, none⟩ = some (.int .u8 r.s.n) ∧ u.cell? ⟨Y, 4, none⟩ = some (.int .u8 r.kind) ∧ u.cell? ⟨Y, 5, none⟩ = some (.int .u32 r.flags) ∧ u.cell? ⟨Y, 6, none⟩ = some (.int .u64 r.exp) ∧ u.cell? ⟨Y, 7, none⟩ = some (.string r.body))) := hid (fun u ku => ⟨(sm_cells (sm_kept HW1.out ku)).1.1, at_cells8' (at_kept HA1.out ku)⟩)
  have HQ8 : Hid (∀ u, Kept w1 u → C8 u a.P (i * 8) (pl i) ∧ ∀ j, u.frozen? ⟨a.P, j, none⟩ = false) := hid (fun u ku => rowR_cells (sm_kept HW1.out ku).row hin)
  have HE : Hid (∀ u, Kept w1 u → Sm (set8o u a.P (i * 8) (.string r.key) (.int .u64 r.s.p) (.int .u32 r.s.l) (.int .u8 r.s.n) (.int .u8 r.kind) (.int .u32 r.flags) (.int .u64 r.exp) (.string r.body)) F X c (updR pl i r) l f M fl (fun k => digL k (l.map pl)) sz ev l.length a ∧ Tn F w (set8o u a.P (i * 8) (.string r.key) (.int .u64 r.s.p) (.int .u32 r.s.l) (.int .u8 r.s.n) (.int .u8 r.kind) (.int .u32 r.flags) (.int .u64 r.exp) (.string r.body)) ∧ At (set8o u a.P (i * 8) (.string r.key) (.int .u64 r.s.p) (.int .u32 r.s.l) (.int .u8 r.s.n) (.int .u8 r.kind) (.int .u32 r.flags) (.int .u64 r.exp) (.string r.body)) Y #[.string r.key, .int .u64 r.s.p, .int .u32 r.s.l, .int .u8 r.s.n, .int .u8 r.kind, .int .u32 r.flags, .int .u64 r.exp, .string r.body] 42) := hid (fun u ku => ⟨sm_pl (sm_kept HW1.out ku) hin r, tn_set8o (tn_kept (kept_trans HK1.out ku)) HW1.out.fP _ _ _ _ _ _ _ _ _, at_tn (at_kept HA1.out ku) (tn_set8o (tn_refl (F := F)) HW1.out.fP _ _ _ _ _ _ _ _ _) HY.out⟩)
  have HZ : Hid (∀ u, Kept w1 u → ((set8o u a.P (i * 8) (.string r.key) (.int .u64 r.s.p) (.int .u32 r.s.l) (.int .u8 r.s.n) (.int .u8 r.kind) (.int .u32 r.flags) (.int .u64 r.exp) (.string r.body)).cell? ⟨X, 0, none⟩ = some (.slice (some ⟨a.P, 0, none⟩) c.n c.n)) ∧ ((set8o u a.P (i * 8) (.string r.key) (.int .u64 r.s.p) (.int .u32 r.s.l) (.int .u8 r.s.n) (.int .u8 r.kind) (.int .u32 r.flags) (.int .u64 r.exp) (.string r.body)).cell? ⟨Y, 0, none⟩ = some (.string r.key) ∧ (set8o u a.P (i * 8) (.string r.key) (.int .u64 r.s.p) (.int .u32 r.s.l) (.int .u8 r.s.n) (.int .u8 r.kind) (.int .u32 r.flags) (.int .u64 r.exp) (.string r.body)).cell? ⟨Y, 1, none⟩ = some (.int .u64 r.s.p) ∧ (set8o u a.P (i * 8) (.string r.key) (.int .u64 r.s.p) (.int .u32 r.s.l) (.int .u8 r.s.n) (.int .u8 r.kind) (.int .u32 r.flags) (.int .u64 r.exp) (.string r.body)).cell? ⟨Y, 2, none⟩ = some (.int .u32 r.s.l) ∧ (set8o u a.P (i * 8) (.string r.key) (.int .u64 r.s.p) (.int .u32 r.s.l) (.int .u8 r.s.n) (.int .u8 r.kind) (.int .u32 r.flags) (.int .u64 r.exp) (.string r.body)).cell? ⟨Y, 3, none⟩ = some (.int .u8 r.s.n) ∧ (set8o u a.P (i * 8) (.string r.key) (.int .u64 r.s.p) (.int .u32 r.s.l) (.int .u8 r.s.n) (.int .u8 r.kind) (.int .u32 r.flags) (.int .u64 r.exp) (.string r.body)).cell? ⟨Y, 4, none⟩ = some (.int .u8 r.kind) ∧ (set8o u a.P (i * 8) (.string r.key) (.int .u64 r.s.p) (.int .u32 r.s.l) (.int .u8 r.s.n) (.int .u8 r.kind) (.int .u32 r.flags) (.int .u64 r.exp) (.string r.body)).cell? ⟨Y, 5, none⟩ = some (.int .u32 r.flags) ∧ (set8o u a.P (i * 8) (.string r.key) (.int .u64 r.s.p) (.int .u32 r.s.l) (.int .u8 r.s.n) (.int .u8 r.kind) (.int .u32 r.flags) (.int .u64 r.exp) (.string r.body)).cell? ⟨Y, 6, none⟩ = some (.int .u64 r.exp) ∧ (set8o u a.P (i * 8) (.string r.key) (.int .u64 r.s.p) (.int .u32 r.s.l) (.int .u8 r.s.n) (.int .u8 r.kind) (.int .u32 r.flags) (.int .u64 r.exp) (.string r.body)).cell? ⟨Y, 7, none⟩ = some (.string r.body))) := hid (fun u ku => ⟨(sm_cells (HE.out u ku).1).1.1, at_cells8' (HE.out u ku).2.2⟩)
  go_enter Tryz.func44, Tryz.ntmps44
  go_wp2_with fail
  clear hw1
  have k0 : Kept w1 w1.drew := kept_refl w1
  refine wp_region_noPanic ?_
  refine wp_region_held_drew (S := (fun w' => (w'.cell? ⟨X, 0, none⟩ = some (.slice (some ⟨a.P, 0, none⟩) c.n c.n)) ∧ (w'.cell? ⟨Y, 0, none⟩ = some (.string r.key) ∧ w'.cell? ⟨Y, 1, none⟩ = some (.int .u64 r.s.p) ∧ w'.cell? ⟨Y, 2, none⟩ = some (.int .u32 r.s.l) ∧ w'.cell? ⟨Y, 3, none⟩ = some (.int .u8 r.s.n) ∧ w'.cell? ⟨Y, 4, none⟩ = some (.int .u8 r.kind) ∧ w'.cell? ⟨Y, 5, none⟩ = some (.int .u32 r.flags) ∧ w'.cell? ⟨Y, 6, none⟩ = some (.int .u64 r.exp) ∧ w'.cell? ⟨Y, 7, none⟩ = some (.string r.body)))) (by kernel_rfl) (by first | exact HS.out _ k0 | assumption) (fun hHeld => ?_)
  refine wpAnyH_take (i := 0) (v := .pointer (some ⟨X, 0, none⟩)) rfl (by kernel_rfl) (by kernel_rfl) (by kernel_rfl) (fun _ _ _ h => h) (Or.inl ⟨by rfl, fun w hSw => by (try dsimp only at hSw); go_simp⟩) (by assumption) ?_
  refine wpAnyH_take (i := 1) (v := .pointer (some ⟨X, 0, none⟩)) rfl (by kernel_rfl) (by kernel_rfl) (by kernel_rfl) (fun _ _ _ h => h) (Or.inl ⟨by rfl, fun w hSw => by (try dsimp only at hSw); go_simp⟩) (by assumption) ?_
  refine wpAnyH_take (i := 2) (v := .pointer (some ⟨X, 0, none⟩)) rfl (by kernel_rfl) (by kernel_rfl) (by kernel_rfl) (fun _ _ _ h => h) (Or.inl ⟨by rfl, fun w hSw => by (try dsimp only at hSw); go_simp⟩) (by assumption) ?_
  refine wpAnyH_take (i := 3) (v := .slice (some ⟨a.P, 0, none⟩) c.n c.n) rfl (by kernel_rfl) (by kernel_rfl) (by kernel_rfl) (fun _ _ _ h => h) (Or.inl ⟨by rfl, fun w hSw => by (try dsimp only at hSw); go_simp⟩) (by assumption) ?_
  refine wpAnyH_take (i := 4) (v := .int .i64 (i : Int)) rfl (by kernel_rfl) (by kernel_rfl) (by kernel_rfl) (fun _ _ _ h => h) (Or.inl ⟨by rfl, fun w hSw => by (try dsimp only at hSw); go_simp⟩) (by assumption) ?_
  refine wpAnyH_take (i := 5) (v := .agg #[.string r.key, .int .u64 r.s.p, .int .u32 r.s.l, .int .u8 r.s.n, .int .u8 r.kind, .int .u32 r.flags, .int .u64 r.exp, .string r.body]) rfl (by kernel_rfl) (by kernel_rfl) (by kernel_rfl) (fun _ _ _ h => h) (Or.inl ⟨by rfl, fun w hSw => by (try dsimp only at hSw); go_simp⟩) (by assumption) ?_
  try simp only [List.getElem_toArray, List.getElem_cons_zero, List.getElem_cons_succ, Act.put, List.setIfInBounds_toArray, List.set_cons_zero, List.set_cons_succ]
  refine wpAnyH_ready (rs := [6]) (by kernel_rfl) (by simp) ?_
  refine AllReadyH.cons (i := 6) rfl (fun K hK => ?_) AllReadyH.nil
  go_simp
  refine (fresh_any r hkf hbf _).mono ?_
  rintro e w3 ⟨rfl, h3⟩
  replace k0 := kept_trans k0 h3
  clear h3
  clear hHeld
  show K _ _
  refine hK.out _ _ (by first | exact HS.out _ k0 | assumption) (fun hHeld => ?_)
  clear hK K
  refine wpAnyH_take (i := 7) (v := .pointer (some ⟨a.P, i * 8, none⟩)) rfl (by kernel_rfl) (by kernel_rfl) (by kernel_rfl) (fun _ _ _ h => h) (Or.inl ⟨by rfl, fun w hSw => by (try dsimp only at hSw); go_simp⟩) (by assumption) ?_
  try simp only [List.getElem_toArray, List.getElem_cons_zero, List.getElem_cons_succ, Act.put, List.setIfInBounds_toArray, List.set_cons_zero, List.set_cons_succ]
  refine wpAnyH_ready (rs := [8]) (by kernel_rfl) (by simp) ?_
  refine AllReadyH.cons (i := 8) rfl (fun K hK => ?_) AllReadyH.nil
  obtain ⟨⟨q0, q1, q2, q3, q4, q5, q6, q7⟩, qf⟩ := HQ8.out _ k0
  obtain ⟨w4, hw4⟩ : ∃ w4, set8o w3 a.P (i * 8) (.string r.key) (.int .u64 r.s.p) (.int .u32 r.s.l) (.int .u8 r.s.n) (.int .u8 r.kind) (.int .u32 r.flags) (.int .u64 r.exp) (.string r.body) = w4 := ⟨_, rfl⟩
  have HB := hid (HE.out _ k0)
  have hS := HZ.out _ k0
  rw [hw4] at HB hS
  simp only [set8o] at hw4
  go_simp
  clear hHeld
  show K _ _
  refine hK.out _ _ (by first | exact HS.out _ k0 | assumption) (fun hHeld => ?_)
  clear hK K
  try simp only [List.getElem_toArray, List.getElem_cons_zero, List.getElem_cons_succ, Act.put, List.setIfInBounds_toArray, List.set_cons_zero, List.set_cons_succ]
  refine wpAnyH_done (by kernel_rfl) ?_ _
  refine NoPanic.normal ?_
  clear hHeld hS hw4 q0 q1 q2 q3 q4 q5 q6 q7 qf
  clear HS HQ8 HE HZ k0 hidx HW1 HA1 HK1
  obtain ⟨hw4, ht4, ha4⟩ := HB.out
  have HW4 := hid hw4
  have HT4 := hid ht4
  have HA4 := hid ha4
  clear HB hw4 ht4 ha4
  have HYl4 : Hid (Y < w4.heap.size) := hid (at_lt HA4.out)
  have HW4d := hid (sm_kept HW4.out (kept_drew (kept_refl w4)))
  have hSet := Slo.set_any r.key (by omega) (i : Int) w4.drew HW4d.out.tab
  have hnf : ¬ (Slo.mp a.m a.T r.key = none ∧ Slo.cnt a.T a.m = c.n) := fun h => by have := h.2; rw [HW4.out.cnt] at this; omega
  have HD5 : Hid (∀ u, Slo.Turns a.Xt a.Rt w4.drew u → Slo.Good u a.Xt a.Rt a.m c.n (Slo.setT (Slo.hm a.m) a.m c.n a.T r.key (i : Int)).2 → ∃ a' f', (∀ k, f' k = if k = r.key then some (i : Int) else f k) ∧ Sm u F X c (updR pl i r) l f' M fl (fun k => digL k (l.map pl)) sz ev (l.length + 1) a' ∧ Tn F w u ∧ At u Y #[.string r.key, .int .u64 r.s.p, .int .u32 r.s.l, .int .u8 r.s.n, .int .u8 r.kind, .int .u32 r.flags, .int .u64 r.exp, .string r.body] 42) := hid (fun u t g => by
    refine ⟨{ a with T := (Slo.setT (Slo.hm a.m) a.m c.n a.T r.key (i : Int)).2 }, fun k => if k = r.key then some (i : Int) else f k, fun k => rfl, sm_tab HW4d.out t g (fun k => ?_) ?_, tn_trans HT4.out (tn_turns t HW4.out.fXt HW4.out.fRt), at_tn HA4.out (tn_turns (F := F) t HW4.out.fXt HW4.out.fRt) HY.out⟩
    · rw [Slo.set_mp HW4d.out.tab g hnf, HW4.out.mp]
    · rw [Slo.set_cnt HW4d.out.tab hnf, HW4.out.mp, HFn.out, HW4.out.cnt]
      simp)
  have hS0 : (w4.drew.cell? ⟨X, 1, none⟩ = some (.pointer (some ⟨a.Xt, 0, none⟩))) ∧ (w4.drew.cell? ⟨Y, 0, none⟩ = some (.string r.key)) := ⟨(sm_cells HW4d.out).1.2.1, at_cell (at_drew HA4.out) 0⟩
  have HS5 : Hid (∀ u, Slo.Turns a.Xt a.Rt w4.drew u → (u.cell? ⟨X, 1, none⟩ = some (.pointer (some ⟨a.Xt, 0, none⟩))) ∧ (u.cell? ⟨Y, 0, none⟩ = some (.string r.key))) := hid (fun u t => by
    have q := sm_ats HW4d.out
    obtain ⟨cs, h1, h2⟩ := HW4d.out.obj
    exact ⟨(at_cell (Slo.at_turns h1 t (ne_of q.x q.xt (by decide)) (ne_of q.x q.rt (by decide))) 1).trans h2.c1, at_cell (at_tn HA4.out (tn_turns (F := F) t HW4.out.fXt HW4.out.fRt) HY.out) 0⟩)
  clear HW4 HT4 HA4 hnf
  go_wp2_with fail
  refine wp_region_noPanic ?_
  refine wp_region_held_drew (S := (fun w' => (w'.cell? ⟨X, 1, none⟩ = some (.pointer (some ⟨a.Xt, 0, none⟩))) ∧ (w'.cell? ⟨Y, 0, none⟩ = some (.string r.key)))) (by kernel_rfl) (by first | exact hS0 | assumption) (fun hHeld => ?_)
  refine wpAnyH_take (i := 0) (v := .pointer (some ⟨X, 0, none⟩)) rfl (by kernel_rfl) (by kernel_rfl) (by kernel_rfl) (fun _ _ _ h => h) (Or.inl ⟨by rfl, fun w hSw => by (try dsimp only at hSw); go_simp⟩) (by assumption) ?_
  refine wpAnyH_take (i := 1) (v := .pointer (some ⟨X, 0, none⟩)) rfl (by kernel_rfl) (by kernel_rfl) (by kernel_rfl) (fun _ _ _ h => h) (Or.inl ⟨by rfl, fun w hSw => by (try dsimp only at hSw); go_simp⟩) (by assumption) ?_
  refine wpAnyH_take (i := 2) (v := .pointer (some ⟨X, 1, none⟩)) rfl (by kernel_rfl) (by kernel_rfl) (by kernel_rfl) (fun _ _ _ h => h) (Or.inl ⟨by rfl, fun w hSw => by (try dsimp only at hSw); go_simp⟩) (by assumption) ?_
  refine wpAnyH_take (i := 3) (v := .pointer (some ⟨a.Xt, 0, none⟩)) rfl (by kernel_rfl) (by kernel_rfl) (by kernel_rfl) (fun _ _ _ h => h) (Or.inl ⟨by rfl, fun w hSw => by (try dsimp only at hSw); go_simp⟩) (by assumption) ?_
  refine wpAnyH_take (i := 4) (v := .pointer (some ⟨Y, 0, none⟩)) rfl (by kernel_rfl) (by kernel_rfl) (by kernel_rfl) (fun _ _ _ h => h) (Or.inl ⟨by rfl, fun w hSw => by (try dsimp only at hSw); go_simp⟩) (by assumption) ?_
  refine wpAnyH_take (i := 5) (v := .string r.key) rfl (by kernel_rfl) (by kernel_rfl) (by kernel_rfl) (fun _ _ _ h => h) (Or.inl ⟨by rfl, fun w hSw => by (try dsimp only at hSw); go_simp⟩) (by assumption) ?_
  refine wpAnyH_take (i := 6) (v := .int .i64 (i : Int)) rfl (by kernel_rfl) (by kernel_rfl) (by kernel_rfl) (fun _ _ _ h => h) (Or.inl ⟨by rfl, fun w hSw => by (try dsimp only at hSw); go_simp⟩) (by assumption) ?_
  try simp only [List.getElem_toArray, List.getElem_cons_zero, List.getElem_cons_succ, Act.put, List.setIfInBounds_toArray, List.set_cons_zero, List.set_cons_succ]
  refine wpAnyH_ready (rs := [7]) (by kernel_rfl) (by simp) ?_
  refine AllReadyH.cons (i := 7) rfl (fun K hK => ?_) AllReadyH.nil
  go_simp
  refine (hSet).mono ?_
  rintro e w5 ⟨rfl, t5, g5⟩
  have HB := hid (HD5.out _ t5 g5)
  have hS := HS5.out _ t5
  clear t5 g5
  clear hHeld
  show K _ _
  refine hK.out _ _ (by first | exact hS0 | assumption) (fun hHeld => ?_)
  clear hK K
  try simp only [List.getElem_toArray, List.getElem_cons_zero, List.getElem_cons_succ, Act.put, List.setIfInBounds_toArray, List.set_cons_zero, List.set_cons_succ]
  refine wpAnyH_done (by kernel_rfl) ?_ _
  refine NoPanic.normal ?_
  clear hHeld hSet hS hS0 HD5 HS5
  obtain ⟨a5, f5, hf5, hw5, ht5, ha5⟩ := HB.out
  obtain ⟨⟨_, _, c2, _⟩, _⟩ := sm_cells hw5
  have HF5 := hid hf5
  have HW5 := hid hw5
  have HT5 := hid ht5
  have HA5 := hid ha5
  clear HB hf5 hw5 ht5 ha5 HW4d HFn HYl4
  go_wp2_with fail
  refine (Lru.use_any i hin _ HW5.out.lst).mono ?_
  rintro e w6 ⟨rfl, t6, g6⟩
  rw [Lru.wo_not hi] at g6
  have HW6 := hid (sm_lst HW5.out t6 g6)
  have HT6 := hid (tn_trans HT5.out (tn_turn t6 HW5.out.fRl))
  have HA6 := hid (at_tn HA5.out (tn_turn (F := F) t6 HW5.out.fRl) HY.out)
  clear c2 t6 g6 HW5 HT5 HA5
  have hOld : ∀ u, Kept w6 u → _ := fun u ku => oldAt_any hc r hp0 hp1 u (sm_kept HW6.out ku)
  have hwu : Whl.Wu (r.s.p + (c.K : Int)) := wu_of (by omega) (by have := hc.2.2.2.2.2; omega)
  have hAdd : ∀ u, Kept w6 u → _ := fun u ku => Whl.add_any (i : Int) (r.s.p + (c.K : Int)) (wf_nat (by omega)) hwu hML u (sm_kept HW6.out ku).whl
  have HD7 : Hid (∀ (u u' : World) {G : Nat → Prop}, Kept w6 u → Whl.Stp a5.Fw G u u' → Whl.Good u' G a5.Xw (Whl.ins (r.s.p + (c.K : Int), (i : Int)) (Whl.wo M (i : Int))) → ∃ F' a', Whl.Stp F F' w u' ∧ Sm u' F' X c (updR pl i r) (i :: l) f5 (Whl.ins (r.s.p + (c.K : Int), (i : Int)) (Whl.wo M (i : Int))) fl (fun k => digL k (l.map pl)) sz ev (l.length + 1) a' ∧ At u' Y #[.string r.key, .int .u64 r.s.p, .int .u32 r.s.l, .int .u8 r.s.n, .int .u8 r.kind, .int .u32 r.flags, .int .u64 r.exp, .string r.body] 42 ∧ ¬ F' Y) := hid (fun u u' G ku t g => by
    have hsu := sm_kept HW6.out ku
    have hYu : Y < u.heap.size := at_lt (at_kept HA6.out ku)
    have hnG : ¬ G Y := fun hg => by
      rcases t.2 Y hg with z | z
      · exact HY.out (HW6.out.fw _ z)
      · omega
    have hTu : Tn F w u := tn_trans HT6.out (tn_kept ku)
    refine ⟨fun k => F k ∨ G k, { a5 with Fw := G }, ⟨tn_trans hTu (tn_mono t.1 HW6.out.fw), fun j hj => ?_⟩, sm_whl hsu t g, at_tn (at_kept HA6.out ku) (tn_mono t.1 HW6.out.fw) HY.out, fun hF => ?_⟩
    · rcases hj with hj | hj
      · exact .inl hj
      · rcases t.2 j hj with z | z
        · exact .inl (HW6.out.fw _ z)
        · exact .inr (Nat.le_trans hTu.2.2.1 z)
    · rcases hF with hF | hF
      · exact HY.out hF
      · exact hnG hF)
  have HS : Hid (∀ u, Kept w6 u → (u.cell? ⟨X, 3, none⟩ = some (.pointer (some ⟨a5.Xw, 0, none⟩))) ∧ (u.cell? ⟨Y, 0, none⟩ = some (.string r.key) ∧ u.cell? ⟨Y, 1, none⟩ = some (.int .u64 r.s.p) ∧ u.cell? ⟨Y, 2, none⟩ = some (.int .u32 r.s.l) ∧ u.cell? ⟨Y, 3, none⟩ = some (.int .u8 r.s.n) ∧ u.cell? ⟨Y, 4, none⟩ = some (.int .u8 r.kind) ∧ u.cell? ⟨Y, 5, none⟩ = some (.int .u32 r.flags) ∧ u.cell? ⟨Y, 6, none⟩ = some (.int .u64 r.exp) ∧ u.cell? ⟨Y, 7, none⟩ = some (.string r.body))) := hid (fun u ku => ⟨(sm_cells (sm_kept HW6.out ku)).1.2.2.2.1, at_cells8' (at_kept HA6.out ku)⟩)
  have HS7 : Hid (∀ (u u' : World) {G : Nat → Prop}, Kept w6 u → Whl.Stp a5.Fw G u u' → (u'.cell? ⟨X, 3, none⟩ = some (.pointer (some ⟨a5.Xw, 0, none⟩))) ∧ (u'.cell? ⟨Y, 0, none⟩ = some (.string r.key) ∧ u'.cell? ⟨Y, 1, none⟩ = some (.int .u64 r.s.p) ∧ u'.cell? ⟨Y, 2, none⟩ = some (.int .u32 r.s.l) ∧ u'.cell? ⟨Y, 3, none⟩ = some (.int .u8 r.s.n) ∧ u'.cell? ⟨Y, 4, none⟩ = some (.int .u8 r.kind) ∧ u'.cell? ⟨Y, 5, none⟩ = some (.int .u32 r.flags) ∧ u'.cell? ⟨Y, 6, none⟩ = some (.int .u64 r.exp) ∧ u'.cell? ⟨Y, 7, none⟩ = some (.string r.body))) := hid (fun u u' G ku t => by
    obtain ⟨cs, h1, h2⟩ := (sm_kept HW6.out ku).obj
    exact ⟨(at_cell (at_tn h1 t.1 HW6.out.nX) 3).trans h2.c3, at_cells8' (at_tn (at_kept HA6.out ku) (tn_mono t.1 HW6.out.fw) HY.out)⟩)
  obtain ⟨⟨_, _, _, c3, _⟩, _⟩ := sm_cells HW6.out
  clear c3
  go_wp2_with fail
  have k0 : Kept w6 w6.drew := kept_refl w6
  refine wp_region_noPanic ?_
  refine wp_region_held_drew (S := (fun w' => (w'.cell? ⟨X, 3, none⟩ = some (.pointer (some ⟨a5.Xw, 0, none⟩))) ∧ (w'.cell? ⟨Y, 0, none⟩ = some (.string r.key) ∧ w'.cell? ⟨Y, 1, none⟩ = some (.int .u64 r.s.p) ∧ w'.cell? ⟨Y, 2, none⟩ = some (.int .u32 r.s.l) ∧ w'.cell? ⟨Y, 3, none⟩ = some (.int .u8 r.s.n) ∧ w'.cell? ⟨Y, 4, none⟩ = some (.int .u8 r.kind) ∧ w'.cell? ⟨Y, 5, none⟩ = some (.int .u32 r.flags) ∧ w'.cell? ⟨Y, 6, none⟩ = some (.int .u64 r.exp) ∧ w'.cell? ⟨Y, 7, none⟩ = some (.string r.body)))) (by kernel_rfl) (by first | exact HS.out _ k0 | assumption) (fun hHeld => ?_)
  refine wpAnyH_take (i := 0) (v := .pointer (some ⟨X, 0, none⟩)) rfl (by kernel_rfl) (by kernel_rfl) (by kernel_rfl) (fun _ _ _ h => h) (Or.inl ⟨by rfl, fun w hSw => by (try dsimp only at hSw); go_simp⟩) (by assumption) ?_
  refine wpAnyH_take (i := 1) (v := .pointer (some ⟨X, 0, none⟩)) rfl (by kernel_rfl) (by kernel_rfl) (by kernel_rfl) (fun _ _ _ h => h) (Or.inl ⟨by rfl, fun w hSw => by (try dsimp only at hSw); go_simp⟩) (by assumption) ?_
  refine wpAnyH_take (i := 2) (v := .pointer (some ⟨X, 3, none⟩)) rfl (by kernel_rfl) (by kernel_rfl) (by kernel_rfl) (fun _ _ _ h => h) (Or.inl ⟨by rfl, fun w hSw => by (try dsimp only at hSw); go_simp⟩) (by assumption) ?_
  refine wpAnyH_take (i := 3) (v := .pointer (some ⟨a5.Xw, 0, none⟩)) rfl (by kernel_rfl) (by kernel_rfl) (by kernel_rfl) (fun _ _ _ h => h) (Or.inl ⟨by rfl, fun w hSw => by (try dsimp only at hSw); go_simp⟩) (by assumption) ?_
  refine wpAnyH_take (i := 4) (v := .int .i64 (i : Int)) rfl (by kernel_rfl) (by kernel_rfl) (by kernel_rfl) (fun _ _ _ h => h) (Or.inl ⟨by rfl, fun w hSw => by (try dsimp only at hSw); go_simp⟩) (by assumption) ?_
  refine wpAnyH_take (i := 5) (v := .pointer (some ⟨X, 0, none⟩)) rfl (by kernel_rfl) (by kernel_rfl) (by kernel_rfl) (fun _ _ _ h => h) (Or.inl ⟨by rfl, fun w hSw => by (try dsimp only at hSw); go_simp⟩) (by assumption) ?_
  refine wpAnyH_take (i := 6) (v := .agg #[.string r.key, .int .u64 r.s.p, .int .u32 r.s.l, .int .u8 r.s.n, .int .u8 r.kind, .int .u32 r.flags, .int .u64 r.exp, .string r.body]) rfl (by kernel_rfl) (by kernel_rfl) (by kernel_rfl) (fun _ _ _ h => h) (Or.inl ⟨by rfl, fun w hSw => by (try dsimp only at hSw); go_simp⟩) (by assumption) ?_
  try simp only [List.getElem_toArray, List.getElem_cons_zero, List.getElem_cons_succ, Act.put, List.setIfInBounds_toArray, List.set_cons_zero, List.set_cons_succ]
  refine wpAnyH_ready (rs := [7]) (by kernel_rfl) (by simp) ?_
  refine AllReadyH.cons (i := 7) rfl (fun K hK => ?_) AllReadyH.nil
  go_simp
  refine (hOld _ k0).mono ?_
  rintro e w3 ⟨rfl, h3⟩
  replace k0 := kept_trans k0 h3
  clear h3
  clear hHeld
  show K _ _
  refine hK.out _ _ (by first | exact HS.out _ k0 | assumption) (fun hHeld => ?_)
  clear hK K
  try simp only [List.getElem_toArray, List.getElem_cons_zero, List.getElem_cons_succ, Act.put, List.setIfInBounds_toArray, List.set_cons_zero, List.set_cons_succ]
  refine wpAnyH_ready (rs := [8]) (by kernel_rfl) (by simp) ?_
  refine AllReadyH.cons (i := 8) rfl (fun K hK => ?_) AllReadyH.nil
  go_simp
  refine (hAdd _ k0).mono ?_
  rintro e w7 ⟨rfl, G, t7, g7⟩
  have HB := hid (HD7.out _ _ k0 t7 g7)
  have hS := HS7.out _ _ k0 t7
  clear t7 g7
  clear hHeld
  show K _ _
  refine hK.out _ _ (by first | exact HS.out _ k0 | assumption) (fun hHeld => ?_)
  clear hK K
  try simp only [List.getElem_toArray, List.getElem_cons_zero, List.getElem_cons_succ, Act.put, List.setIfInBounds_toArray, List.set_cons_zero, List.set_cons_succ]
  refine wpAnyH_done (by kernel_rfl) ?_ _
  refine NoPanic.normal ?_
  clear hHeld hS
  clear hOld hAdd HD7 HS HS7 hwu k0 hML
  obtain ⟨F7, a7, hs7, hw7, ha7, hy7⟩ := HB.out
  have HW7 := hid hw7
  have HT7 := hid hs7
  have HA7 := hid ha7
  have HY7 := hid hy7
  clear HB hs7 hw7 ha7 hy7 HW6 HT6 HA6 HY
  have hRg := range_any r.key hsm
  have HK64 := hid (rg_lt r.key)
  obtain ⟨k, hk⟩ : ∃ k, rg r.key = k := ⟨_, rfl⟩
  rw [hk] at hRg HK64 HEnd HDg
  clear hk
  obtain ⟨v, hv⟩ : ∃ v, digL k (l.map pl) ^^^ dgN r = v := ⟨_, rfl⟩
  have hxor : bits .xor .u64 (digL k (l.map pl) : Int) (digR r) = (v : Int) := by rw [dgN_int]; exact xor_int HDg.out (dgN_lt r) hv
  have hidx := idx74 X k (by have := HK64.out; omega)
  have hkm : r.key.size ≤ maxLen := hsm
  rw [hv] at HEnd
  have HE : Hid (∀ u, Kept w7 u → Hid (Sm (u.setCell ⟨X, 196 + k, none⟩ (.int .u64 (v : Int))) F7 X c (updR pl i r) (i :: l) f5 (Whl.ins (r.s.p + (c.K : Int), (i : Int)) (Whl.wo M (i : Int))) fl (updN (fun k => digL k (l.map pl)) k v) sz ev (l.length + 1) a7) ∧ Hid (Whl.Stp F F7 w (u.setCell ⟨X, 196 + k, none⟩ (.int .u64 (v : Int)))) ∧ Hid (At (u.setCell ⟨X, 196 + k, none⟩ (.int .u64 (v : Int))) Y #[.string r.key, .int .u64 r.s.p, .int .u32 r.s.l, .int .u8 r.s.n, .int .u8 r.kind, .int .u32 r.flags, .int .u64 r.exp, .string r.body] 42)) := hid (fun u ku => ⟨hid (sm_dg (sm_kept HW7.out ku) HK64.out v), hid (stp_set HT7.out ku HW7.out.fX _ _), hid (at_other (at_kept HA7.out ku) (fun e => HY7.out (by rw [e]; exact HW7.out.fX)) _ _)⟩)
  have HC : Hid (∀ u, Kept w7 u → u.cell? ⟨X, 196 + k, none⟩ = some (.int .u64 (digL k (l.map pl) : Int))) := hid (fun u ku => sm_digest (sm_kept HW7.out ku) HK64.out)
  have HF : Hid (∀ u, Kept w7 u → ∀ j, u.frozen? ⟨X, j, none⟩ = false) := hid (fun u ku => (sm_cells (sm_kept HW7.out ku)).2)
  have HS : Hid (∀ u, Kept w7 u → (u.cell? ⟨Y, 0, none⟩ = some (.string r.key) ∧ u.cell? ⟨Y, 1, none⟩ = some (.int .u64 r.s.p) ∧ u.cell? ⟨Y, 2, none⟩ = some (.int .u32 r.s.l) ∧ u.cell? ⟨Y, 3, none⟩ = some (.int .u8 r.s.n) ∧ u.cell? ⟨Y, 4, none⟩ = some (.int .u8 r.kind) ∧ u.cell? ⟨Y, 5, none⟩ = some (.int .u32 r.flags) ∧ u.cell? ⟨Y, 6, none⟩ = some (.int .u64 r.exp) ∧ u.cell? ⟨Y, 7, none⟩ = some (.string r.body))) := hid (fun u ku => at_cells8' (at_kept HA7.out ku))
  have HZ : Hid (∀ u, Kept w7 u → ((u.setCell ⟨X, 196 + k, none⟩ (.int .u64 (v : Int))).cell? ⟨Y, 0, none⟩ = some (.string r.key) ∧ (u.setCell ⟨X, 196 + k, none⟩ (.int .u64 (v : Int))).cell? ⟨Y, 1, none⟩ = some (.int .u64 r.s.p) ∧ (u.setCell ⟨X, 196 + k, none⟩ (.int .u64 (v : Int))).cell? ⟨Y, 2, none⟩ = some (.int .u32 r.s.l) ∧ (u.setCell ⟨X, 196 + k, none⟩ (.int .u64 (v : Int))).cell? ⟨Y, 3, none⟩ = some (.int .u8 r.s.n) ∧ (u.setCell ⟨X, 196 + k, none⟩ (.int .u64 (v : Int))).cell? ⟨Y, 4, none⟩ = some (.int .u8 r.kind) ∧ (u.setCell ⟨X, 196 + k, none⟩ (.int .u64 (v : Int))).cell? ⟨Y, 5, none⟩ = some (.int .u32 r.flags) ∧ (u.setCell ⟨X, 196 + k, none⟩ (.int .u64 (v : Int))).cell? ⟨Y, 6, none⟩ = some (.int .u64 r.exp) ∧ (u.setCell ⟨X, 196 + k, none⟩ (.int .u64 (v : Int))).cell? ⟨Y, 7, none⟩ = some (.string r.body))) := hid (fun u ku => at_cells8' (HE.out u ku).2.2.out)
  generalize hd0 : digL k (l.map pl) = d at hxor HC HDg
  clear hv hd0 HDg HW7 HT7 HA7
  go_upto_region 5 with fail
  go_cut [0] (fun s wc => s = .pointer (some ⟨X, 0, none⟩) ∧ Hid (Sm wc F7 X c (updR pl i r) (i :: l) f5 (Whl.ins (r.s.p + (c.K : Int), (i : Int)) (Whl.wo M (i : Int))) fl (updN (fun k => digL k (l.map pl)) k v) sz ev (l.length + 1) a7) ∧ Hid (Whl.Stp F F7 w wc) ∧ Hid (At wc Y #[.string r.key, .int .u64 r.s.p, .int .u32 r.s.l, .int .u8 r.s.n, .int .u8 r.kind, .int .u32 r.flags, .int .u64 r.exp, .string r.body] 42))
  case first =>
    clear HEnd HF5 HSb
    have k0 : Kept w7 w7.drew := kept_refl w7
    have cD := HC.out _ k0
    refine wp_region_noPanic ?_
    refine wp_region_held_drew (S := (fun w' => (w'.cell? ⟨Y, 0, none⟩ = some (.string r.key) ∧ w'.cell? ⟨Y, 1, none⟩ = some (.int .u64 r.s.p) ∧ w'.cell? ⟨Y, 2, none⟩ = some (.int .u32 r.s.l) ∧ w'.cell? ⟨Y, 3, none⟩ = some (.int .u8 r.s.n) ∧ w'.cell? ⟨Y, 4, none⟩ = some (.int .u8 r.kind) ∧ w'.cell? ⟨Y, 5, none⟩ = some (.int .u32 r.flags) ∧ w'.cell? ⟨Y, 6, none⟩ = some (.int .u64 r.exp) ∧ w'.cell? ⟨Y, 7, none⟩ = some (.string r.body)))) (by kernel_rfl) (by first | exact HS.out _ k0 | assumption) (fun hHeld => ?_)
    refine wpAnyH_take (i := 0) (v := .pointer (some ⟨X, 0, none⟩)) rfl (by kernel_rfl) (by kernel_rfl) (by kernel_rfl) (fun _ _ _ h => h) (Or.inl ⟨by rfl, fun w hSw => by (try dsimp only at hSw); go_simp⟩) (by assumption) ?_
    refine wpAnyH_take (i := 1) (v := .pointer (some ⟨Y, 0, none⟩)) rfl (by kernel_rfl) (by kernel_rfl) (by kernel_rfl) (fun _ _ _ h => h) (Or.inl ⟨by rfl, fun w hSw => by (try dsimp only at hSw); go_simp⟩) (by assumption) ?_
    refine wpAnyH_take (i := 2) (v := .string r.key) rfl (by kernel_rfl) (by kernel_rfl) (by kernel_rfl) (fun _ _ _ h => h) (Or.inl ⟨by rfl, fun w hSw => by (try dsimp only at hSw); go_simp⟩) (by assumption) ?_
    refine wpAnyH_take (i := 4) (v := .pointer (some ⟨X, 0, none⟩)) rfl (by kernel_rfl) (by kernel_rfl) (by kernel_rfl) (fun _ _ _ h => h) (Or.inl ⟨by rfl, fun w hSw => by (try dsimp only at hSw); go_simp⟩) (by assumption) ?_
    refine wpAnyH_take (i := 5) (v := .pointer (some ⟨X, 196, none⟩)) rfl (by kernel_rfl) (by kernel_rfl) (by kernel_rfl) (fun _ _ _ h => h) (Or.inl ⟨by rfl, fun w hSw => by (try dsimp only at hSw); go_simp⟩) (by assumption) ?_
    refine wpAnyH_take (i := 8) (v := .agg #[.string r.key, .int .u64 r.s.p, .int .u32 r.s.l, .int .u8 r.s.n, .int .u8 r.kind, .int .u32 r.flags, .int .u64 r.exp, .string r.body]) rfl (by kernel_rfl) (by kernel_rfl) (by kernel_rfl) (fun _ _ _ h => h) (Or.inl ⟨by rfl, fun w hSw => by (try dsimp only at hSw); go_simp⟩) (by assumption) ?_
    refine wpAnyH_take (i := 11) (v := .pointer (some ⟨X, 0, none⟩)) rfl (by kernel_rfl) (by kernel_rfl) (by kernel_rfl) (fun _ _ _ h => h) (Or.inl ⟨by rfl, fun w hSw => by (try dsimp only at hSw); go_simp⟩) (by assumption) ?_
    refine wpAnyH_take (i := 12) (v := .pointer (some ⟨X, 196, none⟩)) rfl (by kernel_rfl) (by kernel_rfl) (by kernel_rfl) (fun _ _ _ h => h) (Or.inl ⟨by rfl, fun w hSw => by (try dsimp only at hSw); go_simp⟩) (by assumption) ?_
    try simp only [List.getElem_toArray, List.getElem_cons_zero, List.getElem_cons_succ, Act.put, List.setIfInBounds_toArray, List.set_cons_zero, List.set_cons_succ]
    refine wpAnyH_ready (rs := [3]) (by kernel_rfl) (by simp) ?_
    refine AllReadyH.cons (i := 3) rfl (fun K hK => ?_) AllReadyH.nil
    go_simp
    refine (hRg _).mono ?_
    rintro e w3 ⟨rfl, rfl⟩
    clear hHeld
    show K _ _
    refine hK.out _ _ (by first | exact HS.out _ k0 | assumption) (fun hHeld => ?_)
    clear hK K
    refine wpAnyH_take (i := 6) (v := .pointer (some ⟨X, 196 + k, none⟩)) rfl (by kernel_rfl) (by kernel_rfl) (by kernel_rfl) (fun _ _ _ h => h) (Or.inl ⟨by rfl, fun w hSw => by (try dsimp only at hSw); go_simp⟩) (by assumption) ?_
    try simp only [List.getElem_toArray, List.getElem_cons_zero, List.getElem_cons_succ, Act.put, List.setIfInBounds_toArray, List.set_cons_zero, List.set_cons_succ]
    refine wpAnyH_ready (rs := [7, 9]) (by kernel_rfl) (by simp) ?_
    refine AllReadyH.cons (i := 7) rfl (fun K hK => ?_) ?_
    · go_simp
      clear hHeld
      show K _ _
      refine hK.out _ _ (by first | exact HS.out _ k0 | assumption) (fun hHeld => ?_)
      clear hK K
      try simp only [List.getElem_toArray, List.getElem_cons_zero, List.getElem_cons_succ, Act.put, List.setIfInBounds_toArray, List.set_cons_zero, List.set_cons_succ]
      refine wpAnyH_ready (rs := [9]) (by kernel_rfl) (by simp) ?_
      refine AllReadyH.cons (i := 9) rfl (fun K hK => ?_) AllReadyH.nil
      go_simp
      refine (Digest_any r hkm _).mono ?_
      rintro e w3 ⟨rfl, h3⟩
      replace k0 := kept_trans k0 h3
      clear h3
      have cD := HC.out _ k0
      clear hHeld
      show K _ _
      refine hK.out _ _ (by first | exact HS.out _ k0 | assumption) (fun hHeld => ?_)
      clear hK K
      refine wpAnyH_take (i := 10) (v := .int .u64 (v : Int)) rfl (by kernel_rfl) (by kernel_rfl) (by kernel_rfl) (fun _ _ _ h => h) (Or.inl ⟨by rfl, fun w hSw => by (try dsimp only at hSw); go_simp⟩) (by assumption) ?_
      refine wpAnyH_take (i := 13) (v := .pointer (some ⟨X, 196 + k, none⟩)) rfl (by kernel_rfl) (by kernel_rfl) (by kernel_rfl) (fun _ _ _ h => h) (Or.inl ⟨by rfl, fun w hSw => by (try dsimp only at hSw); go_simp⟩) (by assumption) ?_
      try simp only [List.getElem_toArray, List.getElem_cons_zero, List.getElem_cons_succ, Act.put, List.setIfInBounds_toArray, List.set_cons_zero, List.set_cons_succ]
      refine wpAnyH_ready (rs := [14]) (by kernel_rfl) (by simp) ?_
      refine AllReadyH.cons (i := 14) rfl (fun K hK => ?_) AllReadyH.nil
      have fD := HF.out _ k0
      go_simp
      have hS := HZ.out _ k0
      clear hHeld
      show K _ _
      refine hK.out _ _ (by first | exact HS.out _ k0 | assumption) (fun hHeld => ?_)
      clear hK K
      try simp only [List.getElem_toArray, List.getElem_cons_zero, List.getElem_cons_succ, Act.put, List.setIfInBounds_toArray, List.set_cons_zero, List.set_cons_succ]
      refine wpAnyH_done (by kernel_rfl) ?_ _
      refine NoPanic.normal ?_
      clear hHeld
      go_wp2_with fail
      go_meet
      case rel => exact ⟨rfl, HE.out _ k0⟩
    refine AllReadyH.cons (i := 9) rfl (fun K hK => ?_) AllReadyH.nil
    go_simp
    refine (Digest_any r hkm _).mono ?_
    rintro e w3 ⟨rfl, h3⟩
    replace k0 := kept_trans k0 h3
    clear h3
    have cD := HC.out _ k0
    clear hHeld
    show K _ _
    refine hK.out _ _ (by first | exact HS.out _ k0 | assumption) (fun hHeld => ?_)
    clear hK K
    try simp only [List.getElem_toArray, List.getElem_cons_zero, List.getElem_cons_succ, Act.put, List.setIfInBounds_toArray, List.set_cons_zero, List.set_cons_succ]
    refine wpAnyH_ready (rs := [7]) (by kernel_rfl) (by simp) ?_
    refine AllReadyH.cons (i := 7) rfl (fun K hK => ?_) AllReadyH.nil
    go_simp
    clear hHeld
    show K _ _
    refine hK.out _ _ (by first | exact HS.out _ k0 | assumption) (fun hHeld => ?_)
    clear hK K
    refine wpAnyH_take (i := 10) (v := .int .u64 (v : Int)) rfl (by kernel_rfl) (by kernel_rfl) (by kernel_rfl) (fun _ _ _ h => h) (Or.inl ⟨by rfl, fun w hSw => by (try dsimp only at hSw); go_simp⟩) (by assumption) ?_
    refine wpAnyH_take (i := 13) (v := .pointer (some ⟨X, 196 + k, none⟩)) rfl (by kernel_rfl) (by kernel_rfl) (by kernel_rfl) (fun _ _ _ h => h) (Or.inl ⟨by rfl, fun w hSw => by (try dsimp only at hSw); go_simp⟩) (by assumption) ?_
    try simp only [List.getElem_toArray, List.getElem_cons_zero, List.getElem_cons_succ, Act.put, List.setIfInBounds_toArray, List.set_cons_zero, List.set_cons_succ]
    refine wpAnyH_ready (rs := [14]) (by kernel_rfl) (by simp) ?_
    refine AllReadyH.cons (i := 14) rfl (fun K hK => ?_) AllReadyH.nil
    have fD := HF.out _ k0
    go_simp
    have hS := HZ.out _ k0
    clear hHeld
    show K _ _
    refine hK.out _ _ (by first | exact HS.out _ k0 | assumption) (fun hHeld => ?_)
    clear hK K
    try simp only [List.getElem_toArray, List.getElem_cons_zero, List.getElem_cons_succ, Act.put, List.setIfInBounds_toArray, List.set_cons_zero, List.set_cons_succ]
    refine wpAnyH_done (by kernel_rfl) ?_ _
    refine NoPanic.normal ?_
    clear hHeld
    go_wp2_with fail
    go_meet
    case rel => exact ⟨rfl, HE.out _ k0⟩
  case rest =>
    obtain ⟨rfl, HW8, HT8, HA8⟩ := hcut
    clear HE HC HF HS HZ hRg hxor hidx
    obtain ⟨v2, hv2⟩ : ∃ v2, sz + lenR r = v2 := ⟨_, rfl⟩
    rw [hv2] at HEnd
    have HE : Hid (∀ u, Kept wc u → InC F X c (updR pl i r) (i :: l) fl ev pend w (.returned (.tuple #[])) (u.setCell ⟨X, 261, none⟩ (.int .i64 (v2 : Int)))) := hid (fun u ku => HEnd.out _ F7 a7 f5 (stp_set HT8.out ku HW8.out.fX _ _) HF5.out (sm_si (sm_kept HW8.out ku) v2))
    have HC : Hid (∀ u, Kept wc u → u.cell? ⟨X, 261, none⟩ = some (.int .i64 (sz : Int))) := hid (fun u ku => (sm_cells (sm_kept HW8.out ku)).1.2.2.2.2.2.1)
    have HF : Hid (∀ u, Kept wc u → ∀ j, u.frozen? ⟨X, j, none⟩ = false) := hid (fun u ku => (sm_cells (sm_kept HW8.out ku)).2)
    have HS : Hid (∀ u, Kept wc u → (u.cell? ⟨Y, 0, none⟩ = some (.string r.key) ∧ u.cell? ⟨Y, 1, none⟩ = some (.int .u64 r.s.p) ∧ u.cell? ⟨Y, 2, none⟩ = some (.int .u32 r.s.l) ∧ u.cell? ⟨Y, 3, none⟩ = some (.int .u8 r.s.n) ∧ u.cell? ⟨Y, 4, none⟩ = some (.int .u8 r.kind) ∧ u.cell? ⟨Y, 5, none⟩ = some (.int .u32 r.flags) ∧ u.cell? ⟨Y, 6, none⟩ = some (.int .u64 r.exp) ∧ u.cell? ⟨Y, 7, none⟩ = some (.string r.body))) := hid (fun u ku => at_cells8' (at_kept HA8.out ku))
    have HZ : Hid (∀ u, Kept wc u → ((u.setCell ⟨X, 261, none⟩ (.int .i64 (v2 : Int))).cell? ⟨Y, 0, none⟩ = some (.string r.key) ∧ (u.setCell ⟨X, 261, none⟩ (.int .i64 (v2 : Int))).cell? ⟨Y, 1, none⟩ = some (.int .u64 r.s.p) ∧ (u.setCell ⟨X, 261, none⟩ (.int .i64 (v2 : Int))).cell? ⟨Y, 2, none⟩ = some (.int .u32 r.s.l) ∧ (u.setCell ⟨X, 261, none⟩ (.int .i64 (v2 : Int))).cell? ⟨Y, 3, none⟩ = some (.int .u8 r.s.n) ∧ (u.setCell ⟨X, 261, none⟩ (.int .i64 (v2 : Int))).cell? ⟨Y, 4, none⟩ = some (.int .u8 r.kind) ∧ (u.setCell ⟨X, 261, none⟩ (.int .i64 (v2 : Int))).cell? ⟨Y, 5, none⟩ = some (.int .u32 r.flags) ∧ (u.setCell ⟨X, 261, none⟩ (.int .i64 (v2 : Int))).cell? ⟨Y, 6, none⟩ = some (.int .u64 r.exp) ∧ (u.setCell ⟨X, 261, none⟩ (.int .i64 (v2 : Int))).cell? ⟨Y, 7, none⟩ = some (.string r.body))) := hid (fun u ku => at_cells8' (at_other (at_kept HA8.out ku) (fun e => HY7.out (by rw [e]; exact HW8.out.fX)) _ _))
    have hsub : (sz : Int) + (lenR r : Int) = (v2 : Int) := by omega
    have hsb : (sz : Int) ≤ 1000000 := by have := HSb.out; omega
    have hwr : IntKind.i64.wrap (v2 : Int) = (v2 : Int) := by rw [IntKind.wrap_i64]; omega
    have k0 : Kept wc wc.drew := kept_refl wc
    have cD := HC.out _ k0
    have hkey : r.key.size ≤ 1000 := by omega
    clear HEnd HF5 HSb HW8 HT8 HA8 hv2 hlenr hsm hkm hkf hbf
    go_wp2_with fail
    refine wp_region_noPanic ?_
    refine wp_region_held_drew (S := (fun w' => (w'.cell? ⟨Y, 0, none⟩ = some (.string r.key) ∧ w'.cell? ⟨Y, 1, none⟩ = some (.int .u64 r.s.p) ∧ w'.cell? ⟨Y, 2, none⟩ = some (.int .u32 r.s.l) ∧ w'.cell? ⟨Y, 3, none⟩ = some (.int .u8 r.s.n) ∧ w'.cell? ⟨Y, 4, none⟩ = some (.int .u8 r.kind) ∧ w'.cell? ⟨Y, 5, none⟩ = some (.int .u32 r.flags) ∧ w'.cell? ⟨Y, 6, none⟩ = some (.int .u64 r.exp) ∧ w'.cell? ⟨Y, 7, none⟩ = some (.string r.body)))) (by kernel_rfl) (by first | exact HS.out _ k0 | assumption) (fun hHeld => ?_)
    refine wpAnyH_take (i := 0) (v := .pointer (some ⟨X, 0, none⟩)) rfl (by kernel_rfl) (by kernel_rfl) (by kernel_rfl) (fun _ _ _ h => h) (Or.inl ⟨by rfl, fun w hSw => by (try dsimp only at hSw); go_simp⟩) (by assumption) ?_
    refine wpAnyH_take (i := 1) (v := .pointer (some ⟨X, 0, none⟩)) rfl (by kernel_rfl) (by kernel_rfl) (by kernel_rfl) (fun _ _ _ h => h) (Or.inl ⟨by rfl, fun w hSw => by (try dsimp only at hSw); go_simp⟩) (by assumption) ?_
    refine wpAnyH_take (i := 2) (v := .pointer (some ⟨X, 261, none⟩)) rfl (by kernel_rfl) (by kernel_rfl) (by kernel_rfl) (fun _ _ _ h => h) (Or.inl ⟨by rfl, fun w hSw => by (try dsimp only at hSw); go_simp⟩) (by assumption) ?_
    refine wpAnyH_take (i := 4) (v := .agg #[.string r.key, .int .u64 r.s.p, .int .u32 r.s.l, .int .u8 r.s.n, .int .u8 r.kind, .int .u32 r.flags, .int .u64 r.exp, .string r.body]) rfl (by kernel_rfl) (by kernel_rfl) (by kernel_rfl) (fun _ _ _ h => h) (Or.inl ⟨by rfl, fun w hSw => by (try dsimp only at hSw); go_simp⟩) (by assumption) ?_
    try simp only [List.getElem_toArray, List.getElem_cons_zero, List.getElem_cons_succ, Act.put, List.setIfInBounds_toArray, List.set_cons_zero, List.set_cons_succ]
    refine wpAnyH_ready (rs := [3, 5]) (by kernel_rfl) (by simp) ?_
    refine AllReadyH.cons (i := 3) rfl (fun K hK => ?_) ?_
    · go_simp
      clear hHeld
      show K _ _
      refine hK.out _ _ (by first | exact HS.out _ k0 | assumption) (fun hHeld => ?_)
      clear hK K
      try simp only [List.getElem_toArray, List.getElem_cons_zero, List.getElem_cons_succ, Act.put, List.setIfInBounds_toArray, List.set_cons_zero, List.set_cons_succ]
      refine wpAnyH_ready (rs := [5]) (by kernel_rfl) (by simp) ?_
      refine AllReadyH.cons (i := 5) rfl (fun K hK => ?_) AllReadyH.nil
      go_simp
      refine (length_any r hkey hbod _).mono ?_
      rintro e w3 ⟨rfl, h3⟩
      replace k0 := kept_trans k0 h3
      clear h3
      have cD := HC.out _ k0
      clear hHeld
      show K _ _
      refine hK.out _ _ (by first | exact HS.out _ k0 | assumption) (fun hHeld => ?_)
      clear hK K
      refine wpAnyH_take (i := 6) (v := .int .i64 (v2 : Int)) rfl (by kernel_rfl) (by kernel_rfl) (by kernel_rfl) (fun _ _ _ h => h) (Or.inl ⟨by rfl, fun w hSw => by (try dsimp only at hSw); go_simp⟩) (by assumption) ?_
      refine wpAnyH_take (i := 7) (v := .pointer (some ⟨X, 0, none⟩)) rfl (by kernel_rfl) (by kernel_rfl) (by kernel_rfl) (fun _ _ _ h => h) (Or.inl ⟨by rfl, fun w hSw => by (try dsimp only at hSw); go_simp⟩) (by assumption) ?_
      refine wpAnyH_take (i := 8) (v := .pointer (some ⟨X, 261, none⟩)) rfl (by kernel_rfl) (by kernel_rfl) (by kernel_rfl) (fun _ _ _ h => h) (Or.inl ⟨by rfl, fun w hSw => by (try dsimp only at hSw); go_simp⟩) (by assumption) ?_
      try simp only [List.getElem_toArray, List.getElem_cons_zero, List.getElem_cons_succ, Act.put, List.setIfInBounds_toArray, List.set_cons_zero, List.set_cons_succ]
      refine wpAnyH_ready (rs := [9]) (by kernel_rfl) (by simp) ?_
      refine AllReadyH.cons (i := 9) rfl (fun K hK => ?_) AllReadyH.nil
      have fD := HF.out _ k0
      go_simp
      have hS := HZ.out _ k0
      clear hHeld
      show K _ _
      refine hK.out _ _ (by first | exact HS.out _ k0 | assumption) (fun hHeld => ?_)
      clear hK K
      try simp only [List.getElem_toArray, List.getElem_cons_zero, List.getElem_cons_succ, Act.put, List.setIfInBounds_toArray, List.set_cons_zero, List.set_cons_succ]
      refine wpAnyH_done (by kernel_rfl) ?_ _
      refine NoPanic.normal ?_
      clear hHeld
      have HQ := hid (HE.out _ k0)
      clear k0 HS HC HF HZ HE hS fD cD
      go_wp2_with fail
      exact bodyPost_end (v := .tuple #[]) (by kernel_rfl) rfl HQ.out
    refine AllReadyH.cons (i := 5) rfl (fun K hK => ?_) AllReadyH.nil
    go_simp
    refine (length_any r hkey hbod _).mono ?_
    rintro e w3 ⟨rfl, h3⟩
    replace k0 := kept_trans k0 h3
    clear h3
    have cD := HC.out _ k0
    clear hHeld
    show K _ _
    refine hK.out _ _ (by first | exact HS.out _ k0 | assumption) (fun hHeld => ?_)
    clear hK K
    try simp only [List.getElem_toArray, List.getElem_cons_zero, List.getElem_cons_succ, Act.put, List.setIfInBounds_toArray, List.set_cons_zero, List.set_cons_succ]
    refine wpAnyH_ready (rs := [3]) (by kernel_rfl) (by simp) ?_
    refine AllReadyH.cons (i := 3) rfl (fun K hK => ?_) AllReadyH.nil
    go_simp
    clear hHeld
    show K _ _
    refine hK.out _ _ (by first | exact HS.out _ k0 | assumption) (fun hHeld => ?_)
    clear hK K
    refine wpAnyH_take (i := 6) (v := .int .i64 (v2 : Int)) rfl (by kernel_rfl) (by kernel_rfl) (by kernel_rfl) (fun _ _ _ h => h) (Or.inl ⟨by rfl, fun w hSw => by (try dsimp only at hSw); go_simp⟩) (by assumption) ?_
    refine wpAnyH_take (i := 7) (v := .pointer (some ⟨X, 0, none⟩)) rfl (by kernel_rfl) (by kernel_rfl) (by kernel_rfl) (fun _ _ _ h => h) (Or.inl ⟨by rfl, fun w hSw => by (try dsimp only at hSw); go_simp⟩) (by assumption) ?_
    refine wpAnyH_take (i := 8) (v := .pointer (some ⟨X, 261, none⟩)) rfl (by kernel_rfl) (by kernel_rfl) (by kernel_rfl) (fun _ _ _ h => h) (Or.inl ⟨by rfl, fun w hSw => by (try dsimp only at hSw); go_simp⟩) (by assumption) ?_
    try simp only [List.getElem_toArray, List.getElem_cons_zero, List.getElem_cons_succ, Act.put, List.setIfInBounds_toArray, List.set_cons_zero, List.set_cons_succ]
    refine wpAnyH_ready (rs := [9]) (by kernel_rfl) (by simp) ?_
    refine AllReadyH.cons (i := 9) rfl (fun K hK => ?_) AllReadyH.nil
    have fD := HF.out _ k0
    go_simp
    have hS := HZ.out _ k0
    clear hHeld
    show K _ _
    refine hK.out _ _ (by first | exact HS.out _ k0 | assumption) (fun hHeld => ?_)
    clear hK K
    try simp only [List.getElem_toArray, List.getElem_cons_zero, List.getElem_cons_succ, Act.put, List.setIfInBounds_toArray, List.set_cons_zero, List.set_cons_succ]
    refine wpAnyH_done (by kernel_rfl) ?_ _
    refine NoPanic.normal ?_
    clear hHeld
    have HQ := hid (HE.out _ k0)
    clear k0 HS HC HF HZ HE hS fD cD
    go_wp2_with fail
    exact bodyPost_end (v := .tuple #[]) (by kernel_rfl) rfl HQ.out
end Go.Proofs.YthgbdaladngpdaaGreat

/- A stamp ahead of another one: the truth and the number that tell it. No condition. -/
namespace Go.Proofs.YthgbdaladngpdaaGreat
theorem lt_cmp {a b : Stp} : lt a b = true ↔ cmp a b < 0 := by
  rw [lt_iff]
  rcases cmp_parts a b with ⟨h, e⟩ | ⟨h, e⟩ | ⟨h, e⟩
  · rw [e]; simp [h]
  · subst h
    rw [e]
    constructor
    · intro h; unfold Lt at h; omega
    · intro h; omega
  · rw [e]
    constructor
    · intro g; unfold Lt at h g; omega
    · intro g; omega
end Go.Proofs.YthgbdaladngpdaaGreat
