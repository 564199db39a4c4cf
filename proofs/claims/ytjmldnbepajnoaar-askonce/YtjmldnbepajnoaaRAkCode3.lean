/- The contract of the landed fresh: a record with texts of its own is the same record. Texts have at most 3000 bytes. -/
import Derived.Test.YtjmldnbepajnoaaRAkCode2
namespace Go.Proofs.YtjmldnbepajnoaaR
open Go.ChangeShapes Go.WideShapes Go.ChangeAt Go.RowKit
set_option linter.unusedVariables false
set_option linter.unusedSimpArgs false
set_option maxRecDepth 100000

def set8 (w : World) (G : Nat) (a0 a1 a2 a3 a4 a5 a6 a7 : Value) : World := (((((((w.setCell ⟨G, 0, none⟩ a0).setCell ⟨G, 1, none⟩ a1).setCell ⟨G, 2, none⟩ a2).setCell ⟨G, 3, none⟩ a3).setCell ⟨G, 4, none⟩ a4).setCell ⟨G, 5, none⟩ a5).setCell ⟨G, 6, none⟩ a6).setCell ⟨G, 7, none⟩ a7
theorem at_set8 {w : World} {G T : Nat} {v0 v1 v2 v3 v4 v5 v6 v7 : Value} (h : At w G #[v0, v1, v2, v3, v4, v5, v6, v7] T) (a0 a1 a2 a3 a4 a5 a6 a7 : Value) : At (set8 w G a0 a1 a2 a3 a4 a5 a6 a7) G #[a0, a1, a2, a3, a4, a5, a6, a7] T := by
  have h0 : At (w.setCell ⟨G, 0, none⟩ a0) G #[a0, v1, v2, v3, v4, v5, v6, v7] T := at_set h 0 a0
  have h1 : At ((w.setCell ⟨G, 0, none⟩ a0).setCell ⟨G, 1, none⟩ a1) G #[a0, a1, v2, v3, v4, v5, v6, v7] T := at_set h0 1 a1
  have h2 : At (((w.setCell ⟨G, 0, none⟩ a0).setCell ⟨G, 1, none⟩ a1).setCell ⟨G, 2, none⟩ a2) G #[a0, a1, a2, v3, v4, v5, v6, v7] T := at_set h1 2 a2
  have h3 : At ((((w.setCell ⟨G, 0, none⟩ a0).setCell ⟨G, 1, none⟩ a1).setCell ⟨G, 2, none⟩ a2).setCell ⟨G, 3, none⟩ a3) G #[a0, a1, a2, a3, v4, v5, v6, v7] T := at_set h2 3 a3
  have h4 : At (((((w.setCell ⟨G, 0, none⟩ a0).setCell ⟨G, 1, none⟩ a1).setCell ⟨G, 2, none⟩ a2).setCell ⟨G, 3, none⟩ a3).setCell ⟨G, 4, none⟩ a4) G #[a0, a1, a2, a3, a4, v5, v6, v7] T := at_set h3 4 a4
  have h5 : At ((((((w.setCell ⟨G, 0, none⟩ a0).setCell ⟨G, 1, none⟩ a1).setCell ⟨G, 2, none⟩ a2).setCell ⟨G, 3, none⟩ a3).setCell ⟨G, 4, none⟩ a4).setCell ⟨G, 5, none⟩ a5) G #[a0, a1, a2, a3, a4, a5, v6, v7] T := at_set h4 5 a5
  have h6 : At (((((((w.setCell ⟨G, 0, none⟩ a0).setCell ⟨G, 1, none⟩ a1).setCell ⟨G, 2, none⟩ a2).setCell ⟨G, 3, none⟩ a3).setCell ⟨G, 4, none⟩ a4).setCell ⟨G, 5, none⟩ a5).setCell ⟨G, 6, none⟩ a6) G #[a0, a1, a2, a3, a4, a5, a6, v7] T := at_set h5 6 a6
  exact at_set h6 7 a7
theorem kept_set8 {W w : World} (h : Kept W w) {G : Nat} (hG : W.heap.size ≤ G) (a0 a1 a2 a3 a4 a5 a6 a7 : Value) : Kept W (set8 w G a0 a1 a2 a3 a4 a5 a6 a7) :=
  kept_set (kept_set (kept_set (kept_set (kept_set (kept_set (kept_set (kept_set h hG 0 a0) hG 1 a1) hG 2 a2) hG 3 a3) hG 4 a4) hG 5 a5) hG 6 a6) hG 7 a7
theorem at_out8 {w : World} {X T G : Nat} {cs : Array Value} (h : At w X cs T) (hn : X ≠ G) (a0 a1 a2 a3 a4 a5 a6 a7 : Value) : At (set8 w G a0 a1 a2 a3 a4 a5 a6 a7) X cs T :=
  at_other (at_other (at_other (at_other (at_other (at_other (at_other (at_other h hn _ _) hn _ _) hn _ _) hn _ _) hn _ _) hn _ _) hn _ _) hn _ _
theorem res1 {fn : Func} {p : Tmp} (h : fn.results = #[.cell p 32]) (tmps : Array Value) {w : World} {X T : Nat} {v0 v1 v2 v3 v4 v5 v6 v7 : Value} (hp : tmps.getD p undef = .pointer (some ⟨X, 0, none⟩)) (hA : At w X #[v0, v1, v2, v3, v4, v5, v6, v7] T) :
    (results fn tmps).run Try.prog w = .ok (.agg #[v0, v1, v2, v3, v4, v5, v6, v7]) w := by
  obtain ⟨c0, c1, c2, c3, c4, c5, c6, c7, -⟩ := at_cells8 hA
  have hp' : tmps[p]?.getD undef = .pointer (some ⟨X, 0, none⟩) := by simpa using hp
  simp [results, h, go_sem, hp', c0, c1, c2, c3, c4, c5, c6, c7]
set_option maxHeartbeats 1600000 in
theorem fresh_any (r : R) (hk : r.key.size ≤ 3000) (hb : r.body.size ≤ 3000) (w : World) : Calls Try.prog 17 #[.agg #[.string r.key, .int .u64 r.s.p, .int .u32 r.s.l, .int .u8 r.s.n, .int .u8 r.kind, .int .u32 r.flags, .int .u64 r.exp, .string r.body]] w fun e w' => e = .returned (.agg #[.string r.key, .int .u64 r.s.p, .int .u32 r.s.l, .int .u8 r.s.n, .int .u8 r.kind, .int .u32 r.flags, .int .u64 r.exp, .string r.body]) ∧ Kept w w' := by
  have hz := zeroRv
  have K0 := kept_alloc (kept_alloc (kept_refl w) (.cells #[.string r.key, .int .u64 r.s.p, .int .u32 r.s.l, .int .u8 r.s.n, .int .u8 r.kind, .int .u32 r.flags, .int .u64 r.exp, .string r.body] 32)) (.cells #[.string ⟨#[]⟩, .int .u64 0, .int .u32 0, .int .u8 0, .int .u8 0, .int .u32 0, .int .u64 0, .string ⟨#[]⟩] 32)
  have A0 := at_alloc (at_new w #[.string r.key, .int .u64 r.s.p, .int .u32 r.s.l, .int .u8 r.s.n, .int .u8 r.kind, .int .u32 r.flags, .int .u64 r.exp, .string r.body] 32) (.cells #[.string ⟨#[]⟩, .int .u64 0, .int .u32 0, .int .u8 0, .int .u8 0, .int .u32 0, .int .u64 0, .string ⟨#[]⟩] 32)
  have B0 := at_new (w.alloc (.cells #[.string r.key, .int .u64 r.s.p, .int .u32 r.s.l, .int .u8 r.s.n, .int .u8 r.kind, .int .u32 r.flags, .int .u64 r.exp, .string r.body] 32)) #[.string ⟨#[]⟩, .int .u64 0, .int .u32 0, .int .u8 0, .int .u8 0, .int .u32 0, .int .u64 0, .string ⟨#[]⟩] 32
  simp only [World.size_alloc] at B0
  have HC := hid (fun u => clone_any r.key (by omega) u)
  have HB := hid (fun u => clone_any r.body (by omega) u)
  obtain ⟨N, hN⟩ : ∃ N, w.heap.size = N := ⟨_, rfl⟩
  rw [hN] at A0 B0
  have HN := hid hN
  clear hk hb
  go_enter Try.func17, Try.ntmps17
  go_wp2_with fail
  generalize (w.alloc (.cells #[.string r.key, .int .u64 r.s.p, .int .u32 r.s.l, .int .u8 r.s.n, .int .u8 r.kind, .int .u32 r.flags, .int .u64 r.exp, .string r.body] 32)).alloc (.cells #[.string ⟨#[]⟩, .int .u64 0, .int .u32 0, .int .u8 0, .int .u8 0, .int .u32 0, .int .u64 0, .string ⟨#[]⟩] 32) = w0 at *
  obtain ⟨Y, hY⟩ : ∃ Y, N + 1 = Y := ⟨_, rfl⟩
  simp only [hY, hN] at B0 ⊢
  have hne : Y ≠ N := by omega
  have HSt : Hid (∀ u, Kept w0 u → (u.cell? ⟨N, 0, none⟩ = some (.string r.key) ∧ u.cell? ⟨N, 7, none⟩ = some (.string r.body)) ∧ (∀ j, u.frozen? ⟨N, j, none⟩ = false) ∧ ((u.setCell ⟨N, 0, none⟩ (.string r.key)).cell? ⟨N, 0, none⟩ = some (.string r.key) ∧ (u.setCell ⟨N, 0, none⟩ (.string r.key)).cell? ⟨N, 7, none⟩ = some (.string r.body)) ∧ (∀ j, (u.setCell ⟨N, 0, none⟩ (.string r.key)).frozen? ⟨N, j, none⟩ = false) ∧
      (((u.setCell ⟨N, 0, none⟩ (.string r.key)).setCell ⟨N, 7, none⟩ (.string r.body)).cell? ⟨N, 0, none⟩ = some (.string r.key) ∧ ((u.setCell ⟨N, 0, none⟩ (.string r.key)).setCell ⟨N, 7, none⟩ (.string r.body)).cell? ⟨N, 7, none⟩ = some (.string r.body)) ∧ At ((u.setCell ⟨N, 0, none⟩ (.string r.key)).setCell ⟨N, 7, none⟩ (.string r.body)) N #[.string r.key, .int .u64 r.s.p, .int .u32 r.s.l, .int .u8 r.s.n, .int .u8 r.kind, .int .u32 r.flags, .int .u64 r.exp, .string r.body] 32 ∧ At ((u.setCell ⟨N, 0, none⟩ (.string r.key)).setCell ⟨N, 7, none⟩ (.string r.body)) Y #[.string ⟨#[]⟩, .int .u64 0, .int .u32 0, .int .u8 0, .int .u8 0, .int .u32 0, .int .u64 0, .string ⟨#[]⟩] 32 ∧ Kept w ((u.setCell ⟨N, 0, none⟩ (.string r.key)).setCell ⟨N, 7, none⟩ (.string r.body))) := hid (fun u ku => by
    have a := at_kept A0 ku
    have a1 : At (u.setCell ⟨N, 0, none⟩ (.string r.key)) N #[.string r.key, .int .u64 r.s.p, .int .u32 r.s.l, .int .u8 r.s.n, .int .u8 r.kind, .int .u32 r.flags, .int .u64 r.exp, .string r.body] 32 := at_set a 0 (.string r.key)
    have a2 : At ((u.setCell ⟨N, 0, none⟩ (.string r.key)).setCell ⟨N, 7, none⟩ (.string r.body)) N #[.string r.key, .int .u64 r.s.p, .int .u32 r.s.l, .int .u8 r.s.n, .int .u8 r.kind, .int .u32 r.flags, .int .u64 r.exp, .string r.body] 32 := at_set a1 7 (.string r.body)
    exact ⟨⟨at_cell a 0, at_cell a 7⟩, at_frozen a, ⟨at_cell a1 0, at_cell a1 7⟩, at_frozen a1, ⟨at_cell a2 0, at_cell a2 7⟩, a2, at_other (at_other (at_kept B0 ku) hne _ _) hne _ _, kept_set (kept_set (kept_trans K0 ku) (by omega) 0 _) (by omega) 7 _⟩)
  have HKd : Hid (Kept w0 w0.drew) := hid (kept_drew (kept_refl w0))
  have HYN : Hid (w.heap.size ≤ Y) := hid (by omega)
  have hS := (HSt.out w0.drew HKd.out).1
  clear A0 B0 K0 hY hN hne hz
  refine wp_region_noPanic ?_
  refine wp_region_held_drew (S := (fun w' => (w'.cell? ⟨N, 0, none⟩ = some (.string r.key)) ∧ (w'.cell? ⟨N, 7, none⟩ = some (.string r.body)))) (by kernel_rfl) (hS) (fun hHeld => ?_)
  refine wpAnyH_take (i := 0) (v := .pointer (some ⟨N, 0, none⟩)) rfl (by kernel_rfl) (by kernel_rfl) (by kernel_rfl) (fun _ _ _ h => h) (Or.inl ⟨by rfl, fun w hSw => by (try dsimp only at hSw); go_simp⟩) (by assumption) ?_
  try simp only [List.getElem_toArray, List.getElem_cons_zero, List.getElem_cons_succ, Act.put, List.setIfInBounds_toArray, List.set_cons_zero, List.set_cons_succ]
  refine wpAnyH_take (i := 1) (v := .string r.key) rfl (by kernel_rfl) (by kernel_rfl) (by kernel_rfl) (fun _ _ _ h => h) (Or.inl ⟨by rfl, fun w hSw => by (try dsimp only at hSw); go_simp⟩) (by assumption) ?_
  try simp only [List.getElem_toArray, List.getElem_cons_zero, List.getElem_cons_succ, Act.put, List.setIfInBounds_toArray, List.set_cons_zero, List.set_cons_succ]
  refine wpAnyH_take (i := 3) (v := .pointer (some ⟨N, 7, none⟩)) rfl (by kernel_rfl) (by kernel_rfl) (by kernel_rfl) (fun _ _ _ h => h) (Or.inl ⟨by rfl, fun w hSw => by (try dsimp only at hSw); go_simp⟩) (by assumption) ?_
  try simp only [List.getElem_toArray, List.getElem_cons_zero, List.getElem_cons_succ, Act.put, List.setIfInBounds_toArray, List.set_cons_zero, List.set_cons_succ]
  refine wpAnyH_take (i := 4) (v := .string r.body) rfl (by kernel_rfl) (by kernel_rfl) (by kernel_rfl) (fun _ _ _ h => h) (Or.inl ⟨by rfl, fun w hSw => by (try dsimp only at hSw); go_simp⟩) (by assumption) ?_
  try simp only [List.getElem_toArray, List.getElem_cons_zero, List.getElem_cons_succ, Act.put, List.setIfInBounds_toArray, List.set_cons_zero, List.set_cons_succ]
  refine wpAnyH_ready (rs := [2]) (by kernel_rfl) (by simp) ?_
  refine AllReadyH.cons (i := 2) rfl (fun K hK => ?_) AllReadyH.nil
  go_simp
  refine (HC.out _).mono ?_
  rintro e w5 ⟨rfl, h5⟩
  have HK5 := hid (kept_trans HKd.out (kept_below h5))
  have hS := (HSt.out w5 HK5.out).1
  clear h5
  clear hHeld
  show K _ _
  refine hK.out _ _ (hS) (fun hHeld => ?_)
  clear hK K
  try simp only [List.getElem_toArray, List.getElem_cons_zero, List.getElem_cons_succ, Act.put, List.setIfInBounds_toArray, List.set_cons_zero, List.set_cons_succ]
  refine wpAnyH_take (i := 6) (v := .pointer (some ⟨N, 0, none⟩)) rfl (by kernel_rfl) (by kernel_rfl) (by kernel_rfl) (fun _ _ _ h => h) (Or.inl ⟨by rfl, fun w hSw => by (try dsimp only at hSw); go_simp⟩) (by assumption) ?_
  try simp only [List.getElem_toArray, List.getElem_cons_zero, List.getElem_cons_succ, Act.put, List.setIfInBounds_toArray, List.set_cons_zero, List.set_cons_succ]
  refine wpAnyH_ready (rs := [5]) (by kernel_rfl) (by simp) ?_
  refine AllReadyH.cons (i := 5) rfl (fun K hK => ?_) AllReadyH.nil
  go_simp
  refine (HB.out _).mono ?_
  rintro e w6 ⟨rfl, h6⟩
  have HK6 := hid (kept_trans HK5.out (kept_below h6))
  obtain ⟨hS, hf, hS1, hf1, hS2, hA2, hB2, hK2⟩ := HSt.out w6 HK6.out
  have HS1 := hid hS1
  have Hf1 := hid hf1
  have HS2 := hid hS2
  have HA2 := hid hA2
  have HB2 := hid hB2
  have HK2 := hid hK2
  clear h6 hS1 hf1 hS2 hA2 hB2 hK2
  clear hHeld
  show K _ _
  refine hK.out _ _ (hS) (fun hHeld => ?_)
  clear hK K
  try simp only [List.getElem_toArray, List.getElem_cons_zero, List.getElem_cons_succ, Act.put, List.setIfInBounds_toArray, List.set_cons_zero, List.set_cons_succ]
  refine wpAnyH_ready (rs := [7]) (by kernel_rfl) (by simp) ?_
  refine AllReadyH.cons (i := 7) rfl (fun K hK => ?_) AllReadyH.nil
  go_simp
  have hS := HS1.out
  have hf1 := Hf1.out
  clear hHeld
  show K _ _
  refine hK.out _ _ (hS) (fun hHeld => ?_)
  clear hK K
  try simp only [List.getElem_toArray, List.getElem_cons_zero, List.getElem_cons_succ, Act.put, List.setIfInBounds_toArray, List.set_cons_zero, List.set_cons_succ]
  refine wpAnyH_take (i := 8) (v := .pointer (some ⟨N, 7, none⟩)) rfl (by kernel_rfl) (by kernel_rfl) (by kernel_rfl) (fun _ _ _ h => h) (Or.inl ⟨by rfl, fun w hSw => by (try dsimp only at hSw); go_simp⟩) (by assumption) ?_
  try simp only [List.getElem_toArray, List.getElem_cons_zero, List.getElem_cons_succ, Act.put, List.setIfInBounds_toArray, List.set_cons_zero, List.set_cons_succ]
  refine wpAnyH_ready (rs := [9]) (by kernel_rfl) (by simp) ?_
  refine AllReadyH.cons (i := 9) rfl (fun K hK => ?_) AllReadyH.nil
  go_simp
  have hS := HS2.out
  clear hHeld
  show K _ _
  refine hK.out _ _ (hS) (fun hHeld => ?_)
  clear hK K
  try simp only [List.getElem_toArray, List.getElem_cons_zero, List.getElem_cons_succ, Act.put, List.setIfInBounds_toArray, List.set_cons_zero, List.set_cons_succ]
  refine wpAnyH_done (by kernel_rfl) ?_ _
  refine NoPanic.normal ?_
  clear hHeld hS
  obtain ⟨w2, hw2⟩ : ∃ w2, (w6.setCell ⟨N, 0, none⟩ (.string r.key)).setCell ⟨N, 7, none⟩ (.string r.body) = w2 := ⟨_, rfl⟩
  rw [hw2] at HA2 HB2 HK2
  simp only [hw2]
  obtain ⟨a0, a1, a2, a3, a4, a5, a6, a7⟩ := at_cells8' HA2.out
  obtain ⟨d0, d1, d2, d3, d4, d5, d6, d7, df⟩ := at_cells8 HB2.out
  have E3 := hid (at_set8 HB2.out (.string r.key) (.int .u64 r.s.p) (.int .u32 r.s.l) (.int .u8 r.s.n) (.int .u8 r.kind) (.int .u32 r.flags) (.int .u64 r.exp) (.string r.body))
  have E4 := hid (kept_set8 HK2.out (G := Y) HYN.out (.string r.key) (.int .u64 r.s.p) (.int .u32 r.s.l) (.int .u8 r.s.n) (.int .u8 r.kind) (.int .u32 r.flags) (.int .u64 r.exp) (.string r.body))
  clear hw2 HS1 HS2 Hf1 hf hf1
  go_wp2_with fail
  exact bodyPost_ret (res1 Try.results17 _ rfl E3.out) rfl ⟨rfl, E4.out⟩
end Go.Proofs.YtjmldnbepajnoaaR
