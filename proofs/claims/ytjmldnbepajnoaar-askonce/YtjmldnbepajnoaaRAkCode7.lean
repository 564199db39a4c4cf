/- The contracts of the landed live and Best. At most 100 nodes; the answers have one key. -/
import Derived.Test.YtjmldnbepajnoaaRAkCode6
import Derived.Deep.CutBlock
import Derived.Deep.DeepCutAuto
namespace Go.Proofs.YtjmldnbepajnoaaR
open Go.ChangeShapes Go.WideShapes Go.ChangeAt Go.RowKit
set_option linter.unusedVariables false
set_option linter.unusedSimpArgs false
set_option maxRecDepth 100000

theorem livei_is (X : Nat) (a : Aq) (F : Nat → Prop) (r : R) (w : World) (h : AO w X a F) (hl : a.l.length ≤ 100) : Calls Try.prog 19 #[.pointer (some ⟨X, 0, none⟩), .agg #[.string r.key, .int .u64 r.s.p, .int .u32 r.s.l, .int .u8 r.s.n, .int .u8 r.kind, .int .u32 r.flags, .int .u64 r.exp, .string r.body]] w fun e w' => e = .returned (.bool (decide (r.kind = 3) && (memL a).any (liveP r))) ∧ Kept w w' := by
  obtain ⟨v, hX, hO, -⟩ := h
  have k1 := kept_alloc (kept_refl w) (.cells #[.string r.key, .int .u64 r.s.p, .int .u32 r.s.l, .int .u8 r.s.n, .int .u8 r.kind, .int .u32 r.flags, .int .u64 r.exp, .string r.body] 32)
  have a1 := at_new w #[.string r.key, .int .u64 r.s.p, .int .u32 r.s.l, .int .u8 r.s.n, .int .u8 r.kind, .int .u32 r.flags, .int .u64 r.exp, .string r.body] 32
  have hX1 := at_kept hX k1
  have hO1 := og_stays hO k1
  obtain ⟨w1, hw1⟩ : ∃ u, w.alloc (.cells #[.string r.key, .int .u64 r.s.p, .int .u32 r.s.l, .int .u8 r.s.n, .int .u8 r.kind, .int .u32 r.flags, .int .u64 r.exp, .string r.body] 32) = u := ⟨_, rfl⟩
  obtain ⟨Z, hZ⟩ : ∃ u, w.heap.size = u := ⟨_, rfl⟩
  rw [hw1] at k1 a1 hX1 hO1
  rw [hZ] at a1
  have hC := cont1 (c := .pointer (some ⟨Z, 0, none⟩)) (p := liveP r) (l := memL a) enters_live (by rw [mem_len]; omega) v w1 (rg_own encA_ok hO1) (fun u q _ ku => livep_any r Z 32 q u (at_kept a1 ku))
  obtain ⟨va, vc, rfl, -, -⟩ := og_is encA_ok hO
  obtain ⟨c0, c1, -⟩ := at_cells2 hX1
  obtain ⟨z0, z1, z2, z3, z4, z5, z6, z7⟩ := at_cells8' a1
  have HK := hid k1
  clear hX hO k1 a1 hX1 hO1
  generalize (memL a).any (liveP r) = out at *
  by_cases hk : r.kind = 3
  · have hd : (r.kind == 3) = true := by simpa using hk
    have HE : Hid (out = (decide (r.kind = 3) && out)) := hid (by rw [decide_eq_true hk]; rfl)
    clear hk
    go_enter Try.func19, Try.ntmps19
    go_wp2_with fail
    refine hC.mono ?_
    rintro e w2 ⟨rfl, k2⟩
    have HK2 := hid (kept_trans HK.out k2)
    clear hC k2 c0 c1 z0 z1 z2 z3 z4 z5 z6 z7
    go_wp2_with fail
    go_ret
    exact ⟨ret_bool HE.out, HK2.out⟩
  · have hd : (r.kind == 3) = false := by simpa using hk
    have HE : Hid (false = (decide (r.kind = 3) && out)) := hid (by rw [decide_eq_false hk]; rfl)
    clear hk hC
    go_enter Try.func19, Try.ntmps19
    go_wp2_with fail
    go_ret
    exact ⟨ret_bool HE.out, HK.out⟩
theorem resB3 {fn : Func} {p q s : Tmp} (h : fn.results = #[.cell p 32, .tmp q, .tmp s]) (tmps : Array Value) {w : World} {X T : Nat} {v0 v1 v2 v3 v4 v5 v6 v7 : Value} (hp : tmps.getD p undef = .pointer (some ⟨X, 0, none⟩)) (hA : At w X #[v0, v1, v2, v3, v4, v5, v6, v7] T) :
    (results fn tmps).run Try.prog w = .ok (.tuple #[.agg #[v0, v1, v2, v3, v4, v5, v6, v7], tmps.getD q undef, tmps.getD s undef]) w := by
  obtain ⟨c0, c1, c2, c3, c4, c5, c6, c7, -⟩ := at_cells8 hA
  have hp' : tmps[p]?.getD undef = .pointer (some ⟨X, 0, none⟩) := by simpa using hp
  simp [results, h, go_sem, hp', c0, c1, c2, c3, c4, c5, c6, c7]
theorem best_none (w : World) : Calls Try.prog 10 #[.pointer none] w fun e w' => ∃ (r : R) (b : Bool), e = .returned (.tuple #[.agg #[.string r.key, .int .u64 r.s.p, .int .u32 r.s.l, .int .u8 r.s.n, .int .u8 r.kind, .int .u32 r.flags, .int .u64 r.exp, .string r.body], .bool b, .bool false]) ∧ Kept w w' := by
  have hz := zeroRv
  have a1 := at_new w #[.string ⟨#[]⟩, .int .u64 0, .int .u32 0, .int .u8 0, .int .u8 0, .int .u32 0, .int .u64 0, .string ⟨#[]⟩] 32
  have k1 := kept_alloc (kept_refl w) (.cells #[.string ⟨#[]⟩, .int .u64 0, .int .u32 0, .int .u8 0, .int .u8 0, .int .u32 0, .int .u64 0, .string ⟨#[]⟩] 32)
  obtain ⟨w1, hw1⟩ : ∃ u, w.alloc (.cells #[.string ⟨#[]⟩, .int .u64 0, .int .u32 0, .int .u8 0, .int .u8 0, .int .u32 0, .int .u64 0, .string ⟨#[]⟩] 32) = u := ⟨_, rfl⟩
  obtain ⟨Q, hQ⟩ : ∃ u, w.heap.size = u := ⟨_, rfl⟩
  rw [hw1] at a1 k1
  rw [hQ] at a1
  have hQw : w.heap.size ≤ Q := by omega
  obtain ⟨d0, d1, d2, d3, d4, d5, d6, d7, df⟩ := at_cells8 a1
  have HA := hid (at_set8 a1 (.string ⟨#[]⟩) (.int .u64 0) (.int .u32 0) (.int .u8 0) (.int .u8 0) (.int .u32 0) (.int .u64 0) (.string ⟨#[]⟩))
  have HK := hid (kept_set8 k1 hQw (.string ⟨#[]⟩) (.int .u64 0) (.int .u32 0) (.int .u8 0) (.int .u8 0) (.int .u32 0) (.int .u64 0) (.string ⟨#[]⟩))
  clear a1 k1
  go_enter Try.func10, Try.ntmps10
  go_wp2_with fail
  exact bodyPost_ret (resB3 Try.results10 _ rfl HA.out) rfl ⟨zeroR, false, rfl, HK.out⟩
set_option maxHeartbeats 6400000 in
theorem best_all (X : Nat) (a : Aq) (F : Nat → Prop) (w : World) (h : AO w X a F) (g : OneK a) : Calls Try.prog 10 #[.pointer (some ⟨X, 0, none⟩)] w fun e w' => e = .returned (.tuple #[.agg #[.string (bestQ a).key, .int .u64 (bestQ a).s.p, .int .u32 (bestQ a).s.l, .int .u8 (bestQ a).s.n, .int .u8 (bestQ a).kind, .int .u32 (bestQ a).flags, .int .u64 (bestQ a).exp, .string (bestQ a).body], .bool (liveQ a), .bool (someQ a)]) ∧ Kept w w' := by
  obtain ⟨K, g⟩ := g
  have hz := zeroRv
  have a1 := at_new w #[.string ⟨#[]⟩, .int .u64 0, .int .u32 0, .int .u8 0, .int .u8 0, .int .u32 0, .int .u64 0, .string ⟨#[]⟩] 32
  have k1 := kept_alloc (kept_refl w) (.cells #[.string ⟨#[]⟩, .int .u64 0, .int .u32 0, .int .u8 0, .int .u8 0, .int .u32 0, .int .u64 0, .string ⟨#[]⟩] 32)
  obtain ⟨w1, hw1⟩ : ∃ u, w.alloc (.cells #[.string ⟨#[]⟩, .int .u64 0, .int .u32 0, .int .u8 0, .int .u8 0, .int .u32 0, .int .u64 0, .string ⟨#[]⟩] 32) = u := ⟨_, rfl⟩
  obtain ⟨Q, hQ⟩ : ∃ u, w.heap.size = u := ⟨_, rfl⟩
  rw [hw1] at a1 k1
  rw [hQ] at a1
  have HQw : Hid (w.heap.size ≤ Q) := hid (by omega)
  have HO1 := ao_kept h k1
  have hB := besti_is X a F w1 HO1 g.len
  have HAO := hid HO1
  have HG := hid g
  have HL : Hid ((decide ((bestQ a).kind = 3) && (memL a).any (liveP (bestQ a))) = liveQ a) := hid (live_is g)
  have HN : Hid (someQ a = false → bestQ a = zeroR ∧ liveQ a = false) := hid (fun e => by
    have e2 : hasL a = [] := by
      unfold someQ at e
      cases q : hasL a with
      | nil => rfl
      | cons x l => rw [q] at e; cases e
    unfold liveQ bestQ
    rw [e2]
    exact ⟨rfl, rfl⟩)
  have hbk := best_ok (has_ok g)
  have hbk2 : (bestQ a).key.size ≤ 3000 ∧ (bestQ a).body.size ≤ 3000 := ⟨Nat.le_trans hbk.2.1 (by omega), hbk.2.2⟩
  have HFr := hid (fun u => fresh_any (bestQ a) hbk2.1 hbk2.2 u)
  have HLv0 := hid (fun (u : World) (ku : Kept w1 u) => livei_is X a F (bestQ a) u (ao_kept HO1 ku) g.len)
  rw [HL.out] at HLv0
  have HA1 := hid a1
  have HK1 := hid k1
  generalize hb : bestQ a = b at *
  generalize hlv : liveQ a = lv at *
  generalize hsm : someQ a = sm at *
  clear h g a1 k1 hbk hbk2 HO1 hb hlv hsm
  go_enter Try.func10, Try.ntmps10
  go_wp2_with fail
  try simp only [hw1, hQ]
  refine hB.mono ?_
  rintro e w2 ⟨rfl, k2⟩
  clear hB
  have HQ2 := hid (at_kept HA1.out k2)
  have HK2 := hid (kept_trans HK1.out k2)
  have HK12 := hid k2
  clear k2 hw1 hQ
  have k3 := kept_alloc (kept_refl w2) (.cells #[.string b.key, .int .u64 b.s.p, .int .u32 b.s.l, .int .u8 b.s.n, .int .u8 b.kind, .int .u32 b.flags, .int .u64 b.exp, .string b.body] 32)
  have a3 := at_new w2 #[.string b.key, .int .u64 b.s.p, .int .u32 b.s.l, .int .u8 b.s.n, .int .u8 b.kind, .int .u32 b.flags, .int .u64 b.exp, .string b.body] 32
  cases sm with
  | false =>
    obtain ⟨e1, e2⟩ := HN.out rfl
    have HE : Hid (b = zeroR ∧ lv = false) := hid ⟨e1, e2⟩
    have hQ3 := at_kept HQ2.out k3
    obtain ⟨d0, d1, d2, d3, d4, d5, d6, d7, df⟩ := at_cells8 hQ3
    have HA3 := hid (at_set8 hQ3 (.string ⟨#[]⟩) (.int .u64 0) (.int .u32 0) (.int .u8 0) (.int .u8 0) (.int .u32 0) (.int .u64 0) (.string ⟨#[]⟩))
    have HK3 := hid (kept_set8 (kept_trans HK2.out k3) HQw.out (.string ⟨#[]⟩) (.int .u64 0) (.int .u32 0) (.int .u8 0) (.int .u8 0) (.int .u32 0) (.int .u64 0) (.string ⟨#[]⟩))
    clear e1 e2 hQ3 k3 a3
    go_wp2_with fail
    refine bodyPost_ret (resB3 Try.results10 _ rfl HA3.out) rfl ⟨?_, HK3.out⟩
    rw [HE.out.1, HE.out.2]
    rfl
  | true =>
    have hQ3 := at_kept HQ2.out k3
    have HK3 := hid (kept_trans HK2.out k3)
    have HK13 := hid (kept_trans HK12.out k3)
    have hPQ : w2.heap.size ≠ Q := by have := at_lt HQ2.out; omega
    go_upto_region 6 with fail
    obtain ⟨w3, hw3⟩ : ∃ u, w2.alloc (.cells #[.string b.key, .int .u64 b.s.p, .int .u32 b.s.l, .int .u8 b.s.n, .int .u8 b.kind, .int .u32 b.flags, .int .u64 b.exp, .string b.body] 32) = u := ⟨_, rfl⟩
    obtain ⟨P, hP⟩ : ∃ u, w2.heap.size = u := ⟨_, rfl⟩
    rw [hw3] at a3 hQ3 HK3 HK13
    rw [hP] at a3 hPQ
    try simp only [hw3, hP]
    have HPQ := hid hPQ
    have HA3 := hid a3
    have HQ3 := hid hQ3
    have HSt : Hid (∀ u, Kept w3 u → (u.cell? ⟨P, 0, none⟩ = some (.string b.key) ∧ u.cell? ⟨P, 1, none⟩ = some (.int .u64 b.s.p) ∧ u.cell? ⟨P, 2, none⟩ = some (.int .u32 b.s.l) ∧ u.cell? ⟨P, 3, none⟩ = some (.int .u8 b.s.n) ∧ u.cell? ⟨P, 4, none⟩ = some (.int .u8 b.kind) ∧ u.cell? ⟨P, 5, none⟩ = some (.int .u32 b.flags) ∧ u.cell? ⟨P, 6, none⟩ = some (.int .u64 b.exp) ∧ u.cell? ⟨P, 7, none⟩ = some (.string b.body)) ∧
        (u.cell? ⟨Q, 0, none⟩ = some (.string ⟨#[]⟩) ∧ u.cell? ⟨Q, 1, none⟩ = some (.int .u64 0) ∧ u.cell? ⟨Q, 2, none⟩ = some (.int .u32 0) ∧ u.cell? ⟨Q, 3, none⟩ = some (.int .u8 0) ∧ u.cell? ⟨Q, 4, none⟩ = some (.int .u8 0) ∧ u.cell? ⟨Q, 5, none⟩ = some (.int .u32 0) ∧ u.cell? ⟨Q, 6, none⟩ = some (.int .u64 0) ∧ u.cell? ⟨Q, 7, none⟩ = some (.string ⟨#[]⟩)) ∧ (∀ j, u.frozen? ⟨Q, j, none⟩ = false) ∧
        ((set8 u Q (.string b.key) (.int .u64 b.s.p) (.int .u32 b.s.l) (.int .u8 b.s.n) (.int .u8 b.kind) (.int .u32 b.flags) (.int .u64 b.exp) (.string b.body)).cell? ⟨P, 0, none⟩ = some (.string b.key) ∧ (set8 u Q (.string b.key) (.int .u64 b.s.p) (.int .u32 b.s.l) (.int .u8 b.s.n) (.int .u8 b.kind) (.int .u32 b.flags) (.int .u64 b.exp) (.string b.body)).cell? ⟨P, 1, none⟩ = some (.int .u64 b.s.p) ∧ (set8 u Q (.string b.key) (.int .u64 b.s.p) (.int .u32 b.s.l) (.int .u8 b.s.n) (.int .u8 b.kind) (.int .u32 b.flags) (.int .u64 b.exp) (.string b.body)).cell? ⟨P, 2, none⟩ = some (.int .u32 b.s.l) ∧ (set8 u Q (.string b.key) (.int .u64 b.s.p) (.int .u32 b.s.l) (.int .u8 b.s.n) (.int .u8 b.kind) (.int .u32 b.flags) (.int .u64 b.exp) (.string b.body)).cell? ⟨P, 3, none⟩ = some (.int .u8 b.s.n) ∧ (set8 u Q (.string b.key) (.int .u64 b.s.p) (.int .u32 b.s.l) (.int .u8 b.s.n) (.int .u8 b.kind) (.int .u32 b.flags) (.int .u64 b.exp) (.string b.body)).cell? ⟨P, 4, none⟩ = some (.int .u8 b.kind) ∧ (set8 u Q (.string b.key) (.int .u64 b.s.p) (.int .u32 b.s.l) (.int .u8 b.s.n) (.int .u8 b.kind) (.int .u32 b.flags) (.int .u64 b.exp) (.string b.body)).cell? ⟨P, 5, none⟩ = some (.int .u32 b.flags) ∧ (set8 u Q (.string b.key) (.int .u64 b.s.p) (.int .u32 b.s.l) (.int .u8 b.s.n) (.int .u8 b.kind) (.int .u32 b.flags) (.int .u64 b.exp) (.string b.body)).cell? ⟨P, 6, none⟩ = some (.int .u64 b.exp) ∧ (set8 u Q (.string b.key) (.int .u64 b.s.p) (.int .u32 b.s.l) (.int .u8 b.s.n) (.int .u8 b.kind) (.int .u32 b.flags) (.int .u64 b.exp) (.string b.body)).cell? ⟨P, 7, none⟩ = some (.string b.body)) ∧
        At (set8 u Q (.string b.key) (.int .u64 b.s.p) (.int .u32 b.s.l) (.int .u8 b.s.n) (.int .u8 b.kind) (.int .u32 b.flags) (.int .u64 b.exp) (.string b.body)) Q #[.string b.key, .int .u64 b.s.p, .int .u32 b.s.l, .int .u8 b.s.n, .int .u8 b.kind, .int .u32 b.flags, .int .u64 b.exp, .string b.body] 32 ∧ Kept w (set8 u Q (.string b.key) (.int .u64 b.s.p) (.int .u32 b.s.l) (.int .u8 b.s.n) (.int .u8 b.kind) (.int .u32 b.flags) (.int .u64 b.exp) (.string b.body))) := hid (fun u ku => by
      have p := at_kept HA3.out ku
      have q := at_kept HQ3.out ku
      have p2 := at_out8 p HPQ.out (.string b.key) (.int .u64 b.s.p) (.int .u32 b.s.l) (.int .u8 b.s.n) (.int .u8 b.kind) (.int .u32 b.flags) (.int .u64 b.exp) (.string b.body)
      exact ⟨at_cells8' p, at_cells8' q, at_frozen q, at_cells8' p2, at_set8 q _ _ _ _ _ _ _ _, kept_set8 (kept_trans HK3.out ku) HQw.out _ _ _ _ _ _ _ _⟩)
    have HKd : Hid (Kept w3 w3.drew) := hid (kept_drew (kept_refl w3))
    have HLv : Hid (∀ u, Kept w3 u → Calls Try.prog 19 #[.pointer (some ⟨X, 0, none⟩), .agg #[.string b.key, .int .u64 b.s.p, .int .u32 b.s.l, .int .u8 b.s.n, .int .u8 b.kind, .int .u32 b.flags, .int .u64 b.exp, .string b.body]] u fun e w' => e = .returned (.bool lv) ∧ Kept u w') := hid (fun u ku => HLv0.out u (kept_trans HK13.out ku))
    have hS := (HSt.out w3.drew HKd.out).1
    clear a3 hQ3 hPQ k3 hw3 hP
    refine wp_region_noPanic ?_
    refine wp_region_held_drew (S := (fun w' => (w'.cell? ⟨P, 0, none⟩ = some (.string b.key)) ∧ (w'.cell? ⟨P, 1, none⟩ = some (.int .u64 b.s.p)) ∧ (w'.cell? ⟨P, 2, none⟩ = some (.int .u32 b.s.l)) ∧ (w'.cell? ⟨P, 3, none⟩ = some (.int .u8 b.s.n)) ∧ (w'.cell? ⟨P, 4, none⟩ = some (.int .u8 b.kind)) ∧ (w'.cell? ⟨P, 5, none⟩ = some (.int .u32 b.flags)) ∧ (w'.cell? ⟨P, 6, none⟩ = some (.int .u64 b.exp)) ∧ (w'.cell? ⟨P, 7, none⟩ = some (.string b.body)))) (by kernel_rfl) (hS) (fun hHeld => ?_)
    refine wpAnyH_take (i := 0) (v := .agg #[.string b.key, .int .u64 b.s.p, .int .u32 b.s.l, .int .u8 b.s.n, .int .u8 b.kind, .int .u32 b.flags, .int .u64 b.exp, .string b.body]) rfl (by kernel_rfl) (by kernel_rfl) (by kernel_rfl) (fun _ _ _ h => h) (Or.inl ⟨by rfl, fun w hSw => by (try dsimp only at hSw); go_simp⟩) (by assumption) ?_
    try simp only [List.getElem_toArray, List.getElem_cons_zero, List.getElem_cons_succ, Act.put, List.setIfInBounds_toArray, List.set_cons_zero, List.set_cons_succ]
    refine wpAnyH_take (i := 2) (v := .pointer (some ⟨X, 0, none⟩)) rfl (by kernel_rfl) (by kernel_rfl) (by kernel_rfl) (fun _ _ _ h => h) (Or.inl ⟨by rfl, fun w hSw => by (try dsimp only at hSw); go_simp⟩) (by assumption) ?_
    try simp only [List.getElem_toArray, List.getElem_cons_zero, List.getElem_cons_succ, Act.put, List.setIfInBounds_toArray, List.set_cons_zero, List.set_cons_succ]
    refine wpAnyH_take (i := 3) (v := .agg #[.string b.key, .int .u64 b.s.p, .int .u32 b.s.l, .int .u8 b.s.n, .int .u8 b.kind, .int .u32 b.flags, .int .u64 b.exp, .string b.body]) rfl (by kernel_rfl) (by kernel_rfl) (by kernel_rfl) (fun _ _ _ h => h) (Or.inl ⟨by rfl, fun w hSw => by (try dsimp only at hSw); go_simp⟩) (by assumption) ?_
    try simp only [List.getElem_toArray, List.getElem_cons_zero, List.getElem_cons_succ, Act.put, List.setIfInBounds_toArray, List.set_cons_zero, List.set_cons_succ]
    refine wpAnyH_ready (rs := [1]) (by kernel_rfl) (by simp) ?_
    refine AllReadyH.cons (i := 1) rfl (fun K hK => ?_) AllReadyH.nil
    go_simp
    refine (HFr.out _).mono ?_
    rintro e w5 ⟨rfl, k5⟩
    have HK5 := hid (kept_trans HKd.out k5)
    have hS := (HSt.out w5 HK5.out).1
    clear k5
    clear hHeld
    show K _ _
    refine hK.out _ _ (hS) (fun hHeld => ?_)
    clear hK K
    try simp only [List.getElem_toArray, List.getElem_cons_zero, List.getElem_cons_succ, Act.put, List.setIfInBounds_toArray, List.set_cons_zero, List.set_cons_succ]
    refine wpAnyH_ready (rs := [4]) (by kernel_rfl) (by simp) ?_
    refine AllReadyH.cons (i := 4) rfl (fun K hK => ?_) AllReadyH.nil
    go_simp
    refine (HLv.out w5 HK5.out).mono ?_
    rintro e w6 ⟨rfl, k6⟩
    have HK6 := hid (kept_trans HK5.out k6)
    obtain ⟨hS, hq, hf, hS1, hA1, hK1⟩ := HSt.out w6 HK6.out
    have HS1 := hid hS1
    have HA1 := hid hA1
    have HK1 := hid hK1
    clear k6 hS1 hA1 hK1
    clear hHeld
    show K _ _
    refine hK.out _ _ (hS) (fun hHeld => ?_)
    clear hK K
    try simp only [List.getElem_toArray, List.getElem_cons_zero, List.getElem_cons_succ, Act.put, List.setIfInBounds_toArray, List.set_cons_zero, List.set_cons_succ]
    refine wpAnyH_ready (rs := [5]) (by kernel_rfl) (by simp) ?_
    refine AllReadyH.cons (i := 5) rfl (fun K hK => ?_) AllReadyH.nil
    obtain ⟨y0, y1, y2, y3, y4, y5, y6, y7⟩ := hq
    go_simp
    have hS := HS1.out
    clear hHeld
    show K _ _
    refine hK.out _ _ (hS) (fun hHeld => ?_)
    clear hK K
    try simp only [List.getElem_toArray, List.getElem_cons_zero, List.getElem_cons_succ, Act.put, List.setIfInBounds_toArray, List.set_cons_zero, List.set_cons_succ]
    refine wpAnyH_take (i := 6) (v := .bool lv) rfl (by kernel_rfl) (by kernel_rfl) (by kernel_rfl) (fun _ _ _ h => h) (Or.inl ⟨by rfl, fun w hSw => by (try dsimp only at hSw); go_simp⟩) (by assumption) ?_
    try simp only [List.getElem_toArray, List.getElem_cons_zero, List.getElem_cons_succ, Act.put, List.setIfInBounds_toArray, List.set_cons_zero, List.set_cons_succ]
    refine wpAnyH_take (i := 7) (v := .bool true) rfl (by kernel_rfl) (by kernel_rfl) (by kernel_rfl) (fun _ _ _ h => h) (Or.inl ⟨by rfl, fun w hSw => by (try dsimp only at hSw); go_simp⟩) (by assumption) ?_
    try simp only [List.getElem_toArray, List.getElem_cons_zero, List.getElem_cons_succ, Act.put, List.setIfInBounds_toArray, List.set_cons_zero, List.set_cons_succ]
    refine wpAnyH_done (by kernel_rfl) ?_ _
    refine NoPanic.normal ?_
    clear hHeld hS hf
    go_wp2_with fail
    exact bodyPost_ret (resB3 Try.results10 _ rfl HA1.out) rfl ⟨rfl, HK1.out⟩
end Go.Proofs.YtjmldnbepajnoaaR
