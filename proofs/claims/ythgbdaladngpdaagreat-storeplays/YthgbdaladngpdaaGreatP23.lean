/- The reference's Put, where it keeps what it has. A store and the reference's store side by side: what stands, and what keeps it so. -/
import Derived.Test.YthgbdaladngpdaaGreatP22
/- The reference's Put, where it keeps what it has. -/
namespace Go.Proofs.YthgbdaladngpdaaGreat
open Go.ChangeShapes Go.WideShapes Go.ChangeAt Go.RowKit
open Go.Proofs.YthgbdaladngpdaaGreat.Whl (Tn tn_kept tn_refl tn_trans tn_set tn_alloc at_tn kept_tn It)
set_option linter.unusedVariables false
set_option linter.unusedSimpArgs false
set_option maxRecDepth 100000

set_option maxHeartbeats 12800000 in
theorem refput_keep {cs : Array Value} {c : Cf} {s : MS} (hc : c.may) (hfit : Fit c s) (hl : s.L.length ≤ 1000) (hev : s.ev ≤ 900000000) (r : R) (hks : r.key.size ≤ 1000) (hbs : r.body.size ≤ 3000) (hok : r.ok) (now : Int) (w : World) (h : RS w cs c s) (hK : putK c s r now ≠ 100) :
    Calls Tryz.prog 15 #[.agg cs, .agg #[.string r.key, .int .u64 r.s.p, .int .u32 r.s.l, .int .u8 r.s.n, .int .u8 r.kind, .int .u32 r.flags, .int .u64 r.exp, .string r.body], .int .u64 now] w (PutR c s cs r now w) := by
  have HR := hid h
  have hz := zero36
  have hsz := svn_size 0 0 0
  generalize svn 0 0 0 = zs at hz hsz
  obtain ⟨w0, hw0⟩ : ∃ w0, w.alloc (.cells cs 36) = w0 := ⟨_, rfl⟩
  obtain ⟨Z, hZ⟩ : ∃ Z, w.heap.size = Z := ⟨_, rfl⟩
  have Ka := kept_alloc (kept_refl w) (.cells cs 36)
  have Aa := at_new w cs 36
  rw [hw0] at Ka Aa
  rw [hZ] at Aa
  obtain ⟨wb, hwb⟩ : ∃ wb, w0.alloc (.cells #[.string r.key, .int .u64 r.s.p, .int .u32 r.s.l, .int .u8 r.s.n, .int .u8 r.kind, .int .u32 r.flags, .int .u64 r.exp, .string r.body] 42) = wb := ⟨_, rfl⟩
  obtain ⟨Y, hY⟩ : ∃ Y, w0.heap.size = Y := ⟨_, rfl⟩
  have Kb := kept_alloc (kept_refl w0) (.cells #[.string r.key, .int .u64 r.s.p, .int .u32 r.s.l, .int .u8 r.s.n, .int .u8 r.kind, .int .u32 r.flags, .int .u64 r.exp, .string r.body] 42)
  have Ab := at_new w0 #[.string r.key, .int .u64 r.s.p, .int .u32 r.s.l, .int .u8 r.s.n, .int .u8 r.kind, .int .u32 r.flags, .int .u64 r.exp, .string r.body] 42
  rw [hwb] at Kb Ab
  rw [hY] at Ab
  obtain ⟨w1, hw1⟩ : ∃ w1, wb.alloc (.cells zs 36) = w1 := ⟨_, rfl⟩
  obtain ⟨Zr, hZr⟩ : ∃ Zr, wb.heap.size = Zr := ⟨_, rfl⟩
  have Kc := kept_alloc (kept_refl wb) (.cells zs 36)
  have Ac := at_new wb zs 36
  rw [hw1] at Kc Ac
  rw [hZr] at Ac
  have hY6 : Y = Z + 1 := by rw [← hY, ← hw0, ← hZ]; simp
  have hZr6 : Zr = Z + 2 := by rw [← hZr, ← hwb, ← hw0, ← hZ]; simp
  have hW6 : w1.heap.size = Z + 3 := by rw [← hw1, ← hwb, ← hw0, ← hZ]; simp
  have HK := hid (kept_trans (kept_trans Ka Kb) Kc)
  have HA0 := hid (at_kept (at_kept Aa Kb) Kc)
  have HA1 := hid (at_kept Ab Kc)
  have HA2 := hid Ac
  have HG := hid (And.intro hZ (And.intro hY6 (And.intro hZr6 hW6)))
  have HRs := hid (rs_kept h HK.out)
  have HZs := hid hsz
  obtain ⟨v, hs, hr, a, cap, rfl, hc1, hc2⟩ := h
  have HS := hid hs
  have HL : Hid (RdL w (.slice a s.L.length cap) s.L) := hid ⟨hr, a, cap, rfl, hc1, hc2⟩
  have HKs := hid hfit.keys
  have HFit := hid hfit
  have Hc := hid hc
  have HPK := hid hK
  have Hks : Hid (r.key.size ≤ maxLen) := hid (by unfold maxLen; omega)
  have Hbs : Hid (r.body.size ≤ maxLen) := hid (by unfold maxLen; omega)
  have hN4 : c.n ≤ 1024 := hc.2.1
  have hB4 : c.B ≤ 1048576 := hc.2.2.2.1
  have hK4 : c.K ≤ 1000 := hc.2.2.2.2.2
  have HLd1 := hid (load42 HA1.out rfl)
  have hp0 := hok.2.1.1
  clear Ka Aa Kb Ab Kc Ac hY6 hZr6 hW6 hs hr hc1 hc2 hsz hfit hc hK
  go_enter Tryz.func15, Tryz.ntmps15
  go_wp2_with (refine wpList_load42 rfl _ rfl Y rfl #[.string r.key, .int .u64 r.s.p, .int .u32 r.s.l, .int .u8 r.s.n, .int .u8 r.kind, .int .u32 r.flags, .int .u64 r.exp, .string r.body] HLd1.out ?_)
  clear hw0 hwb hw1 hZ hY hZr hz HLd1
  refine (refMay_any r hok w1).mono ?_
  rintro e w2 ⟨rfl, k2⟩
  have HK2 := hid k2
  have HA02 := hid (at_kept HA0.out k2)
  have HA12 := hid (at_kept HA1.out k2)
  clear k2
  cases hm : mayR r with
  | false =>
    have HF := hid (ret_facts (wz := w2) (kept_trans HK.out HK2.out) (at_kept HA0.out HK2.out) (at_kept HA2.out HK2.out) HZs.out HS.out (by have := HG.out; omega) (by have := HG.out; omega))
    have HEnd : Hid (∀ u, Kept w u → PutR c s cs r now w (.returned (.tuple #[.bool false, .int .i64 1, .agg cs])) u) := hid (fun u ku => putr_keep (pk_may hm) (by decide) HR.out ku)
    go_wp2_with fail
    refine wp_region_noPanic ?_
    refine wp_region_held_drew (S := (fun w' => At w' Z cs 36)) (by kernel_rfl) (HF.out.2.2.2.2) (fun hHeld => ?_)
    generalize w2.drew = wq at *
    refine wpAnyH_take (i := 0) (v := .agg cs) rfl (by kernel_rfl) (by kernel_rfl) (by kernel_rfl) (fun _ _ _ h => h) (Or.inl ⟨by rfl, fun w hSw => exec_load36 _ rfl rfl (load36 hSw HS.out)⟩) (by assumption) ?_
    refine wpAnyH_take (i := 1) (v := .bool false) rfl (by kernel_rfl) (by kernel_rfl) (by kernel_rfl) (fun _ _ _ h => h) (Or.inl ⟨by rfl, fun w hSw => by (try dsimp only at hSw); go_simp⟩) (by assumption) ?_
    refine wpAnyH_take (i := 2) (v := .int .i64 1) rfl (by kernel_rfl) (by kernel_rfl) (by kernel_rfl) (fun _ _ _ h => h) (Or.inl ⟨by rfl, fun w hSw => by (try dsimp only at hSw); go_simp⟩) (by assumption) ?_
    try simp only [List.getElem_toArray, List.getElem_cons_zero, List.getElem_cons_succ, Act.put, List.setIfInBounds_toArray, List.set_cons_zero, List.set_cons_succ]
    refine wpAnyH_ready (rs := [3]) (by kernel_rfl) (by simp) ?_
    refine AllReadyH.cons (i := 3) rfl (fun K hK => ?_) AllReadyH.nil
    rw [if_pos (by rfl)]
    refine wp_store36 _ _ rfl Zr rfl cs rfl (wq.setRow Zr cs) HF.out.1 ?_
    clear hHeld
    refine hK.out _ _ (HF.out.2.2.1) (fun hHeld => ?_)
    clear hK K
    try simp only [List.getElem_toArray, List.getElem_cons_zero, List.getElem_cons_succ, Act.put, List.setIfInBounds_toArray, List.set_cons_zero, List.set_cons_succ]
    refine wpAnyH_done (by kernel_rfl) ?_ _
    refine NoPanic.normal ?_
    clear hHeld
    go_wp2_with fail
    exact bodyPost_ret (resP Tryz.results15 _ rfl rfl rfl HF.out.2.1) rfl (HEnd.out _ HF.out.2.2.2.1)
  | true =>
    have hp1 := may_p hm
    have Hm := hid hm
    have hwr : IntKind.u64.wrap (r.s.p + (c.K : Int)) = r.s.p + (c.K : Int) := by rw [IntKind.wrap_u64]; omega
    obtain ⟨y0, y1, y2, y3, y4, y5, y6, y7⟩ := at_cells8' HA12.out
    have cK := (at_cell HA02.out 195).trans HS.out.K
    by_cases ho : r.s.p + (c.K : Int) ≤ now
    · have hd : decide (r.s.p + (c.K : Int) ≤ now) = true := decide_eq_true ho
      have Ho := hid ho
      clear ho hp1
      have HF := hid (ret_facts (wz := w2) (kept_trans HK.out HK2.out) (at_kept HA0.out HK2.out) (at_kept HA2.out HK2.out) HZs.out HS.out (by have := HG.out; omega) (by have := HG.out; omega))
      have HEnd : Hid (∀ u, Kept w u → PutR c s cs r now w (.returned (.tuple #[.bool false, .int .i64 8, .agg cs])) u) := hid (fun u ku => putr_keep (pk_old Hm.out Ho.out) (by decide) HR.out ku)
      go_wp2_with fail
      refine wp_region_noPanic ?_
      refine wp_region_held_drew (S := (fun w' => At w' Z cs 36)) (by kernel_rfl) (HF.out.2.2.2.2) (fun hHeld => ?_)
      generalize w2.drew = wq at *
      refine wpAnyH_take (i := 0) (v := .agg cs) rfl (by kernel_rfl) (by kernel_rfl) (by kernel_rfl) (fun _ _ _ h => h) (Or.inl ⟨by rfl, fun w hSw => exec_load36 _ rfl rfl (load36 hSw HS.out)⟩) (by assumption) ?_
      refine wpAnyH_take (i := 1) (v := .bool false) rfl (by kernel_rfl) (by kernel_rfl) (by kernel_rfl) (fun _ _ _ h => h) (Or.inl ⟨by rfl, fun w hSw => by (try dsimp only at hSw); go_simp⟩) (by assumption) ?_
      refine wpAnyH_take (i := 2) (v := .int .i64 8) rfl (by kernel_rfl) (by kernel_rfl) (by kernel_rfl) (fun _ _ _ h => h) (Or.inl ⟨by rfl, fun w hSw => by (try dsimp only at hSw); go_simp⟩) (by assumption) ?_
      try simp only [List.getElem_toArray, List.getElem_cons_zero, List.getElem_cons_succ, Act.put, List.setIfInBounds_toArray, List.set_cons_zero, List.set_cons_succ]
      refine wpAnyH_ready (rs := [3]) (by kernel_rfl) (by simp) ?_
      refine AllReadyH.cons (i := 3) rfl (fun K hK => ?_) AllReadyH.nil
      rw [if_pos (by rfl)]
      refine wp_store36 _ _ rfl Zr rfl cs rfl (wq.setRow Zr cs) HF.out.1 ?_
      clear hHeld
      refine hK.out _ _ (HF.out.2.2.1) (fun hHeld => ?_)
      clear hK K
      try simp only [List.getElem_toArray, List.getElem_cons_zero, List.getElem_cons_succ, Act.put, List.setIfInBounds_toArray, List.set_cons_zero, List.set_cons_succ]
      refine wpAnyH_done (by kernel_rfl) ?_ _
      refine NoPanic.normal ?_
      clear hHeld
      go_wp2_with fail
      exact bodyPost_ret (resP Tryz.results15 _ rfl rfl rfl HF.out.2.1) rfl (HEnd.out _ HF.out.2.2.2.1)
    · have hd : decide (r.s.p + (c.K : Int) ≤ now) = false := decide_eq_false ho
      have Ho : Hid (now < r.s.p + (c.K : Int)) := hid (by omega)
      clear ho hp1
      have HLd2 := hid (load36 HA02.out HS.out)
      go_wp2_with (refine wpList_load36 rfl _ rfl Z rfl cs HLd2.out ?_)
      refine (refat_any (by omega) r.key w2 (rs_kept HRs.out HK2.out)).mono ?_
      rintro e w3 ⟨z, rfl, k3, hat⟩
      have HK3 := hid (kept_trans HK2.out k3)
      clear k3 HLd2 y0 y1 y2 y3 y4 y5 y6 y7 cK hwr hd hm HA02 HA12
      have HA03 := hid (at_kept HA0.out HK3.out)
      have HA13 := hid (at_kept HA1.out HK3.out)
      have hlen : (r.key.size : Int) + (r.body.size : Int) = (lenR r : Int) := by unfold lenR; omega
      have HLn : Hid (lenR r = lenR r) := hid rfl
      have hln4 : lenR r ≤ 4000 := by unfold lenR; omega
      generalize hb : lenR r = b at hlen hln4
      have Hb := hid hb
      clear hb HLn
      rcases hat with ⟨rfl, hf⟩ | ⟨j, rfl, hj, q, hr, hrk⟩
      · have Hf := hid hf
        clear hf
        obtain ⟨k, hk⟩ : ∃ k, rg r.key = k := ⟨_, rfl⟩
        have hk64 : k < 64 := by rw [← hk]; exact rg_lt _
        obtain ⟨fq, hfq⟩ : ∃ fq, s.fl k = fq := ⟨_, rfl⟩
        have HRg : Hid (rg r.key = k ∧ s.fl k = fq) := hid ⟨hk, hfq⟩
        have hRg := refrange_any r.key Hks.out
        rw [hk] at hRg
        have HS1 : Hid (∀ u, Kept w3 u → (u.cell? ⟨Z, 1 + k * 3, none⟩ = some (.int .u64 fq.p) ∧ u.cell? ⟨Z, 1 + k * 3 + 1, none⟩ = some (.int .u32 fq.l) ∧ u.cell? ⟨Z, 1 + k * 3 + 2, none⟩ = some (.int .u8 fq.n)) ∧ (u.cell? ⟨Y, 0, none⟩ = some (.string r.key) ∧ u.cell? ⟨Y, 1, none⟩ = some (.int .u64 r.s.p) ∧ u.cell? ⟨Y, 2, none⟩ = some (.int .u32 r.s.l) ∧ u.cell? ⟨Y, 3, none⟩ = some (.int .u8 r.s.n) ∧ u.cell? ⟨Y, 4, none⟩ = some (.int .u8 r.kind) ∧ u.cell? ⟨Y, 5, none⟩ = some (.int .u32 r.flags) ∧ u.cell? ⟨Y, 6, none⟩ = some (.int .u64 r.exp) ∧ u.cell? ⟨Y, 7, none⟩ = some (.string r.body))) := hid (fun u ku => ⟨by
          obtain ⟨g1, g2, g3⟩ := HS.out.floor k hk64
          rw [hfq] at g1 g2 g3
          exact ⟨(at_cell (at_kept HA03.out ku) _).trans g1, (at_cell (at_kept HA03.out ku) _).trans g2, (at_cell (at_kept HA03.out ku) _).trans g3⟩, at_cells8' (at_kept HA13.out ku)⟩)
        clear hk hfq
        have hidx := idxF Z k (by omega)
        clear hk64
        have k0 : Kept w3 w3.drew := kept_refl w3
        cases hlt : lt fq r.s with
        | false =>
          go_wp2_with fail
          refine wp_region_noPanic ?_
          refine wp_region_held_drew (S := (fun w' => (w'.cell? ⟨Z, 1 + k * 3, none⟩ = some (.int .u64 fq.p) ∧ w'.cell? ⟨Z, 1 + k * 3 + 1, none⟩ = some (.int .u32 fq.l) ∧ w'.cell? ⟨Z, 1 + k * 3 + 2, none⟩ = some (.int .u8 fq.n)) ∧ (w'.cell? ⟨Y, 0, none⟩ = some (.string r.key) ∧ w'.cell? ⟨Y, 1, none⟩ = some (.int .u64 r.s.p) ∧ w'.cell? ⟨Y, 2, none⟩ = some (.int .u32 r.s.l) ∧ w'.cell? ⟨Y, 3, none⟩ = some (.int .u8 r.s.n) ∧ w'.cell? ⟨Y, 4, none⟩ = some (.int .u8 r.kind) ∧ w'.cell? ⟨Y, 5, none⟩ = some (.int .u32 r.flags) ∧ w'.cell? ⟨Y, 6, none⟩ = some (.int .u64 r.exp) ∧ w'.cell? ⟨Y, 7, none⟩ = some (.string r.body)))) (by kernel_rfl) (HS1.out _ k0) (fun hHeld => ?_)
          generalize w3.drew = wq at *
          refine wpAnyH_take (i := 0) (v := .pointer (some ⟨Y, 0, none⟩)) rfl (by kernel_rfl) (by kernel_rfl) (by kernel_rfl) (fun _ _ _ h => h) (Or.inl ⟨by rfl, fun w hSw => by (try dsimp only at hSw); go_simp⟩) (by assumption) ?_
          refine wpAnyH_take (i := 1) (v := .string r.key) rfl (by kernel_rfl) (by kernel_rfl) (by kernel_rfl) (fun _ _ _ h => h) (Or.inl ⟨by rfl, fun w hSw => by (try dsimp only at hSw); go_simp⟩) (by assumption) ?_
          refine wpAnyH_take (i := 3) (v := .pointer (some ⟨Z, 1, none⟩)) rfl (by kernel_rfl) (by kernel_rfl) (by kernel_rfl) (fun _ _ _ h => h) (Or.inl ⟨by rfl, fun w hSw => by (try dsimp only at hSw); go_simp⟩) (by assumption) ?_
          refine wpAnyH_take (i := 6) (v := .pointer (some ⟨Y, 1, none⟩)) rfl (by kernel_rfl) (by kernel_rfl) (by kernel_rfl) (fun _ _ _ h => h) (Or.inl ⟨by rfl, fun w hSw => by (try dsimp only at hSw); go_simp⟩) (by assumption) ?_
          refine wpAnyH_take (i := 7) (v := .agg #[.int .u64 r.s.p, .int .u32 r.s.l, .int .u8 r.s.n]) rfl (by kernel_rfl) (by kernel_rfl) (by kernel_rfl) (fun _ _ _ h => h) (Or.inl ⟨by rfl, fun w hSw => by (try dsimp only at hSw); go_simp⟩) (by assumption) ?_
          try simp only [List.getElem_toArray, List.getElem_cons_zero, List.getElem_cons_succ, Act.put, List.setIfInBounds_toArray, List.set_cons_zero, List.set_cons_succ]
          refine wpAnyH_ready (rs := [2]) (by kernel_rfl) (by simp) ?_
          refine AllReadyH.cons (i := 2) rfl (fun K hK => ?_) AllReadyH.nil
          go_simp
          refine (hRg _).mono ?_
          rintro e w3 ⟨rfl, rfl⟩
          clear hHeld
          show K _ _
          refine hK.out _ _ (HS1.out _ k0) (fun hHeld => ?_)
          clear hK K
          refine wpAnyH_take (i := 4) (v := .pointer (some ⟨Z, 1 + k * 3, none⟩)) rfl (by kernel_rfl) (by kernel_rfl) (by kernel_rfl) (fun _ _ _ h => h) (Or.inl ⟨by rfl, fun w hSw => by (try dsimp only at hSw); go_simp⟩) (by assumption) ?_
          refine wpAnyH_take (i := 5) (v := .agg #[.int .u64 fq.p, .int .u32 fq.l, .int .u8 fq.n]) rfl (by kernel_rfl) (by kernel_rfl) (by kernel_rfl) (fun _ _ _ h => h) (Or.inl ⟨by rfl, fun w hSw => by (try dsimp only at hSw); go_simp⟩) (by assumption) ?_
          try simp only [List.getElem_toArray, List.getElem_cons_zero, List.getElem_cons_succ, Act.put, List.setIfInBounds_toArray, List.set_cons_zero, List.set_cons_succ]
          refine wpAnyH_ready (rs := [8]) (by kernel_rfl) (by simp) ?_
          refine AllReadyH.cons (i := 8) rfl (fun K hK => ?_) AllReadyH.nil
          go_simp
          refine (less_any fq r.s _).mono ?_
          rintro e w5 ⟨rfl, h3⟩
          replace k0 := kept_trans k0 h3
          clear h3
          clear hHeld
          show K _ _
          refine hK.out _ _ (HS1.out _ k0) (fun hHeld => ?_)
          clear hK K
          refine wpAnyH_take (i := 9) (v := .bool true) rfl (by kernel_rfl) (by kernel_rfl) (by kernel_rfl) (fun _ _ _ h => h) (Or.inl ⟨by rfl, fun w hSw => by (try dsimp only at hSw); go_simp⟩) (by assumption) ?_
          try simp only [List.getElem_toArray, List.getElem_cons_zero, List.getElem_cons_succ, Act.put, List.setIfInBounds_toArray, List.set_cons_zero, List.set_cons_succ]
          refine wpAnyH_done (by kernel_rfl) ?_ _
          refine NoPanic.normal ?_
          clear hHeld
          have HK5 := hid (kept_trans HK3.out k0)
          clear k0 HS1 hidx hRg
          have HF := hid (ret_facts (wz := w5) (kept_trans HK.out HK5.out) (at_kept HA0.out HK5.out) (at_kept HA2.out HK5.out) HZs.out HS.out (by have := HG.out; omega) (by have := HG.out; omega))
          have HEnd : Hid (∀ u, Kept w u → PutR c s cs r now w (.returned (.tuple #[.bool false, .int .i64 8, .agg cs])) u) := hid (fun u ku => putr_keep (by rw [pk_none Hm.out Ho.out Hf.out, HRg.out.1, HRg.out.2, hlt]; rfl) (by decide) HR.out ku)
          go_wp2_with fail
          refine wp_region_noPanic ?_
          refine wp_region_held_drew (S := (fun w' => At w' Z cs 36)) (by kernel_rfl) (HF.out.2.2.2.2) (fun hHeld => ?_)
          generalize w5.drew = wq at *
          refine wpAnyH_take (i := 0) (v := .agg cs) rfl (by kernel_rfl) (by kernel_rfl) (by kernel_rfl) (fun _ _ _ h => h) (Or.inl ⟨by rfl, fun w hSw => exec_load36 _ rfl rfl (load36 hSw HS.out)⟩) (by assumption) ?_
          refine wpAnyH_take (i := 1) (v := .bool false) rfl (by kernel_rfl) (by kernel_rfl) (by kernel_rfl) (fun _ _ _ h => h) (Or.inl ⟨by rfl, fun w hSw => by (try dsimp only at hSw); go_simp⟩) (by assumption) ?_
          refine wpAnyH_take (i := 2) (v := .int .i64 8) rfl (by kernel_rfl) (by kernel_rfl) (by kernel_rfl) (fun _ _ _ h => h) (Or.inl ⟨by rfl, fun w hSw => by (try dsimp only at hSw); go_simp⟩) (by assumption) ?_
          try simp only [List.getElem_toArray, List.getElem_cons_zero, List.getElem_cons_succ, Act.put, List.setIfInBounds_toArray, List.set_cons_zero, List.set_cons_succ]
          refine wpAnyH_ready (rs := [3]) (by kernel_rfl) (by simp) ?_
          refine AllReadyH.cons (i := 3) rfl (fun K hK => ?_) AllReadyH.nil
          rw [if_pos (by rfl)]
          refine wp_store36 _ _ rfl Zr rfl cs rfl (wq.setRow Zr cs) HF.out.1 ?_
          clear hHeld
          refine hK.out _ _ (HF.out.2.2.1) (fun hHeld => ?_)
          clear hK K
          try simp only [List.getElem_toArray, List.getElem_cons_zero, List.getElem_cons_succ, Act.put, List.setIfInBounds_toArray, List.set_cons_zero, List.set_cons_succ]
          refine wpAnyH_done (by kernel_rfl) ?_ _
          refine NoPanic.normal ?_
          clear hHeld
          go_wp2_with fail
          exact bodyPost_ret (resP Tryz.results15 _ rfl rfl rfl HF.out.2.1) rfl (HEnd.out _ HF.out.2.2.2.1)
        | true =>
          by_cases hB : c.B < b
          · go_wp2_with fail
            refine wp_region_noPanic ?_
            refine wp_region_held_drew (S := (fun w' => (w'.cell? ⟨Z, 1 + k * 3, none⟩ = some (.int .u64 fq.p) ∧ w'.cell? ⟨Z, 1 + k * 3 + 1, none⟩ = some (.int .u32 fq.l) ∧ w'.cell? ⟨Z, 1 + k * 3 + 2, none⟩ = some (.int .u8 fq.n)) ∧ (w'.cell? ⟨Y, 0, none⟩ = some (.string r.key) ∧ w'.cell? ⟨Y, 1, none⟩ = some (.int .u64 r.s.p) ∧ w'.cell? ⟨Y, 2, none⟩ = some (.int .u32 r.s.l) ∧ w'.cell? ⟨Y, 3, none⟩ = some (.int .u8 r.s.n) ∧ w'.cell? ⟨Y, 4, none⟩ = some (.int .u8 r.kind) ∧ w'.cell? ⟨Y, 5, none⟩ = some (.int .u32 r.flags) ∧ w'.cell? ⟨Y, 6, none⟩ = some (.int .u64 r.exp) ∧ w'.cell? ⟨Y, 7, none⟩ = some (.string r.body)))) (by kernel_rfl) (HS1.out _ k0) (fun hHeld => ?_)
            generalize w3.drew = wq at *
            refine wpAnyH_take (i := 0) (v := .pointer (some ⟨Y, 0, none⟩)) rfl (by kernel_rfl) (by kernel_rfl) (by kernel_rfl) (fun _ _ _ h => h) (Or.inl ⟨by rfl, fun w hSw => by (try dsimp only at hSw); go_simp⟩) (by assumption) ?_
            refine wpAnyH_take (i := 1) (v := .string r.key) rfl (by kernel_rfl) (by kernel_rfl) (by kernel_rfl) (fun _ _ _ h => h) (Or.inl ⟨by rfl, fun w hSw => by (try dsimp only at hSw); go_simp⟩) (by assumption) ?_
            refine wpAnyH_take (i := 3) (v := .pointer (some ⟨Z, 1, none⟩)) rfl (by kernel_rfl) (by kernel_rfl) (by kernel_rfl) (fun _ _ _ h => h) (Or.inl ⟨by rfl, fun w hSw => by (try dsimp only at hSw); go_simp⟩) (by assumption) ?_
            refine wpAnyH_take (i := 6) (v := .pointer (some ⟨Y, 1, none⟩)) rfl (by kernel_rfl) (by kernel_rfl) (by kernel_rfl) (fun _ _ _ h => h) (Or.inl ⟨by rfl, fun w hSw => by (try dsimp only at hSw); go_simp⟩) (by assumption) ?_
            refine wpAnyH_take (i := 7) (v := .agg #[.int .u64 r.s.p, .int .u32 r.s.l, .int .u8 r.s.n]) rfl (by kernel_rfl) (by kernel_rfl) (by kernel_rfl) (fun _ _ _ h => h) (Or.inl ⟨by rfl, fun w hSw => by (try dsimp only at hSw); go_simp⟩) (by assumption) ?_
            try simp only [List.getElem_toArray, List.getElem_cons_zero, List.getElem_cons_succ, Act.put, List.setIfInBounds_toArray, List.set_cons_zero, List.set_cons_succ]
            refine wpAnyH_ready (rs := [2]) (by kernel_rfl) (by simp) ?_
            refine AllReadyH.cons (i := 2) rfl (fun K hK => ?_) AllReadyH.nil
            go_simp
            refine (hRg _).mono ?_
            rintro e w3 ⟨rfl, rfl⟩
            clear hHeld
            show K _ _
            refine hK.out _ _ (HS1.out _ k0) (fun hHeld => ?_)
            clear hK K
            refine wpAnyH_take (i := 4) (v := .pointer (some ⟨Z, 1 + k * 3, none⟩)) rfl (by kernel_rfl) (by kernel_rfl) (by kernel_rfl) (fun _ _ _ h => h) (Or.inl ⟨by rfl, fun w hSw => by (try dsimp only at hSw); go_simp⟩) (by assumption) ?_
            refine wpAnyH_take (i := 5) (v := .agg #[.int .u64 fq.p, .int .u32 fq.l, .int .u8 fq.n]) rfl (by kernel_rfl) (by kernel_rfl) (by kernel_rfl) (fun _ _ _ h => h) (Or.inl ⟨by rfl, fun w hSw => by (try dsimp only at hSw); go_simp⟩) (by assumption) ?_
            try simp only [List.getElem_toArray, List.getElem_cons_zero, List.getElem_cons_succ, Act.put, List.setIfInBounds_toArray, List.set_cons_zero, List.set_cons_succ]
            refine wpAnyH_ready (rs := [8]) (by kernel_rfl) (by simp) ?_
            refine AllReadyH.cons (i := 8) rfl (fun K hK => ?_) AllReadyH.nil
            go_simp
            refine (less_any fq r.s _).mono ?_
            rintro e w5 ⟨rfl, h3⟩
            replace k0 := kept_trans k0 h3
            clear h3
            clear hHeld
            show K _ _
            refine hK.out _ _ (HS1.out _ k0) (fun hHeld => ?_)
            clear hK K
            refine wpAnyH_take (i := 9) (v := .bool false) rfl (by kernel_rfl) (by kernel_rfl) (by kernel_rfl) (fun _ _ _ h => h) (Or.inl ⟨by rfl, fun w hSw => by (try dsimp only at hSw); go_simp⟩) (by assumption) ?_
            try simp only [List.getElem_toArray, List.getElem_cons_zero, List.getElem_cons_succ, Act.put, List.setIfInBounds_toArray, List.set_cons_zero, List.set_cons_succ]
            refine wpAnyH_done (by kernel_rfl) ?_ _
            refine NoPanic.normal ?_
            clear hHeld
            have HK5 := hid (kept_trans HK3.out k0)
            clear k0 HS1 hidx hRg
            have HA05 := hid (at_kept HA0.out HK5.out)
            have HA15 := hid (at_kept HA1.out HK5.out)
            obtain ⟨y0, y1, y2, y3, y4, y5, y6, y7⟩ := at_cells8' HA15.out
            have cB := (at_cell HA05.out 194).trans HS.out.B
            have hgB : decide ((c.B : Int) < (b : Int)) = true := decide_eq_true (by omega)
            have Hks0 := hid hlen
            have HF := hid (ret_facts (wz := w5) (kept_trans HK.out HK5.out) (at_kept HA0.out HK5.out) (at_kept HA2.out HK5.out) HZs.out HS.out (by have := HG.out; omega) (by have := HG.out; omega))
            have HEnd : Hid (∀ u, Kept w u → PutR c s cs r now w (.returned (.tuple #[.bool false, .int .i64 6, .agg cs])) u) := hid (fun u ku => putr_keep (by rw [pk_none Hm.out Ho.out Hf.out, HRg.out.1, HRg.out.2, hlt, if_pos rfl, Hb.out, if_pos hB]) (by decide) HR.out ku)
            go_wp2_with fail
            refine wp_region_noPanic ?_
            refine wp_region_held_drew (S := (fun w' => At w' Z cs 36)) (by kernel_rfl) (HF.out.2.2.2.2) (fun hHeld => ?_)
            generalize w5.drew = wq at *
            refine wpAnyH_take (i := 0) (v := .agg cs) rfl (by kernel_rfl) (by kernel_rfl) (by kernel_rfl) (fun _ _ _ h => h) (Or.inl ⟨by rfl, fun w hSw => exec_load36 _ rfl rfl (load36 hSw HS.out)⟩) (by assumption) ?_
            refine wpAnyH_take (i := 1) (v := .bool false) rfl (by kernel_rfl) (by kernel_rfl) (by kernel_rfl) (fun _ _ _ h => h) (Or.inl ⟨by rfl, fun w hSw => by (try dsimp only at hSw); go_simp⟩) (by assumption) ?_
            refine wpAnyH_take (i := 2) (v := .int .i64 6) rfl (by kernel_rfl) (by kernel_rfl) (by kernel_rfl) (fun _ _ _ h => h) (Or.inl ⟨by rfl, fun w hSw => by (try dsimp only at hSw); go_simp⟩) (by assumption) ?_
            try simp only [List.getElem_toArray, List.getElem_cons_zero, List.getElem_cons_succ, Act.put, List.setIfInBounds_toArray, List.set_cons_zero, List.set_cons_succ]
            refine wpAnyH_ready (rs := [3]) (by kernel_rfl) (by simp) ?_
            refine AllReadyH.cons (i := 3) rfl (fun K hK => ?_) AllReadyH.nil
            rw [if_pos (by rfl)]
            refine wp_store36 _ _ rfl Zr rfl cs rfl (wq.setRow Zr cs) HF.out.1 ?_
            clear hHeld
            refine hK.out _ _ (HF.out.2.2.1) (fun hHeld => ?_)
            clear hK K
            try simp only [List.getElem_toArray, List.getElem_cons_zero, List.getElem_cons_succ, Act.put, List.setIfInBounds_toArray, List.set_cons_zero, List.set_cons_succ]
            refine wpAnyH_done (by kernel_rfl) ?_ _
            refine NoPanic.normal ?_
            clear hHeld
            go_wp2_with fail
            exact bodyPost_ret (resP Tryz.results15 _ rfl rfl rfl HF.out.2.1) rfl (HEnd.out _ HF.out.2.2.2.1)
          · exact absurd (by rw [pk_none Hm.out Ho.out Hf.out, HRg.out.1, HRg.out.2, hlt, if_pos rfl, Hb.out, if_neg (by omega)]) HPK.out
      · have hge : decide ((0 : Int) ≤ (j : Int)) = true := decide_eq_true (by omega)
        have hka := keys_at HKs.out hr
        rw [hrk] at hka
        have HKa := hid hka
        have HKey := hid hrk
        have Hqm : Hid (q.body.size ≤ maxLen) := hid (by have := (may_len (HFit.out.may q (List.mem_of_getElem? hr))).1; unfold lenR at this; unfold maxLen; omega)
        have HLj := hid hj
        have HL3 := hid (rdl_kept HL.out (kept_trans HK.out HK3.out))
        obtain ⟨N, hN⟩ : ∃ N, s.L.length = N := ⟨_, rfl⟩
        have HN := hid hN
        have hN1 : N ≤ 1000 := by omega
        have hjN : j < N := by omega
        obtain ⟨Q, rfl, q', hq', hc8⟩ := (rdr_at HL3.out.1).2 j hj
        rw [hr] at hq'
        injection hq' with hq'
        have HQl : Hid (∀ u, Kept w3 u → C8 u Q (j * 8) q) := hid (fun u ku => by
          obtain ⟨q2, e2, r2', h2, c8⟩ := (rdr_at (rdl_kept HL3.out ku).1).2 j HLj.out
          injection e2 with e2
          injection e2 with e2
          rw [hr] at h2
          injection h2 with h2
          rw [e2, h2]; exact c8)
        clear hq' hc8 hr hrk hka q'
        have hq := idxR Q N cap j hjN (by omega)
        have HS1 : Hid (∀ u, Kept w3 u → (u.cell? ⟨Z, 0, none⟩ = some (.slice (some ⟨Q, 0, none⟩) N cap)) ∧ (u.cell? ⟨Y, 0, none⟩ = some (.string r.key) ∧ u.cell? ⟨Y, 1, none⟩ = some (.int .u64 r.s.p) ∧ u.cell? ⟨Y, 2, none⟩ = some (.int .u32 r.s.l) ∧ u.cell? ⟨Y, 3, none⟩ = some (.int .u8 r.s.n) ∧ u.cell? ⟨Y, 4, none⟩ = some (.int .u8 r.kind) ∧ u.cell? ⟨Y, 5, none⟩ = some (.int .u32 r.flags) ∧ u.cell? ⟨Y, 6, none⟩ = some (.int .u64 r.exp) ∧ u.cell? ⟨Y, 7, none⟩ = some (.string r.body)) ∧ (u.cell? ⟨Q, j * 8, none⟩ = some (.string q.key) ∧ u.cell? ⟨Q, j * 8 + 1, none⟩ = some (.int .u64 q.s.p) ∧ u.cell? ⟨Q, j * 8 + 2, none⟩ = some (.int .u32 q.s.l) ∧ u.cell? ⟨Q, j * 8 + 3, none⟩ = some (.int .u8 q.s.n) ∧ u.cell? ⟨Q, j * 8 + 4, none⟩ = some (.int .u8 q.kind) ∧ u.cell? ⟨Q, j * 8 + 5, none⟩ = some (.int .u32 q.flags) ∧ u.cell? ⟨Q, j * 8 + 6, none⟩ = some (.int .u64 q.exp) ∧ u.cell? ⟨Q, j * 8 + 7, none⟩ = some (.string q.body))) := hid (fun u ku => ⟨by rw [← HN.out]; exact (at_cell (at_kept HA03.out ku) 0).trans HS.out.row, at_cells8' (at_kept HA13.out ku), HQl.out u ku⟩)
        obtain ⟨c0, ⟨y0, y1, y2, y3, y4, y5, y6, y7⟩, r0, r1, r2, r3, r4, r5, r6, r7⟩ := HS1.out w3 (kept_refl w3)
        have hE := eq_rec q r
        clear hj hN
        by_cases h0 : cmpR r q = 0
        · have hsm := same_of HKey.out h0
          go_wp2_with fail
          go_quiet (fail)
          have k4 : Kept w3 (w3.drewN nq) := kept_drewN (kept_refl w3) nq
          clear c0 y0 y1 y2 y3 y4 y5 y6 y7 r0 r1 r2 r3 r4 r5 r6 r7 hE
          generalize w3.drewN nq = w4 at *
          have HK4 := hid (kept_trans HK3.out k4)
          clear k4
          have HF := hid (ret_facts (wz := w4) (kept_trans HK.out HK4.out) (at_kept HA0.out HK4.out) (at_kept HA2.out HK4.out) HZs.out HS.out (by have := HG.out; omega) (by have := HG.out; omega))
          have HEnd : Hid (∀ u, Kept w u → PutR c s cs r now w (.returned (.tuple #[.bool false, .int .i64 0, .agg cs])) u) := hid (fun u ku => putr_keep (by rw [pk_some Hm.out Ho.out HKa.out.2, if_pos h0]) (by decide) HR.out ku)
          go_wp2_with fail
          refine wp_region_noPanic ?_
          refine wp_region_held_drew (S := (fun w' => At w' Z cs 36)) (by kernel_rfl) (HF.out.2.2.2.2) (fun hHeld => ?_)
          generalize w4.drew = wq at *
          refine wpAnyH_take (i := 0) (v := .agg cs) rfl (by kernel_rfl) (by kernel_rfl) (by kernel_rfl) (fun _ _ _ h => h) (Or.inl ⟨by rfl, fun w hSw => exec_load36 _ rfl rfl (load36 hSw HS.out)⟩) (by assumption) ?_
          refine wpAnyH_take (i := 1) (v := .bool false) rfl (by kernel_rfl) (by kernel_rfl) (by kernel_rfl) (fun _ _ _ h => h) (Or.inl ⟨by rfl, fun w hSw => by (try dsimp only at hSw); go_simp⟩) (by assumption) ?_
          refine wpAnyH_take (i := 2) (v := .int .i64 0) rfl (by kernel_rfl) (by kernel_rfl) (by kernel_rfl) (fun _ _ _ h => h) (Or.inl ⟨by rfl, fun w hSw => by (try dsimp only at hSw); go_simp⟩) (by assumption) ?_
          try simp only [List.getElem_toArray, List.getElem_cons_zero, List.getElem_cons_succ, Act.put, List.setIfInBounds_toArray, List.set_cons_zero, List.set_cons_succ]
          refine wpAnyH_ready (rs := [3]) (by kernel_rfl) (by simp) ?_
          refine AllReadyH.cons (i := 3) rfl (fun K hK => ?_) AllReadyH.nil
          rw [if_pos (by rfl)]
          refine wp_store36 _ _ rfl Zr rfl cs rfl (wq.setRow Zr cs) HF.out.1 ?_
          clear hHeld
          refine hK.out _ _ (HF.out.2.2.1) (fun hHeld => ?_)
          clear hK K
          try simp only [List.getElem_toArray, List.getElem_cons_zero, List.getElem_cons_succ, Act.put, List.setIfInBounds_toArray, List.set_cons_zero, List.set_cons_succ]
          refine wpAnyH_done (by kernel_rfl) ?_ _
          refine NoPanic.normal ?_
          clear hHeld
          go_wp2_with fail
          exact bodyPost_ret (resP Tryz.results15 _ rfl rfl rfl HF.out.2.1) rfl (HEnd.out _ HF.out.2.2.2.1)
        · have hsm := same_not h0
          go_wp2_with fail
          go_quiet (fail)
          have k4 : Kept w3 (w3.drewN nq) := kept_drewN (kept_refl w3) nq
          clear c0 y0 y1 y2 y3 y4 y5 y6 y7 r0 r1 r2 r3 r4 r5 r6 r7 hE
          generalize w3.drewN nq = w4 at *
          clear hsm
          have hHS : ∀ u, Kept w4 u → Kept w3 u := fun u ku => kept_trans k4 ku
          have k0 : Kept w3 w4.drew := k4
          clear k4 hHS
          by_cases h1 : cmpR r q < 0
          · have hls := less_of h1
            go_wp2_with fail
            refine wp_region_noPanic ?_
            refine wp_region_held_drew (S := (fun w' => (w'.cell? ⟨Z, 0, none⟩ = some (.slice (some ⟨Q, 0, none⟩) N cap)) ∧ (w'.cell? ⟨Y, 0, none⟩ = some (.string r.key) ∧ w'.cell? ⟨Y, 1, none⟩ = some (.int .u64 r.s.p) ∧ w'.cell? ⟨Y, 2, none⟩ = some (.int .u32 r.s.l) ∧ w'.cell? ⟨Y, 3, none⟩ = some (.int .u8 r.s.n) ∧ w'.cell? ⟨Y, 4, none⟩ = some (.int .u8 r.kind) ∧ w'.cell? ⟨Y, 5, none⟩ = some (.int .u32 r.flags) ∧ w'.cell? ⟨Y, 6, none⟩ = some (.int .u64 r.exp) ∧ w'.cell? ⟨Y, 7, none⟩ = some (.string r.body)) ∧ (w'.cell? ⟨Q, j * 8, none⟩ = some (.string q.key) ∧ w'.cell? ⟨Q, j * 8 + 1, none⟩ = some (.int .u64 q.s.p) ∧ w'.cell? ⟨Q, j * 8 + 2, none⟩ = some (.int .u32 q.s.l) ∧ w'.cell? ⟨Q, j * 8 + 3, none⟩ = some (.int .u8 q.s.n) ∧ w'.cell? ⟨Q, j * 8 + 4, none⟩ = some (.int .u8 q.kind) ∧ w'.cell? ⟨Q, j * 8 + 5, none⟩ = some (.int .u32 q.flags) ∧ w'.cell? ⟨Q, j * 8 + 6, none⟩ = some (.int .u64 q.exp) ∧ w'.cell? ⟨Q, j * 8 + 7, none⟩ = some (.string q.body)))) (by kernel_rfl) (HS1.out _ k0) (fun hHeld => ?_)
            generalize w4.drew = wq at *
            refine wpAnyH_take (i := 0) (v := .agg #[.string r.key, .int .u64 r.s.p, .int .u32 r.s.l, .int .u8 r.s.n, .int .u8 r.kind, .int .u32 r.flags, .int .u64 r.exp, .string r.body]) rfl (by kernel_rfl) (by kernel_rfl) (by kernel_rfl) (fun _ _ _ h => h) (Or.inl ⟨by rfl, fun w hSw => by (try dsimp only at hSw); go_simp⟩) (by assumption) ?_
            refine wpAnyH_take (i := 1) (v := .pointer (some ⟨Z, 0, none⟩)) rfl (by kernel_rfl) (by kernel_rfl) (by kernel_rfl) (fun _ _ _ h => h) (Or.inl ⟨by rfl, fun w hSw => by (try dsimp only at hSw); go_simp⟩) (by assumption) ?_
            refine wpAnyH_take (i := 2) (v := .slice (some ⟨Q, 0, none⟩) N cap) rfl (by kernel_rfl) (by kernel_rfl) (by kernel_rfl) (fun _ _ _ h => h) (Or.inl ⟨by rfl, fun w hSw => by (try dsimp only at hSw); go_simp⟩) (by assumption) ?_
            refine wpAnyH_take (i := 3) (v := .int .i64 (j : Int)) rfl (by kernel_rfl) (by kernel_rfl) (by kernel_rfl) (fun _ _ _ h => h) (Or.inl ⟨by rfl, fun w hSw => by (try dsimp only at hSw); go_simp⟩) (by assumption) ?_
            refine wpAnyH_take (i := 4) (v := .pointer (some ⟨Q, j * 8, none⟩)) rfl (by kernel_rfl) (by kernel_rfl) (by kernel_rfl) (fun _ _ _ h => h) (Or.inl ⟨by rfl, fun w hSw => by (try dsimp only at hSw); go_simp⟩) (by assumption) ?_
            refine wpAnyH_take (i := 5) (v := .agg #[.string q.key, .int .u64 q.s.p, .int .u32 q.s.l, .int .u8 q.s.n, .int .u8 q.kind, .int .u32 q.flags, .int .u64 q.exp, .string q.body]) rfl (by kernel_rfl) (by kernel_rfl) (by kernel_rfl) (fun _ _ _ h => h) (Or.inl ⟨by rfl, fun w hSw => by (try dsimp only at hSw); go_simp⟩) (by assumption) ?_
            try simp only [List.getElem_toArray, List.getElem_cons_zero, List.getElem_cons_succ, Act.put, List.setIfInBounds_toArray, List.set_cons_zero, List.set_cons_succ]
            refine wpAnyH_ready (rs := [6]) (by kernel_rfl) (by simp) ?_
            refine AllReadyH.cons (i := 6) rfl (fun K hK => ?_) AllReadyH.nil
            go_simp
            refine (refLess_any r q Hbs.out Hqm.out _).mono ?_
            rintro e w5 ⟨rfl, h3⟩
            replace k0 := kept_trans k0 h3
            clear h3
            rw [hls]
            clear hHeld
            show K _ _
            refine hK.out _ _ (HS1.out _ k0) (fun hHeld => ?_)
            clear hK K
            try simp only [List.getElem_toArray, List.getElem_cons_zero, List.getElem_cons_succ, Act.put, List.setIfInBounds_toArray, List.set_cons_zero, List.set_cons_succ]
            refine wpAnyH_done (by kernel_rfl) ?_ _
            refine NoPanic.normal ?_
            clear hHeld
            have HK5 := hid (kept_trans HK3.out k0)
            clear k0 HS1 hq
            have HF := hid (ret_facts (wz := w5) (kept_trans HK.out HK5.out) (at_kept HA0.out HK5.out) (at_kept HA2.out HK5.out) HZs.out HS.out (by have := HG.out; omega) (by have := HG.out; omega))
            have HEnd : Hid (∀ u, Kept w u → PutR c s cs r now w (.returned (.tuple #[.bool false, .int .i64 8, .agg cs])) u) := hid (fun u ku => putr_keep (by rw [pk_some Hm.out Ho.out HKa.out.2, if_neg h0, if_pos h1]) (by decide) HR.out ku)
            go_wp2_with fail
            refine wp_region_noPanic ?_
            refine wp_region_held_drew (S := (fun w' => At w' Z cs 36)) (by kernel_rfl) (HF.out.2.2.2.2) (fun hHeld => ?_)
            generalize w5.drew = wq at *
            refine wpAnyH_take (i := 0) (v := .agg cs) rfl (by kernel_rfl) (by kernel_rfl) (by kernel_rfl) (fun _ _ _ h => h) (Or.inl ⟨by rfl, fun w hSw => exec_load36 _ rfl rfl (load36 hSw HS.out)⟩) (by assumption) ?_
            refine wpAnyH_take (i := 1) (v := .bool false) rfl (by kernel_rfl) (by kernel_rfl) (by kernel_rfl) (fun _ _ _ h => h) (Or.inl ⟨by rfl, fun w hSw => by (try dsimp only at hSw); go_simp⟩) (by assumption) ?_
            refine wpAnyH_take (i := 2) (v := .int .i64 8) rfl (by kernel_rfl) (by kernel_rfl) (by kernel_rfl) (fun _ _ _ h => h) (Or.inl ⟨by rfl, fun w hSw => by (try dsimp only at hSw); go_simp⟩) (by assumption) ?_
            try simp only [List.getElem_toArray, List.getElem_cons_zero, List.getElem_cons_succ, Act.put, List.setIfInBounds_toArray, List.set_cons_zero, List.set_cons_succ]
            refine wpAnyH_ready (rs := [3]) (by kernel_rfl) (by simp) ?_
            refine AllReadyH.cons (i := 3) rfl (fun K hK => ?_) AllReadyH.nil
            rw [if_pos (by rfl)]
            refine wp_store36 _ _ rfl Zr rfl cs rfl (wq.setRow Zr cs) HF.out.1 ?_
            clear hHeld
            refine hK.out _ _ (HF.out.2.2.1) (fun hHeld => ?_)
            clear hK K
            try simp only [List.getElem_toArray, List.getElem_cons_zero, List.getElem_cons_succ, Act.put, List.setIfInBounds_toArray, List.set_cons_zero, List.set_cons_succ]
            refine wpAnyH_done (by kernel_rfl) ?_ _
            refine NoPanic.normal ?_
            clear hHeld
            go_wp2_with fail
            exact bodyPost_ret (resP Tryz.results15 _ rfl rfl rfl HF.out.2.1) rfl (HEnd.out _ HF.out.2.2.2.1)
          · have hls := less_not (r := r) (q := q) (by omega)
            by_cases hB : c.B < b
            · go_wp2_with fail
              refine wp_region_noPanic ?_
              refine wp_region_held_drew (S := (fun w' => (w'.cell? ⟨Z, 0, none⟩ = some (.slice (some ⟨Q, 0, none⟩) N cap)) ∧ (w'.cell? ⟨Y, 0, none⟩ = some (.string r.key) ∧ w'.cell? ⟨Y, 1, none⟩ = some (.int .u64 r.s.p) ∧ w'.cell? ⟨Y, 2, none⟩ = some (.int .u32 r.s.l) ∧ w'.cell? ⟨Y, 3, none⟩ = some (.int .u8 r.s.n) ∧ w'.cell? ⟨Y, 4, none⟩ = some (.int .u8 r.kind) ∧ w'.cell? ⟨Y, 5, none⟩ = some (.int .u32 r.flags) ∧ w'.cell? ⟨Y, 6, none⟩ = some (.int .u64 r.exp) ∧ w'.cell? ⟨Y, 7, none⟩ = some (.string r.body)) ∧ (w'.cell? ⟨Q, j * 8, none⟩ = some (.string q.key) ∧ w'.cell? ⟨Q, j * 8 + 1, none⟩ = some (.int .u64 q.s.p) ∧ w'.cell? ⟨Q, j * 8 + 2, none⟩ = some (.int .u32 q.s.l) ∧ w'.cell? ⟨Q, j * 8 + 3, none⟩ = some (.int .u8 q.s.n) ∧ w'.cell? ⟨Q, j * 8 + 4, none⟩ = some (.int .u8 q.kind) ∧ w'.cell? ⟨Q, j * 8 + 5, none⟩ = some (.int .u32 q.flags) ∧ w'.cell? ⟨Q, j * 8 + 6, none⟩ = some (.int .u64 q.exp) ∧ w'.cell? ⟨Q, j * 8 + 7, none⟩ = some (.string q.body)))) (by kernel_rfl) (HS1.out _ k0) (fun hHeld => ?_)
              generalize w4.drew = wq at *
              refine wpAnyH_take (i := 0) (v := .agg #[.string r.key, .int .u64 r.s.p, .int .u32 r.s.l, .int .u8 r.s.n, .int .u8 r.kind, .int .u32 r.flags, .int .u64 r.exp, .string r.body]) rfl (by kernel_rfl) (by kernel_rfl) (by kernel_rfl) (fun _ _ _ h => h) (Or.inl ⟨by rfl, fun w hSw => by (try dsimp only at hSw); go_simp⟩) (by assumption) ?_
              refine wpAnyH_take (i := 1) (v := .pointer (some ⟨Z, 0, none⟩)) rfl (by kernel_rfl) (by kernel_rfl) (by kernel_rfl) (fun _ _ _ h => h) (Or.inl ⟨by rfl, fun w hSw => by (try dsimp only at hSw); go_simp⟩) (by assumption) ?_
              refine wpAnyH_take (i := 2) (v := .slice (some ⟨Q, 0, none⟩) N cap) rfl (by kernel_rfl) (by kernel_rfl) (by kernel_rfl) (fun _ _ _ h => h) (Or.inl ⟨by rfl, fun w hSw => by (try dsimp only at hSw); go_simp⟩) (by assumption) ?_
              refine wpAnyH_take (i := 3) (v := .int .i64 (j : Int)) rfl (by kernel_rfl) (by kernel_rfl) (by kernel_rfl) (fun _ _ _ h => h) (Or.inl ⟨by rfl, fun w hSw => by (try dsimp only at hSw); go_simp⟩) (by assumption) ?_
              refine wpAnyH_take (i := 4) (v := .pointer (some ⟨Q, j * 8, none⟩)) rfl (by kernel_rfl) (by kernel_rfl) (by kernel_rfl) (fun _ _ _ h => h) (Or.inl ⟨by rfl, fun w hSw => by (try dsimp only at hSw); go_simp⟩) (by assumption) ?_
              refine wpAnyH_take (i := 5) (v := .agg #[.string q.key, .int .u64 q.s.p, .int .u32 q.s.l, .int .u8 q.s.n, .int .u8 q.kind, .int .u32 q.flags, .int .u64 q.exp, .string q.body]) rfl (by kernel_rfl) (by kernel_rfl) (by kernel_rfl) (fun _ _ _ h => h) (Or.inl ⟨by rfl, fun w hSw => by (try dsimp only at hSw); go_simp⟩) (by assumption) ?_
              try simp only [List.getElem_toArray, List.getElem_cons_zero, List.getElem_cons_succ, Act.put, List.setIfInBounds_toArray, List.set_cons_zero, List.set_cons_succ]
              refine wpAnyH_ready (rs := [6]) (by kernel_rfl) (by simp) ?_
              refine AllReadyH.cons (i := 6) rfl (fun K hK => ?_) AllReadyH.nil
              go_simp
              refine (refLess_any r q Hbs.out Hqm.out _).mono ?_
              rintro e w5 ⟨rfl, h3⟩
              replace k0 := kept_trans k0 h3
              clear h3
              rw [hls]
              clear hHeld
              show K _ _
              refine hK.out _ _ (HS1.out _ k0) (fun hHeld => ?_)
              clear hK K
              try simp only [List.getElem_toArray, List.getElem_cons_zero, List.getElem_cons_succ, Act.put, List.setIfInBounds_toArray, List.set_cons_zero, List.set_cons_succ]
              refine wpAnyH_done (by kernel_rfl) ?_ _
              refine NoPanic.normal ?_
              clear hHeld
              have HK5 := hid (kept_trans HK3.out k0)
              clear k0 HS1 hq
              have HA05 := hid (at_kept HA0.out HK5.out)
              have HA15 := hid (at_kept HA1.out HK5.out)
              obtain ⟨y0, y1, y2, y3, y4, y5, y6, y7⟩ := at_cells8' HA15.out
              have cB := (at_cell HA05.out 194).trans HS.out.B
              have hgB : decide ((c.B : Int) < (b : Int)) = true := decide_eq_true (by omega)
              have HF := hid (ret_facts (wz := w5) (kept_trans HK.out HK5.out) (at_kept HA0.out HK5.out) (at_kept HA2.out HK5.out) HZs.out HS.out (by have := HG.out; omega) (by have := HG.out; omega))
              have HEnd : Hid (∀ u, Kept w u → PutR c s cs r now w (.returned (.tuple #[.bool false, .int .i64 6, .agg cs])) u) := hid (fun u ku => putr_keep (by rw [pk_some Hm.out Ho.out HKa.out.2, if_neg h0, if_neg (by omega), Hb.out, if_pos hB]) (by decide) HR.out ku)
              go_wp2_with fail
              refine wp_region_noPanic ?_
              refine wp_region_held_drew (S := (fun w' => At w' Z cs 36)) (by kernel_rfl) (HF.out.2.2.2.2) (fun hHeld => ?_)
              generalize w5.drew = wq at *
              refine wpAnyH_take (i := 0) (v := .agg cs) rfl (by kernel_rfl) (by kernel_rfl) (by kernel_rfl) (fun _ _ _ h => h) (Or.inl ⟨by rfl, fun w hSw => exec_load36 _ rfl rfl (load36 hSw HS.out)⟩) (by assumption) ?_
              refine wpAnyH_take (i := 1) (v := .bool false) rfl (by kernel_rfl) (by kernel_rfl) (by kernel_rfl) (fun _ _ _ h => h) (Or.inl ⟨by rfl, fun w hSw => by (try dsimp only at hSw); go_simp⟩) (by assumption) ?_
              refine wpAnyH_take (i := 2) (v := .int .i64 6) rfl (by kernel_rfl) (by kernel_rfl) (by kernel_rfl) (fun _ _ _ h => h) (Or.inl ⟨by rfl, fun w hSw => by (try dsimp only at hSw); go_simp⟩) (by assumption) ?_
              try simp only [List.getElem_toArray, List.getElem_cons_zero, List.getElem_cons_succ, Act.put, List.setIfInBounds_toArray, List.set_cons_zero, List.set_cons_succ]
              refine wpAnyH_ready (rs := [3]) (by kernel_rfl) (by simp) ?_
              refine AllReadyH.cons (i := 3) rfl (fun K hK => ?_) AllReadyH.nil
              rw [if_pos (by rfl)]
              refine wp_store36 _ _ rfl Zr rfl cs rfl (wq.setRow Zr cs) HF.out.1 ?_
              clear hHeld
              refine hK.out _ _ (HF.out.2.2.1) (fun hHeld => ?_)
              clear hK K
              try simp only [List.getElem_toArray, List.getElem_cons_zero, List.getElem_cons_succ, Act.put, List.setIfInBounds_toArray, List.set_cons_zero, List.set_cons_succ]
              refine wpAnyH_done (by kernel_rfl) ?_ _
              refine NoPanic.normal ?_
              clear hHeld
              go_wp2_with fail
              exact bodyPost_ret (resP Tryz.results15 _ rfl rfl rfl HF.out.2.1) rfl (HEnd.out _ HF.out.2.2.2.1)
            · exact absurd (by rw [pk_some Hm.out Ho.out HKa.out.2, if_neg h0, if_neg (by omega), Hb.out, if_neg (by omega)]) HPK.out
end Go.Proofs.YthgbdaladngpdaaGreat

/- A store and the reference's store side by side: what stands, and what keeps it so. -/
namespace Go.Proofs.YthgbdaladngpdaaGreat
open Go.ChangeShapes Go.WideShapes Go.ChangeAt Go.RowKit
open Go.Proofs.YthgbdaladngpdaaGreat.Whl (Tn tn_kept tn_refl tn_trans tn_set tn_alloc at_tn kept_tn It)
set_option linter.unusedVariables false
set_option linter.unusedSimpArgs false
set_option maxRecDepth 100000

theorem refput_any {cs : Array Value} {c : Cf} {s : MS} (hc : c.may) (hfit : Fit c s) (hl : s.L.length ≤ 1000) (hev : s.ev ≤ 900000000) (r : R) (hks : r.key.size ≤ 1000) (hbs : r.body.size ≤ 3000) (hok : r.ok) (now : Int) (w : World) (h : RS w cs c s) :
    Calls Tryz.prog 15 #[.agg cs, .agg #[.string r.key, .int .u64 r.s.p, .int .u32 r.s.l, .int .u8 r.s.n, .int .u8 r.kind, .int .u32 r.flags, .int .u64 r.exp, .string r.body], .int .u64 now] w (PutR c s cs r now w) := by
  by_cases hK : putK c s r now = 100
  · exact refput_new hc hfit hl hev r hks hbs hok now w h hK
  · exact refput_keep hc hfit hl hev r hks hbs hok now w h hK
theorem rdl_tn {F : Nat → Prop} {w w' : World} {v : Value} {L : List R} (h : RdL w v L) (t : Tn F w w') (hF : ∀ q n cap, v = .slice (some ⟨q, 0, none⟩) n cap → 0 < L.length → ¬ F q) : RdL w' v L := by
  obtain ⟨⟨a, cap, rfl, hr⟩, h2⟩ := h
  refine ⟨⟨a, cap, rfl, fun hp => ?_⟩, h2⟩
  obtain ⟨q, rfl, hq, hc⟩ := hr hp
  exact ⟨q, rfl, Nat.lt_of_lt_of_le hq t.2.2.1, fun i r hi => c8_block (hc i r hi) (t.2.2.2 q hq (hF q _ _ rfl hp))⟩
theorem rdl_low {w : World} {L : List R} {q n cap : Nat} (h : RdL w (.slice (some ⟨q, 0, none⟩) n cap) L) (hp : 0 < L.length) : q < w.heap.size := by
  obtain ⟨⟨a, cap', e, hr⟩, _⟩ := h
  obtain ⟨q', rfl, hq, _⟩ := hr hp
  injection e with e1
  injection e1 with e1
  injection e1 with e1
  omega
structure Rk (w : World) (F : Nat → Prop) (Zm : Nat) (cs : Array Value) (c : Cf) (s : MS) : Prop where
  here : At w Zm cs 36
  rs : RS w cs c s
  out : ¬ F Zm
  row : ∀ q n cap, cs[0]? = some (.slice (some ⟨q, 0, none⟩) n cap) → 0 < s.L.length → ¬ F q ∧ q ≠ Zm ∧ q < w.heap.size
section
variable {w0 w w' : World} {F F' : Nat → Prop} {X Zm : Nat} {cs cs' : Array Value} {c : Cf} {s s' s2 s3 : MS}
theorem rk_kept (h : Rk w F Zm cs c s) (k : Kept w w') : Rk w' F Zm cs c s :=
  ⟨at_kept h.here k, rs_kept h.rs k, h.out, fun q n cap e l => ⟨(h.row q n cap e l).1, (h.row q n cap e l).2.1, Nat.lt_of_lt_of_le (h.row q n cap e l).2.2 k.2⟩⟩
theorem rk_stp (h : Rk w F Zm cs c s) (t : Whl.Stp F F' w w') : Rk w' F' Zm cs c s := by
  have new : ∀ q, ¬ F q → q < w.heap.size → ¬ F' q := fun q h1 h2 h3 => by
    rcases t.2 q h3 with z | z
    · exact h1 z
    · omega
  refine ⟨at_tn h.here t.1 h.out, ?_, new _ h.out (at_lt h.here), fun q n cap e l => ?_⟩
  · obtain ⟨v, hs, hr⟩ := h.rs
    exact ⟨v, hs, rdl_tn hr t.1 (fun q n cap e l => (h.row q n cap (by rw [hs.row, e]) l).1)⟩
  · obtain ⟨h1, h2, h3⟩ := h.row q n cap e l
    exact ⟨new _ h1 h3, h2, Nat.lt_of_lt_of_le h3 t.1.2.2.1⟩
theorem rk_ref (h : Rk w F Zm cs c s) (k : Kept w w') (hlow : ∀ k, F k → k < w.heap.size) (hr : RS w' cs' c s') (hn : RowNew w cs cs') : Rk (w'.setRow Zm cs') F Zm cs' c s' := by
  obtain ⟨v, hs, hr⟩ := hr
  have hrow : ∀ q n cap, v = .slice (some ⟨q, 0, none⟩) n cap → 0 < s'.L.length → ¬ F q ∧ q ≠ Zm := fun q n cap e l => by
    rcases hn with e2 | hn
    · obtain ⟨v2, hs2, hr2⟩ := h.rs
      rw [e2] at hs
      have e3 : v2 = v := by
        have := hs2.row
        rw [hs.row] at this
        injection this with this
        exact this.symm
      obtain ⟨_, a4, c4, e4, _⟩ := hr
      obtain ⟨_, a5, c5, e5, _⟩ := hr2
      rw [e3, e4] at e5
      injection e5 with e6 e7 e8
      obtain ⟨h1, h2, _⟩ := h.row q n cap (by rw [hs.row, e]) (by omega)
      exact ⟨h1, h2⟩
    · have h1 := hn q n cap (by rw [hs.row, e])
      exact ⟨fun hf => by have := hlow q hf; omega, fun e2 => by have := at_lt h.here; omega⟩
  have hA := at_kept h.here k
  refine ⟨at_setRow hA, ⟨v, hs, rdl_tn hr (tn_setRow (F := fun k => k = Zm) tn_refl (Or.inl rfl) cs') (fun q n cap e l => (hrow q n cap e l).2)⟩, h.out, fun q n cap e l => ?_⟩
  rw [hs.row] at e
  injection e with e
  refine ⟨(hrow q n cap e l).1, (hrow q n cap e l).2, ?_⟩
  rw [setRow_size]
  rw [e] at hr
  exact rdl_low hr l
structure Pl (w0 w : World) (F : Nat → Prop) (X Zm : Nat) (cs : Array Value) (c : Cf) (s s2 : MS) : Prop where
  st : St w F X c s
  rk : Rk w F Zm cs c s2
  low : ∀ k, F k → w0.heap.size ≤ k
  kept : Kept w0 w
  zl : w0.heap.size ≤ Zm
theorem pl_kept (h : Pl w0 w F X Zm cs c s s2) (k : Kept w w') : Pl w0 w' F X Zm cs c s s2 := ⟨st_kept h.st k, rk_kept h.rk k, h.low, kept_trans h.kept k, h.zl⟩
theorem pl_st (h : Pl w0 w F X Zm cs c s s2) (t : Whl.Stp F F' w w') (g : St w' F' X c s') : Pl w0 w' F' X Zm cs c s' s2 :=
  ⟨g, rk_stp h.rk t, fun j hj => by
    rcases t.2 j hj with z | z
    · exact h.low j z
    · exact Nat.le_trans h.kept.2 z, kept_tn h.kept h.low t.1, h.zl⟩
theorem pl_tn (h : Pl w0 w F X Zm cs c s s2) (t : Tn F w w') (g : St w' F X c s') : Pl w0 w' F X Zm cs c s' s2 := pl_st h ⟨t, fun _ hj => Or.inl hj⟩ g
theorem pl_ref (h : Pl w0 w F X Zm cs c s s2) (k : Kept w w') (hr : RS w' cs' c s3) (hn : RowNew w cs cs') : Pl w0 (w'.setRow Zm cs') F X Zm cs' c s s3 :=
  ⟨st_tn (st_kept h.st k) (tn_setRow (F := fun k => k = Zm) tn_refl (Or.inl rfl) cs') (fun j hj e => h.rk.out (e ▸ hj)), rk_ref h.rk k (st_low h.st) hr hn, h.low, kept_setRow (kept_trans h.kept k) h.zl cs', h.zl⟩
theorem pl_store (h : Pl w0 w F X Zm cs c s s2) (k : Kept w w') (hr : RS w' cs' c s3) : (storeVar 36 ⟨Zm, 0, none⟩ (.agg cs')).run Tryz.prog w' = .ok () (w'.setRow Zm cs') := by
  obtain ⟨v, hs, _⟩ := hr
  obtain ⟨v2, hs2, _⟩ := h.rk.rs
  exact store36 (at_kept h.rk.here k) hs2.size hs
theorem pl_load (h : Pl w0 w F X Zm cs c s s2) : (loadVar 36 ⟨Zm, 0, none⟩).run Tryz.prog w = .ok (.agg cs) w := by
  obtain ⟨v, hs, _⟩ := h.rk.rs
  exact load36 h.rk.here hs
/- What the last line of a round reads. -/
theorem pl_cells (h : Pl w0 w F X Zm cs c s s) {k : Nat} (hk : k < 64) : ∃ a cap, cs[0]? = some (.slice a s.L.length cap) ∧ ∀ u, Kept w u → (u.cell? ⟨Zm, 0, none⟩ = some (.slice a s.L.length cap)) ∧ (u.cell? ⟨Zm, 196, none⟩ = some (.int .i64 (s.ev : Int))) ∧ (u.cell? ⟨Zm, 1 + k * 3, none⟩ = some (.int .u64 (s.fl k).p) ∧ u.cell? ⟨Zm, 1 + k * 3 + 1, none⟩ = some (.int .u32 (s.fl k).l) ∧ u.cell? ⟨Zm, 1 + k * 3 + 2, none⟩ = some (.int .u8 (s.fl k).n)) ∧ Hid ((loadVar 36 ⟨Zm, 0, none⟩).run Tryz.prog u = .ok (.agg cs) u) := by
  obtain ⟨v, hs, hr, a, cap, rfl, _⟩ := h.rk.rs
  refine ⟨a, cap, hs.row, fun u ku => ?_⟩
  have hA := at_kept h.rk.here ku
  obtain ⟨g1, g2, g3⟩ := hs.floor k hk
  exact ⟨(at_cell hA 0).trans hs.row, (at_cell hA 196).trans hs.ev, ⟨(at_cell hA _).trans g1, (at_cell hA _).trans g2, (at_cell hA _).trans g3⟩, hid (load36 hA hs)⟩
end
theorem at_c10 {w : World} {X T : Nat} {a0 a1 a2 a3 a4 a5 a6 a7 a8 a9 : Value} (h : At w X #[a0, a1, a2, a3, a4, a5, a6, a7, a8, a9] T) : w.cell? ⟨X, 0, none⟩ = some a0 ∧ w.cell? ⟨X, 1, none⟩ = some a1 ∧ w.cell? ⟨X, 2, none⟩ = some a2 ∧ w.cell? ⟨X, 3, none⟩ = some a3 ∧ w.cell? ⟨X, 4, none⟩ = some a4 ∧ w.cell? ⟨X, 5, none⟩ = some a5 ∧ w.cell? ⟨X, 6, none⟩ = some a6 ∧ w.cell? ⟨X, 7, none⟩ = some a7 ∧ w.cell? ⟨X, 8, none⟩ = some a8 ∧ w.cell? ⟨X, 9, none⟩ = some a9 :=
  ⟨at_cell h 0, at_cell h 1, at_cell h 2, at_cell h 3, at_cell h 4, at_cell h 5, at_cell h 6, at_cell h 7, at_cell h 8, at_cell h 9⟩
theorem eq_st (a : Stp) (w : World) : (Op.equalIn 10000 33 (.agg #[.int .u64 a.p, .int .u32 a.l, .int .u8 a.n]) (.agg #[.int .u64 a.p, .int .u32 a.l, .int .u8 a.n])).run Tryz.prog w = .ok true w := by
  have := eq_stamp a a w
  have e : same a a = true := by unfold same; simp
  rw [e] at this
  exact this
theorem plays_get {s : MS} (hk : Keys s.L) (k : ByteArray) : (getS s k).ev + (getS s k).L.length = s.ev + s.L.length := by
  unfold getS
  split
  · rename_i q hq
    obtain ⟨h1, rfl⟩ := find_some hq
    have := (woK_perm hk h1).length_eq
    simp at this ⊢
    omega
  · rfl
theorem plays_purge (c : Cf) (s : MS) (now : Int) : (purgeS c s now).ev + (purgeS c s now).L.length ≤ s.ev + s.L.length := by
  have := List.length_filter_le (fun r : R => decide (now < r.s.p + (c.K : Int))) s.L
  unfold purgeS
  simp only
  omega
theorem plays_room {c : Cf} {b : Nat} (hc : c.may) (hb : b ≤ c.B) (s : MS) : (room c b s).ev + (room c b s).L.length = s.ev + s.L.length := by
  refine (room_ind (fun q => q.ev + q.L.length = s.ev + s.L.length) (fun L r f e h _ => ?_) hc hb _ s rfl rfl).1
  simp at h ⊢
  omega
theorem plays_put {c : Cf} (hc : c.may) (s : MS) (r : R) (now : Int) : (putS c s r now).ev + (putS c s r now).L.length ≤ s.ev + s.L.length + 1 := by
  unfold putS
  split
  · rename_i h
    obtain ⟨_, hb, _⟩ := putK_100 h
    have := plays_room hc hb ⟨woK s.L r.key, s.fl, s.ev⟩
    have h2 := wo_len s.L r.key
    unfold newer
    simp at this ⊢
    omega
  · omega
theorem plays_conf {n b k : Int} (h : confMay n b k) : ∃ c : Cf, c.may ∧ n = (c.n : Int) ∧ b = (c.B : Int) ∧ k = (c.K : Int) := by
  obtain ⟨⟨h1, h2⟩, ⟨h3, h4⟩, h5, h6⟩ := h
  exact ⟨⟨n.toNat, b.toNat, k.toNat⟩, ⟨by show 1 ≤ n.toNat; omega, by show n.toNat ≤ 1024; omega, by show 1 ≤ b.toNat; omega, by show b.toNat ≤ 1048576; omega, by show 1 ≤ k.toNat; omega, by show k.toNat ≤ 1000; omega⟩, by show n = (n.toNat : Int); omega, by show b = (b.toNat : Int); omega, by show k = (k.toNat : Int); omega⟩
theorem range_len {s : MS} (hk : Keys s.L) (k : Int) : (rangeL k s.L).length ≤ s.L.length := by
  rw [(range_perm hk).length_eq]
  exact List.length_filter_le _ _
end Go.Proofs.YthgbdaladngpdaaGreat
