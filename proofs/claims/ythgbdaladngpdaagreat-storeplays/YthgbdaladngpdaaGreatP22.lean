/- The reference's Put of what is new. -/
import Derived.Test.YthgbdaladngpdaaGreatP21
/- The reference's Put of what is new. -/
namespace Go.Proofs.YthgbdaladngpdaaGreat
open Go.ChangeShapes Go.WideShapes Go.ChangeAt Go.RowKit
open Go.Proofs.YthgbdaladngpdaaGreat.Whl (Tn tn_kept tn_refl tn_trans tn_set tn_alloc at_tn kept_tn It)
set_option linter.unusedVariables false
set_option linter.unusedSimpArgs false
set_option maxRecDepth 100000

set_option maxHeartbeats 12800000 in
theorem refput_new {cs : Array Value} {c : Cf} {s : MS} (hc : c.may) (hfit : Fit c s) (hl : s.L.length ≤ 1000) (hev : s.ev ≤ 900000000) (r : R) (hks : r.key.size ≤ 1000) (hbs : r.body.size ≤ 3000) (hok : r.ok) (now : Int) (w : World) (h : RS w cs c s) (hK : putK c s r now = 100) :
    Calls Tryz.prog 15 #[.agg cs, .agg #[.string r.key, .int .u64 r.s.p, .int .u32 r.s.l, .int .u8 r.s.n, .int .u8 r.kind, .int .u32 r.flags, .int .u64 r.exp, .string r.body], .int .u64 now] w (PutR c s cs r now w) := by
  have HR := hid h
  have hz := zero36
  have hsz := svn_size 0 0 0
  generalize svn 0 0 0 = zs at hz hsz
  obtain ⟨w0, hw0⟩ : ∃ w0, w.alloc (.cells cs 36) = w0 := ⟨_, rfl⟩
  obtain ⟨Z, hZ⟩ : ∃ Z, w.heap.size = Z := ⟨_, rfl⟩
  have Ka := kept_alloc (kept_refl w) (.cells cs 36)
  have Aa := at_new w cs 36
  rw [hw0] at Ka Aa
  rw [hZ] at Aa
  obtain ⟨wb, hwb⟩ : ∃ wb, w0.alloc (.cells #[.string r.key, .int .u64 r.s.p, .int .u32 r.s.l, .int .u8 r.s.n, .int .u8 r.kind, .int .u32 r.flags, .int .u64 r.exp, .string r.body] 42) = wb := ⟨_, rfl⟩
  obtain ⟨Y, hY⟩ : ∃ Y, w0.heap.size = Y := ⟨_, rfl⟩
  have Kb := kept_alloc (kept_refl w0) (.cells #[.string r.key, .int .u64 r.s.p, .int .u32 r.s.l, .int .u8 r.s.n, .int .u8 r.kind, .int .u32 r.flags, .int .u64 r.exp, .string r.body] 42)
  have Ab := at_new w0 #[.string r.key, .int .u64 r.s.p, .int .u32 r.s.l, .int .u8 r.s.n, .int .u8 r.kind, .int .u32 r.flags, .int .u64 r.exp, .string r.body] 42
  rw [hwb] at Kb Ab
  rw [hY] at Ab
  obtain ⟨w1, hw1⟩ : ∃ w1, wb.alloc (.cells zs 36) = w1 := ⟨_, rfl⟩
  obtain ⟨Zr, hZr⟩ : ∃ Zr, wb.heap.size = Zr := ⟨_, rfl⟩
  have Kc := kept_alloc (kept_refl wb) (.cells zs 36)
  have Ac := at_new wb zs 36
  rw [hw1] at Kc Ac
  rw [hZr] at Ac
  have hY6 : Y = Z + 1 := by rw [← hY, ← hw0, ← hZ]; simp
  have hZr6 : Zr = Z + 2 := by rw [← hZr, ← hwb, ← hw0, ← hZ]; simp
  have hW6 : w1.heap.size = Z + 3 := by rw [← hw1, ← hwb, ← hw0, ← hZ]; simp
  have HK := hid (kept_trans (kept_trans Ka Kb) Kc)
  have HA0 := hid (at_kept (at_kept Aa Kb) Kc)
  have HA1 := hid (at_kept Ab Kc)
  have HA2 := hid Ac
  have HG := hid (And.intro hZ (And.intro hY6 (And.intro hZr6 hW6)))
  have HRs := hid (rs_kept h HK.out)
  have HZs := hid hsz
  obtain ⟨v, hs, hr, a, cap, rfl, hc1, hc2⟩ := h
  have HS := hid hs
  have HL : Hid (RdL w (.slice a s.L.length cap) s.L) := hid ⟨hr, a, cap, rfl, hc1, hc2⟩
  have HKs := hid hfit.keys
  have HFit := hid hfit
  have Hc := hid hc
  have HPK := hid hK
  have Hks : Hid (r.key.size ≤ maxLen) := hid (by unfold maxLen; omega)
  have Hbs : Hid (r.body.size ≤ maxLen) := hid (by unfold maxLen; omega)
  have hN4 : c.n ≤ 1024 := hc.2.1
  have hB4 : c.B ≤ 1048576 := hc.2.2.2.1
  have hK4 : c.K ≤ 1000 := hc.2.2.2.2.2
  have HLd1 := hid (load42 HA1.out rfl)
  have hp0 := hok.2.1.1
  clear Ka Aa Kb Ab Kc Ac hY6 hZr6 hW6 hs hr hc1 hc2 hsz hfit hc hK
  go_enter Tryz.func15, Tryz.ntmps15
  go_wp2_with (refine wpList_load42 rfl _ rfl Y rfl #[.string r.key, .int .u64 r.s.p, .int .u32 r.s.l, .int .u8 r.s.n, .int .u8 r.kind, .int .u32 r.flags, .int .u64 r.exp, .string r.body] HLd1.out ?_)
  clear hw0 hwb hw1 hZ hY hZr hz HLd1
  refine (refMay_any r hok w1).mono ?_
  rintro e w2 ⟨rfl, k2⟩
  have HK2 := hid k2
  have HA02 := hid (at_kept HA0.out k2)
  have HA12 := hid (at_kept HA1.out k2)
  clear k2
  cases hm : mayR r with
  | false =>
    exact absurd (HPK.out.symm.trans ((pk_may hm))) (by decide)
  | true =>
    have hp1 := may_p hm
    have Hm := hid hm
    have hwr : IntKind.u64.wrap (r.s.p + (c.K : Int)) = r.s.p + (c.K : Int) := by rw [IntKind.wrap_u64]; omega
    obtain ⟨y0, y1, y2, y3, y4, y5, y6, y7⟩ := at_cells8' HA12.out
    have cK := (at_cell HA02.out 195).trans HS.out.K
    by_cases ho : r.s.p + (c.K : Int) ≤ now
    · have hd : decide (r.s.p + (c.K : Int) ≤ now) = true := decide_eq_true ho
      have Ho := hid ho
      clear ho hp1
      exact absurd (HPK.out.symm.trans ((pk_old Hm.out Ho.out))) (by decide)
    · have hd : decide (r.s.p + (c.K : Int) ≤ now) = false := decide_eq_false ho
      have Ho : Hid (now < r.s.p + (c.K : Int)) := hid (by omega)
      clear ho hp1
      have HLd2 := hid (load36 HA02.out HS.out)
      go_wp2_with (refine wpList_load36 rfl _ rfl Z rfl cs HLd2.out ?_)
      refine (refat_any (by omega) r.key w2 (rs_kept HRs.out HK2.out)).mono ?_
      rintro e w3 ⟨z, rfl, k3, hat⟩
      have HK3 := hid (kept_trans HK2.out k3)
      clear k3 HLd2 y0 y1 y2 y3 y4 y5 y6 y7 cK hwr hd hm HA02 HA12
      have HA03 := hid (at_kept HA0.out HK3.out)
      have HA13 := hid (at_kept HA1.out HK3.out)
      have hlen : (r.key.size : Int) + (r.body.size : Int) = (lenR r : Int) := by unfold lenR; omega
      have HLn : Hid (lenR r = lenR r) := hid rfl
      have hln4 : lenR r ≤ 4000 := by unfold lenR; omega
      generalize hb : lenR r = b at hlen hln4
      have Hb := hid hb
      clear hb HLn
      rcases hat with ⟨rfl, hf⟩ | ⟨j, rfl, hj, q, hr, hrk⟩
      · have Hf := hid hf
        clear hf
        obtain ⟨k, hk⟩ : ∃ k, rg r.key = k := ⟨_, rfl⟩
        have hk64 : k < 64 := by rw [← hk]; exact rg_lt _
        obtain ⟨fq, hfq⟩ : ∃ fq, s.fl k = fq := ⟨_, rfl⟩
        have HRg : Hid (rg r.key = k ∧ s.fl k = fq) := hid ⟨hk, hfq⟩
        have hRg := refrange_any r.key Hks.out
        rw [hk] at hRg
        have HS1 : Hid (∀ u, Kept w3 u → (u.cell? ⟨Z, 1 + k * 3, none⟩ = some (.int .u64 fq.p) ∧ u.cell? ⟨Z, 1 + k * 3 + 1, none⟩ = some (.int .u32 fq.l) ∧ u.cell? ⟨Z, 1 + k * 3 + 2, none⟩ = some (.int .u8 fq.n)) ∧ (u.cell? ⟨Y, 0, none⟩ = some (.string r.key) ∧ u.cell? ⟨Y, 1, none⟩ = some (.int .u64 r.s.p) ∧ u.cell? ⟨Y, 2, none⟩ = some (.int .u32 r.s.l) ∧ u.cell? ⟨Y, 3, none⟩ = some (.int .u8 r.s.n) ∧ u.cell? ⟨Y, 4, none⟩ = some (.int .u8 r.kind) ∧ u.cell? ⟨Y, 5, none⟩ = some (.int .u32 r.flags) ∧ u.cell? ⟨Y, 6, none⟩ = some (.int .u64 r.exp) ∧ u.cell? ⟨Y, 7, none⟩ = some (.string r.body))) := hid (fun u ku => ⟨by
          obtain ⟨g1, g2, g3⟩ := HS.out.floor k hk64
          rw [hfq] at g1 g2 g3
          exact ⟨(at_cell (at_kept HA03.out ku) _).trans g1, (at_cell (at_kept HA03.out ku) _).trans g2, (at_cell (at_kept HA03.out ku) _).trans g3⟩, at_cells8' (at_kept HA13.out ku)⟩)
        clear hk hfq
        have hidx := idxF Z k (by omega)
        clear hk64
        have k0 : Kept w3 w3.drew := kept_refl w3
        have hlt : lt fq r.s = true := by
          cases e : lt fq r.s with
          | true => rfl
          | false => exact absurd (HPK.out.symm.trans (show putK c s r now = 8 by rw [pk_none Hm.out Ho.out Hf.out, HRg.out.1, HRg.out.2, e]; rfl)) (by decide)
        have hB : b ≤ c.B := Nat.le_of_not_lt fun hB => absurd (HPK.out.symm.trans (show putK c s r now = 6 by rw [pk_none Hm.out Ho.out Hf.out, HRg.out.1, HRg.out.2, hlt, if_pos rfl, Hb.out, if_pos hB])) (by decide)
        go_wp2_with fail
        refine wp_region_noPanic ?_
        refine wp_region_held_drew (S := (fun w' => (w'.cell? ⟨Z, 1 + k * 3, none⟩ = some (.int .u64 fq.p) ∧ w'.cell? ⟨Z, 1 + k * 3 + 1, none⟩ = some (.int .u32 fq.l) ∧ w'.cell? ⟨Z, 1 + k * 3 + 2, none⟩ = some (.int .u8 fq.n)) ∧ (w'.cell? ⟨Y, 0, none⟩ = some (.string r.key) ∧ w'.cell? ⟨Y, 1, none⟩ = some (.int .u64 r.s.p) ∧ w'.cell? ⟨Y, 2, none⟩ = some (.int .u32 r.s.l) ∧ w'.cell? ⟨Y, 3, none⟩ = some (.int .u8 r.s.n) ∧ w'.cell? ⟨Y, 4, none⟩ = some (.int .u8 r.kind) ∧ w'.cell? ⟨Y, 5, none⟩ = some (.int .u32 r.flags) ∧ w'.cell? ⟨Y, 6, none⟩ = some (.int .u64 r.exp) ∧ w'.cell? ⟨Y, 7, none⟩ = some (.string r.body)))) (by kernel_rfl) (HS1.out _ k0) (fun hHeld => ?_)
        generalize w3.drew = wq at *
        refine wpAnyH_take (i := 0) (v := .pointer (some ⟨Y, 0, none⟩)) rfl (by kernel_rfl) (by kernel_rfl) (by kernel_rfl) (fun _ _ _ h => h) (Or.inl ⟨by rfl, fun w hSw => by (try dsimp only at hSw); go_simp⟩) (by assumption) ?_
        try simp only [List.getElem_toArray, List.getElem_cons_zero, List.getElem_cons_succ, Act.put, List.setIfInBounds_toArray, List.set_cons_zero, List.set_cons_succ]
        refine wpAnyH_take (i := 1) (v := .string r.key) rfl (by kernel_rfl) (by kernel_rfl) (by kernel_rfl) (fun _ _ _ h => h) (Or.inl ⟨by rfl, fun w hSw => by (try dsimp only at hSw); go_simp⟩) (by assumption) ?_
        try simp only [List.getElem_toArray, List.getElem_cons_zero, List.getElem_cons_succ, Act.put, List.setIfInBounds_toArray, List.set_cons_zero, List.set_cons_succ]
        refine wpAnyH_take (i := 3) (v := .pointer (some ⟨Z, 1, none⟩)) rfl (by kernel_rfl) (by kernel_rfl) (by kernel_rfl) (fun _ _ _ h => h) (Or.inl ⟨by rfl, fun w hSw => by (try dsimp only at hSw); go_simp⟩) (by assumption) ?_
        try simp only [List.getElem_toArray, List.getElem_cons_zero, List.getElem_cons_succ, Act.put, List.setIfInBounds_toArray, List.set_cons_zero, List.set_cons_succ]
        refine wpAnyH_take (i := 6) (v := .pointer (some ⟨Y, 1, none⟩)) rfl (by kernel_rfl) (by kernel_rfl) (by kernel_rfl) (fun _ _ _ h => h) (Or.inl ⟨by rfl, fun w hSw => by (try dsimp only at hSw); go_simp⟩) (by assumption) ?_
        try simp only [List.getElem_toArray, List.getElem_cons_zero, List.getElem_cons_succ, Act.put, List.setIfInBounds_toArray, List.set_cons_zero, List.set_cons_succ]
        refine wpAnyH_take (i := 7) (v := .agg #[.int .u64 r.s.p, .int .u32 r.s.l, .int .u8 r.s.n]) rfl (by kernel_rfl) (by kernel_rfl) (by kernel_rfl) (fun _ _ _ h => h) (Or.inl ⟨by rfl, fun w hSw => by (try dsimp only at hSw); go_simp⟩) (by assumption) ?_
        try simp only [List.getElem_toArray, List.getElem_cons_zero, List.getElem_cons_succ, Act.put, List.setIfInBounds_toArray, List.set_cons_zero, List.set_cons_succ]
        refine wpAnyH_ready (rs := [2]) (by kernel_rfl) (by simp) ?_
        refine AllReadyH.cons (i := 2) rfl (fun K hK => ?_) AllReadyH.nil
        go_simp
        refine (hRg _).mono ?_
        rintro e w3 ⟨rfl, rfl⟩
        clear hHeld
        show K _ _
        refine hK.out _ _ (HS1.out _ k0) (fun hHeld => ?_)
        clear hK K
        try simp only [List.getElem_toArray, List.getElem_cons_zero, List.getElem_cons_succ, Act.put, List.setIfInBounds_toArray, List.set_cons_zero, List.set_cons_succ]
        refine wpAnyH_take (i := 4) (v := .pointer (some ⟨Z, 1 + k * 3, none⟩)) rfl (by kernel_rfl) (by kernel_rfl) (by kernel_rfl) (fun _ _ _ h => h) (Or.inl ⟨by rfl, fun w hSw => by (try dsimp only at hSw); go_simp⟩) (by assumption) ?_
        try simp only [List.getElem_toArray, List.getElem_cons_zero, List.getElem_cons_succ, Act.put, List.setIfInBounds_toArray, List.set_cons_zero, List.set_cons_succ]
        refine wpAnyH_take (i := 5) (v := .agg #[.int .u64 fq.p, .int .u32 fq.l, .int .u8 fq.n]) rfl (by kernel_rfl) (by kernel_rfl) (by kernel_rfl) (fun _ _ _ h => h) (Or.inl ⟨by rfl, fun w hSw => by (try dsimp only at hSw); go_simp⟩) (by assumption) ?_
        try simp only [List.getElem_toArray, List.getElem_cons_zero, List.getElem_cons_succ, Act.put, List.setIfInBounds_toArray, List.set_cons_zero, List.set_cons_succ]
        refine wpAnyH_ready (rs := [8]) (by kernel_rfl) (by simp) ?_
        refine AllReadyH.cons (i := 8) rfl (fun K hK => ?_) AllReadyH.nil
        go_simp
        refine (less_any fq r.s _).mono ?_
        rintro e w5 ⟨rfl, h3⟩
        replace k0 := kept_trans k0 h3
        clear h3
        clear hHeld
        show K _ _
        refine hK.out _ _ (HS1.out _ k0) (fun hHeld => ?_)
        clear hK K
        try simp only [List.getElem_toArray, List.getElem_cons_zero, List.getElem_cons_succ, Act.put, List.setIfInBounds_toArray, List.set_cons_zero, List.set_cons_succ]
        refine wpAnyH_take (i := 9) (v := .bool false) rfl (by kernel_rfl) (by kernel_rfl) (by kernel_rfl) (fun _ _ _ h => h) (Or.inl ⟨by rfl, fun w hSw => by (try dsimp only at hSw); go_simp⟩) (by assumption) ?_
        try simp only [List.getElem_toArray, List.getElem_cons_zero, List.getElem_cons_succ, Act.put, List.setIfInBounds_toArray, List.set_cons_zero, List.set_cons_succ]
        refine wpAnyH_done (by kernel_rfl) ?_ _
        refine NoPanic.normal ?_
        clear hHeld
        have HKa := hid (kept_trans HK3.out k0)
        have HAa := hid (at_kept HA0.out HKa.out)
        have HYa := hid (at_kept HA1.out HKa.out)
        have HM : Hid (s.L = woK s.L r.key) := hid (wo_none (find_none.1 Hf.out)).symm
        have HRa : Hid (∀ u, Tn (fun k => k = Z) w5 u → RdL u (.slice a s.L.length cap) s.L) := hid (fun u t => rdl_kept HL.out (kept_tn (kept_trans HK.out HKa.out) (fun k hk => by rw [hk, HG.out.1]; exact Nat.le_refl _) t))
        clear k0 HS1 hidx hRg hlt
        obtain ⟨y0, y1, y2, y3, y4, y5, y6, y7⟩ := at_cells8' HYa.out
        have cB := (at_cell HAa.out 194).trans HS.out.B
        have hgB : decide ((c.B : Int) < (b : Int)) = false := decide_eq_false (by omega)
        have hgB2 : decide (c.B < b) = false := decide_eq_false (by omega)
        have HSa := hid HS.out
        obtain ⟨M, hM⟩ : ∃ M, s.L = M := ⟨_, rfl⟩
        rw [hM] at HRa HSa
        have HMm : Hid (M = woK s.L r.key) := hid (by rw [← HM.out, hM])
        clear hM
        go_wp2_with fail
        clear y0 y1 y2 y3 y4 y5 y6 y7 cB hgB hgB2
        have HKa0 := hid (kept_trans HK.out HKa.out)
        have HZa := hid (at_kept HA2.out HKa.out)
        clear HKa
        obtain ⟨N1, hN1⟩ : ∃ N1, M.length = N1 := ⟨_, rfl⟩
        rw [hN1] at HSa HRa
        have HN1 := hid hN1
        have hNb : N1 ≤ 1000 := by
          have h1 := wo_len s.L r.key
          rw [← HMm.out] at h1
          omega
        have HMs : Hid (∀ n, sizeL (M.take n) ≤ 1048576) := hid (fun n => by
          have h1 := wo_size s.L r.key
          rw [← HMm.out] at h1
          have h2 := HFit.out.size
          have h3 := size_le M n
          omega)
        have HMy : Hid (∀ x ∈ M, mayR x = true) := hid (fun x hx => by
          rw [HMm.out] at hx
          exact HFit.out.may x (woK_mem.1 hx).1)
        clear hN1
        obtain ⟨A, hA⟩ : ∃ A : Option Addr, a = A := ⟨_, rfl⟩
        rw [hA] at HSa HRa
        clear hA
        go_loopw [11, 12] (fun _ _ wr => ∃ (n ev : Nat) (f : Nat → Stp) (cr : Array Value), n ≤ N1 ∧ ev + n ≤ 900001000 ∧ Hid (At wr Z cr 36) ∧ Hid (Sv cr (.slice A n cap) f c ev) ∧ Hid (Tn (fun k => k = Z) w5 wr) ∧ Hid (room c b ⟨M.take n, f, ev⟩ = room c b ⟨M, s.fl, s.ev⟩)) (fun _ _ wr => rowLen wr Z)
        case atStart => exact ⟨N1, s.ev, s.fl, cs, Nat.le_refl _, by omega, HAa, HSa, hid tn_refl, hid (by rw [← HN1.out, List.take_length])⟩
        case round =>
          obtain ⟨n, ev, f, cr, hn, hevn, HAr, HSr, HTr, HRoom⟩ := hrel
          obtain ⟨b0, bn, bB⟩ : cr[0]? = some (.slice A n cap) ∧ cr[193]? = some (.int .i64 (c.n : Int)) ∧ cr[194]? = some (.int .i64 (c.B : Int)) := ⟨HSr.out.row, HSr.out.n, HSr.out.B⟩
          have HS1 : Hid (∀ u, Kept wr u → (u.cell? ⟨Z, 0, none⟩ = some (.slice A n cap)) ∧ (u.cell? ⟨Z, 193, none⟩ = some (.int .i64 (c.n : Int))) ∧ (u.cell? ⟨Z, 194, none⟩ = some (.int .i64 (c.B : Int))) ∧ Hid (At u Z cr 36)) := hid (fun u ku => ⟨(at_cell (at_kept HAr.out ku) 0).trans b0, (at_cell (at_kept HAr.out ku) 193).trans bn, (at_cell (at_kept HAr.out ku) 194).trans bB, hid (at_kept HAr.out ku)⟩)
          have HLen : Hid (rowLen wr Z = n) := hid (rowLen_at (HS1.out wr (kept_refl wr)).1)
          clear b0 bn bB
          have k0 : Kept wr wr.drew := kept_refl wr
          have hnb : n ≤ 1000 := by omega
          by_cases hn0 : n = 0
          · have hg : decide ((0 : Int) < (n : Int)) = false := decide_eq_false (by omega)
            have HOv : Hid (¬ over c b (M.take n)) := hid (by rw [hn0, List.take_zero]; exact over_none Hc.out (by omega))
            go_wp2_with fail
            refine wp_region_noPanic ?_
            refine wp_region_held_drew (S := (fun w' => (w'.cell? ⟨Z, 0, none⟩ = some (.slice A n cap)) ∧ (w'.cell? ⟨Z, 193, none⟩ = some (.int .i64 (c.n : Int))) ∧ (w'.cell? ⟨Z, 194, none⟩ = some (.int .i64 (c.B : Int))) ∧ (Hid (At w' Z cr 36)))) (by kernel_rfl) (HS1.out _ k0) (fun hHeld => ?_)
            generalize wr.drew = wq at *
            refine wpAnyH_take (i := 0) (v := .pointer (some ⟨Z, 0, none⟩)) rfl (by kernel_rfl) (by kernel_rfl) (by kernel_rfl) (fun _ _ _ h => h) (Or.inl ⟨by rfl, fun w hSw => by (try dsimp only at hSw); go_simp⟩) (by assumption) ?_
            try simp only [List.getElem_toArray, List.getElem_cons_zero, List.getElem_cons_succ, Act.put, List.setIfInBounds_toArray, List.set_cons_zero, List.set_cons_succ]
            refine wpAnyH_take (i := 1) (v := .slice A n cap) rfl (by kernel_rfl) (by kernel_rfl) (by kernel_rfl) (fun _ _ _ h => h) (Or.inl ⟨by rfl, fun w hSw => by (try dsimp only at hSw); go_simp⟩) (by assumption) ?_
            try simp only [List.getElem_toArray, List.getElem_cons_zero, List.getElem_cons_succ, Act.put, List.setIfInBounds_toArray, List.set_cons_zero, List.set_cons_succ]
            refine wpAnyH_take (i := 2) (v := .int .i64 (n : Int)) rfl (by kernel_rfl) (by kernel_rfl) (by kernel_rfl) (fun _ _ _ h => h) (Or.inl ⟨by rfl, fun w hSw => by (try dsimp only at hSw); go_simp⟩) (by assumption) ?_
            try simp only [List.getElem_toArray, List.getElem_cons_zero, List.getElem_cons_succ, Act.put, List.setIfInBounds_toArray, List.set_cons_zero, List.set_cons_succ]
            refine wpAnyH_take (i := 3) (v := .bool false) rfl (by kernel_rfl) (by kernel_rfl) (by kernel_rfl) (fun _ _ _ h => h) (Or.inl ⟨by rfl, fun w hSw => by (try dsimp only at hSw); go_simp⟩) (by assumption) ?_
            try simp only [List.getElem_toArray, List.getElem_cons_zero, List.getElem_cons_succ, Act.put, List.setIfInBounds_toArray, List.set_cons_zero, List.set_cons_succ]
            refine wpAnyH_take (i := 4) (v := .bool false) rfl (by kernel_rfl) (by kernel_rfl) (by kernel_rfl) (fun _ _ _ h => h) (Or.inl ⟨by rfl, fun w hSw => by (try dsimp only at hSw); go_simp⟩) (by assumption) ?_
            try simp only [List.getElem_toArray, List.getElem_cons_zero, List.getElem_cons_succ, Act.put, List.setIfInBounds_toArray, List.set_cons_zero, List.set_cons_succ]
            refine wpAnyH_take (i := 5) (v := undef) rfl (by kernel_rfl) (by kernel_rfl) (by kernel_rfl) (fun _ _ _ h => h) (Or.inr ⟨by rfl, rfl⟩) (by assumption) ?_
            try simp only [List.getElem_toArray, List.getElem_cons_zero, List.getElem_cons_succ, Act.put, List.setIfInBounds_toArray, List.set_cons_zero, List.set_cons_succ]
            refine wpAnyH_take (i := 6) (v := undef) rfl (by kernel_rfl) (by kernel_rfl) (by kernel_rfl) (fun _ _ _ h => h) (Or.inr ⟨by rfl, rfl⟩) (by assumption) ?_
            try simp only [List.getElem_toArray, List.getElem_cons_zero, List.getElem_cons_succ, Act.put, List.setIfInBounds_toArray, List.set_cons_zero, List.set_cons_succ]
            refine wpAnyH_take (i := 7) (v := undef) rfl (by kernel_rfl) (by kernel_rfl) (by kernel_rfl) (fun _ _ _ h => h) (Or.inr ⟨by rfl, rfl⟩) (by assumption) ?_
            try simp only [List.getElem_toArray, List.getElem_cons_zero, List.getElem_cons_succ, Act.put, List.setIfInBounds_toArray, List.set_cons_zero, List.set_cons_succ]
            refine wpAnyH_take (i := 8) (v := undef) rfl (by kernel_rfl) (by kernel_rfl) (by kernel_rfl) (fun _ _ _ h => h) (Or.inr ⟨by rfl, rfl⟩) (by assumption) ?_
            try simp only [List.getElem_toArray, List.getElem_cons_zero, List.getElem_cons_succ, Act.put, List.setIfInBounds_toArray, List.set_cons_zero, List.set_cons_succ]
            refine wpAnyH_take (i := 9) (v := undef) rfl (by kernel_rfl) (by kernel_rfl) (by kernel_rfl) (fun _ _ _ h => h) (Or.inr ⟨by rfl, rfl⟩) (by assumption) ?_
            try simp only [List.getElem_toArray, List.getElem_cons_zero, List.getElem_cons_succ, Act.put, List.setIfInBounds_toArray, List.set_cons_zero, List.set_cons_succ]
            refine wpAnyH_take (i := 10) (v := undef) rfl (by kernel_rfl) (by kernel_rfl) (by kernel_rfl) (fun _ _ _ h => h) (Or.inr ⟨by rfl, rfl⟩) (by assumption) ?_
            try simp only [List.getElem_toArray, List.getElem_cons_zero, List.getElem_cons_succ, Act.put, List.setIfInBounds_toArray, List.set_cons_zero, List.set_cons_succ]
            refine wpAnyH_take (i := 11) (v := undef) rfl (by kernel_rfl) (by kernel_rfl) (by kernel_rfl) (fun _ _ _ h => h) (Or.inr ⟨by rfl, rfl⟩) (by assumption) ?_
            try simp only [List.getElem_toArray, List.getElem_cons_zero, List.getElem_cons_succ, Act.put, List.setIfInBounds_toArray, List.set_cons_zero, List.set_cons_succ]
            refine wpAnyH_take (i := 12) (v := undef) rfl (by kernel_rfl) (by kernel_rfl) (by kernel_rfl) (fun _ _ _ h => h) (Or.inr ⟨by rfl, rfl⟩) (by assumption) ?_
            try simp only [List.getElem_toArray, List.getElem_cons_zero, List.getElem_cons_succ, Act.put, List.setIfInBounds_toArray, List.set_cons_zero, List.set_cons_succ]
            refine wpAnyH_take (i := 13) (v := undef) rfl (by kernel_rfl) (by kernel_rfl) (by kernel_rfl) (fun _ _ _ h => h) (Or.inr ⟨by rfl, rfl⟩) (by assumption) ?_
            try simp only [List.getElem_toArray, List.getElem_cons_zero, List.getElem_cons_succ, Act.put, List.setIfInBounds_toArray, List.set_cons_zero, List.set_cons_succ]
            refine wpAnyH_take (i := 14) (v := undef) rfl (by kernel_rfl) (by kernel_rfl) (by kernel_rfl) (fun _ _ _ h => h) (Or.inr ⟨by rfl, rfl⟩) (by assumption) ?_
            try simp only [List.getElem_toArray, List.getElem_cons_zero, List.getElem_cons_succ, Act.put, List.setIfInBounds_toArray, List.set_cons_zero, List.set_cons_succ]
            refine wpAnyH_take (i := 15) (v := undef) rfl (by kernel_rfl) (by kernel_rfl) (by kernel_rfl) (fun _ _ _ h => h) (Or.inr ⟨by rfl, rfl⟩) (by assumption) ?_
            try simp only [List.getElem_toArray, List.getElem_cons_zero, List.getElem_cons_succ, Act.put, List.setIfInBounds_toArray, List.set_cons_zero, List.set_cons_succ]
            refine wpAnyH_take (i := 16) (v := undef) rfl (by kernel_rfl) (by kernel_rfl) (by kernel_rfl) (fun _ _ _ h => h) (Or.inr ⟨by rfl, rfl⟩) (by assumption) ?_
            try simp only [List.getElem_toArray, List.getElem_cons_zero, List.getElem_cons_succ, Act.put, List.setIfInBounds_toArray, List.set_cons_zero, List.set_cons_succ]
            refine wpAnyH_take (i := 17) (v := undef) rfl (by kernel_rfl) (by kernel_rfl) (by kernel_rfl) (fun _ _ _ h => h) (Or.inr ⟨by rfl, rfl⟩) (by assumption) ?_
            try simp only [List.getElem_toArray, List.getElem_cons_zero, List.getElem_cons_succ, Act.put, List.setIfInBounds_toArray, List.set_cons_zero, List.set_cons_succ]
            refine wpAnyH_take (i := 18) (v := undef) rfl (by kernel_rfl) (by kernel_rfl) (by kernel_rfl) (fun _ _ _ h => h) (Or.inr ⟨by rfl, rfl⟩) (by assumption) ?_
            try simp only [List.getElem_toArray, List.getElem_cons_zero, List.getElem_cons_succ, Act.put, List.setIfInBounds_toArray, List.set_cons_zero, List.set_cons_succ]
            refine wpAnyH_take (i := 19) (v := undef) rfl (by kernel_rfl) (by kernel_rfl) (by kernel_rfl) (fun _ _ _ h => h) (Or.inr ⟨by rfl, rfl⟩) (by assumption) ?_
            try simp only [List.getElem_toArray, List.getElem_cons_zero, List.getElem_cons_succ, Act.put, List.setIfInBounds_toArray, List.set_cons_zero, List.set_cons_succ]
            refine wpAnyH_take (i := 20) (v := .bool false) rfl (by kernel_rfl) (by kernel_rfl) (by kernel_rfl) (fun _ _ _ h => h) (Or.inl ⟨by rfl, fun w hSw => by (try dsimp only at hSw); go_simp⟩) (by assumption) ?_
            try simp only [List.getElem_toArray, List.getElem_cons_zero, List.getElem_cons_succ, Act.put, List.setIfInBounds_toArray, List.set_cons_zero, List.set_cons_succ]
            refine wpAnyH_done (by kernel_rfl) ?_ _
            refine NoPanic.normal ?_
            clear hHeld
            clear hg hn0
            have HTx := hid (tn_trans HTr.out (tn_kept k0))
            have HAx := hid (at_kept HAr.out k0)
            have HKx := hid (kept_tn HKa0.out (F := fun k => k = Z) (fun k hk => by rw [hk, HG.out.1]; exact Nat.le_refl _) HTx.out)
            have HYx := hid (at_tn HYa.out HTx.out (by have := HG.out; omega))
            have HZx := hid (at_tn HZa.out HTx.out (by have := HG.out; omega))
            clear k0 HS1
            have HRoom2 : Hid (room c (lenR r) ⟨woK s.L r.key, s.fl, s.ev⟩ = ⟨M.take n, f, ev⟩) := hid (by
              rw [Hb.out, ← HMm.out, ← HRoom.out]
              exact room_stop HOv.out)
            have HNew : Hid (putS c s r now = ⟨r :: M.take n, f, ev⟩ ∧ putB c s r now = true ∧ putE c s r now = 0) := hid (by
              obtain ⟨h1, h2, h3⟩ := put_100 HPK.out
              refine ⟨?_, h1, h2⟩
              rw [h3]
              unfold newer
              rw [HRoom2.out])
            have HLdY := hid (load42 HYx.out rfl)
            obtain ⟨w4, hw4⟩ : ∃ w4, wq.alloc (.cells #[.string r.key, .int .u64 r.s.p, .int .u32 r.s.l, .int .u8 r.s.n, .int .u8 r.kind, .int .u32 r.flags, .int .u64 r.exp, .string r.body] 42) = w4 := ⟨_, rfl⟩
            obtain ⟨G, hG⟩ : ∃ G, wq.heap.size = G := ⟨_, rfl⟩
            have K4 := kept_alloc (kept_refl wq) (.cells #[.string r.key, .int .u64 r.s.p, .int .u32 r.s.l, .int .u8 r.s.n, .int .u8 r.kind, .int .u32 r.flags, .int .u64 r.exp, .string r.body] 42)
            have A4 := at_new wq #[.string r.key, .int .u64 r.s.p, .int .u32 r.s.l, .int .u8 r.s.n, .int .u8 r.kind, .int .u32 r.flags, .int .u64 r.exp, .string r.body] 42
            rw [hw4] at K4 A4
            rw [hG] at A4
            have HGx : Hid (Z < G ∧ Zr < G ∧ Y < G) := hid (by
              have h1 := at_lt HAx.out
              have h2 := at_lt HZx.out
              have h3 := at_lt HYx.out
              omega)
            have HO4 := hid (own_one (B := G) A4 (Nat.le_refl _))
            have HS4 := hid (src_rdr (rdl_take (HRa.out _ (tn_trans HTx.out (tn_kept K4))) hn).1)
            have HB4 : Hid (G ≤ w4.heap.size) := hid (by rw [← hG]; exact K4.2)
            have HGl : Hid (wq.heap.size ≤ G) := hid (Nat.le_of_eq hG)
            have Hl4 : Hid ([r].length + (M.take n).length ≤ 4096) := hid (by have := HN1.out; simp; omega)
            have HK4 := hid K4
            have c4 := (at_cell (at_kept HAx.out K4) 0).trans HSr.out.row
            clear A4 K4 HOv
            go_wp2_with (first | (refine wpList_load42 rfl _ rfl Y rfl #[.string r.key, .int .u64 r.s.p, .int .u32 r.s.l, .int .u8 r.s.n, .int .u8 r.kind, .int .u32 r.flags, .int .u64 r.exp, .string r.body] HLdY.out ?_) | (at_builtin; refine wpList_app rfl _ _ rfl G _ _ [r] (M.take n) rfl HO4.out rfl HS4.out Hl4.out HB4.out ?_; intro v5 w5 hown hgrow; obtain ⟨g5, n5, p5, rfl, H5⟩ := own_as hown; have HK5 := hid (kept_own HO4.out HK4.out HGl.out hgrow); have HO5 := hid hown; clear hown hgrow; obtain ⟨c5, f5⟩ : (w5.cell? ⟨Z, 0, none⟩ = some (.slice A n cap)) ∧ ∀ o, w5.frozen? ⟨Z, o, none⟩ = false := ⟨(at_cell (at_kept HAx.out HK5.out) 0).trans HSr.out.row, at_frozen (at_kept HAx.out HK5.out)⟩; obtain ⟨w8, hw8⟩ : ∃ w8, w5.setCell ⟨Z, 0, none⟩ (.slice (some ⟨g5, 0, none⟩) n5 p5) = w8 := ⟨_, rfl⟩))
            have HT8 : Hid (Tn (fun k => k = Z) w5 w8) := hid (by rw [← hw8]; exact tn_set (F := fun k => k = Z) tn_refl (.inl rfl) _ _)
            obtain ⟨c8, hc8⟩ : ∃ c8, cr.setIfInBounds 0 (.slice (some ⟨g5, 0, none⟩) n5 p5) = c8 := ⟨_, rfl⟩
            have HS8 := hid (sv_row HSr.out (.slice (some ⟨g5, 0, none⟩) n5 p5) rfl)
            rw [hc8] at HS8
            have A8 : At w8 Z c8 36 := by rw [← hw8, ← hc8]; exact at_set (at_kept HAx.out HK5.out) 0 _
            have K8 : Kept w w8 := kept_tn (kept_trans HKx.out HK5.out) (F := fun k => k = Z) (fun k hk => by rw [hk, HG.out.1]; exact Nat.le_refl _) HT8.out
            have B8 : At w8 Zr zs 36 := at_tn (at_kept HZx.out HK5.out) HT8.out (by have := HG.out; omega)
            have HF := hid (ret_facts K8 A8 B8 HZs.out HS8.out (by have := HG.out; omega) (by have := HG.out; omega))
            have HO8 : Hid (Own (w8.drew.setRow Zr c8) G (.slice (some ⟨g5, 0, none⟩) n5 p5) ([r] ++ M.take n)) := hid (own_tnL (F := fun k => k = Z ∨ k = Zr) HO5.out (tn_setRow (F := fun k => k = Z ∨ k = Zr) (tn_drew (tn_mono HT8.out (fun k hk => Or.inl hk))) (Or.inl (Or.inr rfl)) _) (fun k hk => by have := HGx.out; omega))
            have HEnd : Hid (PutR c s cs r now w (.returned (.tuple #[.bool true, .int .i64 0, .agg c8])) (w8.drew.setRow Zr c8)) := hid ⟨c8, by rw [HNew.out.2.1, HNew.out.2.2], HF.out.2.2.2.1, by rw [HNew.out.1]; exact ⟨_, HS8.out, rdl_own HO8.out⟩, row_new HS8.out HO8.out (by have := HGx.out; have := HG.out; omega)⟩
            clear A8 K8 B8 hc8 c5 f5 hw8 hw4 c4 hG
            go_wp2_with fail
            refine wp_region_noPanic ?_
            refine wp_region_held_drew (S := (fun w' => At w' Z c8 36)) (by kernel_rfl) (HF.out.2.2.2.2) (fun hHeld => ?_)
            generalize w8.drew = wq3 at *
            refine wpAnyH_take (i := 0) (v := .agg c8) rfl (by kernel_rfl) (by kernel_rfl) (by kernel_rfl) (fun _ _ _ h => h) (Or.inl ⟨by rfl, fun w hSw => exec_load36 _ rfl rfl (load36 hSw HS8.out)⟩) (by assumption) ?_
            try simp only [List.getElem_toArray, List.getElem_cons_zero, List.getElem_cons_succ, Act.put, List.setIfInBounds_toArray, List.set_cons_zero, List.set_cons_succ]
            refine wpAnyH_take (i := 1) (v := .bool true) rfl (by kernel_rfl) (by kernel_rfl) (by kernel_rfl) (fun _ _ _ h => h) (Or.inl ⟨by rfl, fun w hSw => by (try dsimp only at hSw); go_simp⟩) (by assumption) ?_
            try simp only [List.getElem_toArray, List.getElem_cons_zero, List.getElem_cons_succ, Act.put, List.setIfInBounds_toArray, List.set_cons_zero, List.set_cons_succ]
            refine wpAnyH_take (i := 2) (v := .int .i64 0) rfl (by kernel_rfl) (by kernel_rfl) (by kernel_rfl) (fun _ _ _ h => h) (Or.inl ⟨by rfl, fun w hSw => by (try dsimp only at hSw); go_simp⟩) (by assumption) ?_
            try simp only [List.getElem_toArray, List.getElem_cons_zero, List.getElem_cons_succ, Act.put, List.setIfInBounds_toArray, List.set_cons_zero, List.set_cons_succ]
            refine wpAnyH_ready (rs := [3]) (by kernel_rfl) (by simp) ?_
            refine AllReadyH.cons (i := 3) rfl (fun K hK => ?_) AllReadyH.nil
            rw [if_pos (by rfl)]
            refine wp_store36 _ _ rfl Zr rfl c8 rfl (wq3.setRow Zr c8) HF.out.1 ?_
            clear hHeld
            refine hK.out _ _ (HF.out.2.2.1) (fun hHeld => ?_)
            clear hK K
            try simp only [List.getElem_toArray, List.getElem_cons_zero, List.getElem_cons_succ, Act.put, List.setIfInBounds_toArray, List.set_cons_zero, List.set_cons_succ]
            refine wpAnyH_done (by kernel_rfl) ?_ _
            refine NoPanic.normal ?_
            clear hHeld
            go_wp2_with fail
            exact bodyPost_ret (resP Tryz.results15 _ rfl rfl rfl HF.out.2.1) rfl HEnd.out
          · have hg : decide ((0 : Int) < (n : Int)) = true := decide_eq_true (by omega)
            have hg1 : 0 < n := by omega
            have HCap : Hid (n ≤ cap ∧ cap ≤ maxLen) := hid (by
              obtain ⟨_, a9, c9, e9, h8, h9⟩ := HRa.out _ HTr.out
              injection e9 with e1 e2 e3
              have := HN1.out
              constructor <;> omega)
            by_cases hcn : c.n ≤ n
            · have hg2 : decide ((c.n : Int) ≤ (n : Int)) = true := decide_eq_true (by omega)
              have HOv : Hid (over c b (M.take n)) := hid (Or.inl (by rw [List.length_take]; have := HN1.out; omega))
              go_wp2_with fail
              refine wp_region_noPanic ?_
              refine wp_region_held_drew (S := (fun w' => (w'.cell? ⟨Z, 0, none⟩ = some (.slice A n cap)) ∧ (w'.cell? ⟨Z, 193, none⟩ = some (.int .i64 (c.n : Int))) ∧ (w'.cell? ⟨Z, 194, none⟩ = some (.int .i64 (c.B : Int))) ∧ (Hid (At w' Z cr 36)))) (by kernel_rfl) (HS1.out _ k0) (fun hHeld => ?_)
              generalize wr.drew = wq at *
              refine wpAnyH_take (i := 0) (v := .pointer (some ⟨Z, 0, none⟩)) rfl (by kernel_rfl) (by kernel_rfl) (by kernel_rfl) (fun _ _ _ h => h) (Or.inl ⟨by rfl, fun w hSw => by (try dsimp only at hSw); go_simp⟩) (by assumption) ?_
              try simp only [List.getElem_toArray, List.getElem_cons_zero, List.getElem_cons_succ, Act.put, List.setIfInBounds_toArray, List.set_cons_zero, List.set_cons_succ]
              refine wpAnyH_take (i := 1) (v := .slice A n cap) rfl (by kernel_rfl) (by kernel_rfl) (by kernel_rfl) (fun _ _ _ h => h) (Or.inl ⟨by rfl, fun w hSw => by (try dsimp only at hSw); go_simp⟩) (by assumption) ?_
              try simp only [List.getElem_toArray, List.getElem_cons_zero, List.getElem_cons_succ, Act.put, List.setIfInBounds_toArray, List.set_cons_zero, List.set_cons_succ]
              refine wpAnyH_take (i := 2) (v := .int .i64 (n : Int)) rfl (by kernel_rfl) (by kernel_rfl) (by kernel_rfl) (fun _ _ _ h => h) (Or.inl ⟨by rfl, fun w hSw => by (try dsimp only at hSw); go_simp⟩) (by assumption) ?_
              try simp only [List.getElem_toArray, List.getElem_cons_zero, List.getElem_cons_succ, Act.put, List.setIfInBounds_toArray, List.set_cons_zero, List.set_cons_succ]
              refine wpAnyH_take (i := 3) (v := .bool true) rfl (by kernel_rfl) (by kernel_rfl) (by kernel_rfl) (fun _ _ _ h => h) (Or.inl ⟨by rfl, fun w hSw => by (try dsimp only at hSw); go_simp⟩) (by assumption) ?_
              try simp only [List.getElem_toArray, List.getElem_cons_zero, List.getElem_cons_succ, Act.put, List.setIfInBounds_toArray, List.set_cons_zero, List.set_cons_succ]
              refine wpAnyH_take (i := 4) (v := .bool true) rfl (by kernel_rfl) (by kernel_rfl) (by kernel_rfl) (fun _ _ _ h => h) (Or.inl ⟨by rfl, fun w hSw => by (try dsimp only at hSw); go_simp⟩) (by assumption) ?_
              try simp only [List.getElem_toArray, List.getElem_cons_zero, List.getElem_cons_succ, Act.put, List.setIfInBounds_toArray, List.set_cons_zero, List.set_cons_succ]
              refine wpAnyH_take (i := 5) (v := .pointer (some ⟨Z, 0, none⟩)) rfl (by kernel_rfl) (by kernel_rfl) (by kernel_rfl) (fun _ _ _ h => h) (Or.inl ⟨by rfl, fun w hSw => by (try dsimp only at hSw); go_simp⟩) (by assumption) ?_
              try simp only [List.getElem_toArray, List.getElem_cons_zero, List.getElem_cons_succ, Act.put, List.setIfInBounds_toArray, List.set_cons_zero, List.set_cons_succ]
              refine wpAnyH_take (i := 6) (v := .slice A n cap) rfl (by kernel_rfl) (by kernel_rfl) (by kernel_rfl) (fun _ _ _ h => h) (Or.inl ⟨by rfl, fun w hSw => by (try dsimp only at hSw); go_simp⟩) (by assumption) ?_
              try simp only [List.getElem_toArray, List.getElem_cons_zero, List.getElem_cons_succ, Act.put, List.setIfInBounds_toArray, List.set_cons_zero, List.set_cons_succ]
              refine wpAnyH_take (i := 7) (v := .int .i64 (n : Int)) rfl (by kernel_rfl) (by kernel_rfl) (by kernel_rfl) (fun _ _ _ h => h) (Or.inl ⟨by rfl, fun w hSw => by (try dsimp only at hSw); go_simp⟩) (by assumption) ?_
              try simp only [List.getElem_toArray, List.getElem_cons_zero, List.getElem_cons_succ, Act.put, List.setIfInBounds_toArray, List.set_cons_zero, List.set_cons_succ]
              refine wpAnyH_take (i := 8) (v := .pointer (some ⟨Z, 193, none⟩)) rfl (by kernel_rfl) (by kernel_rfl) (by kernel_rfl) (fun _ _ _ h => h) (Or.inl ⟨by rfl, fun w hSw => by (try dsimp only at hSw); go_simp⟩) (by assumption) ?_
              try simp only [List.getElem_toArray, List.getElem_cons_zero, List.getElem_cons_succ, Act.put, List.setIfInBounds_toArray, List.set_cons_zero, List.set_cons_succ]
              refine wpAnyH_take (i := 9) (v := .int .i64 (c.n : Int)) rfl (by kernel_rfl) (by kernel_rfl) (by kernel_rfl) (fun _ _ _ h => h) (Or.inl ⟨by rfl, fun w hSw => by (try dsimp only at hSw); go_simp⟩) (by assumption) ?_
              try simp only [List.getElem_toArray, List.getElem_cons_zero, List.getElem_cons_succ, Act.put, List.setIfInBounds_toArray, List.set_cons_zero, List.set_cons_succ]
              refine wpAnyH_take (i := 10) (v := .bool true) rfl (by kernel_rfl) (by kernel_rfl) (by kernel_rfl) (fun _ _ _ h => h) (Or.inl ⟨by rfl, fun w hSw => by (try dsimp only at hSw); go_simp⟩) (by assumption) ?_
              try simp only [List.getElem_toArray, List.getElem_cons_zero, List.getElem_cons_succ, Act.put, List.setIfInBounds_toArray, List.set_cons_zero, List.set_cons_succ]
              refine wpAnyH_take (i := 11) (v := .bool true) rfl (by kernel_rfl) (by kernel_rfl) (by kernel_rfl) (fun _ _ _ h => h) (Or.inl ⟨by rfl, fun w hSw => by (try dsimp only at hSw); go_simp⟩) (by assumption) ?_
              try simp only [List.getElem_toArray, List.getElem_cons_zero, List.getElem_cons_succ, Act.put, List.setIfInBounds_toArray, List.set_cons_zero, List.set_cons_succ]
              refine wpAnyH_take (i := 12) (v := undef) rfl (by kernel_rfl) (by kernel_rfl) (by kernel_rfl) (fun _ _ _ h => h) (Or.inr ⟨by rfl, rfl⟩) (by assumption) ?_
              try simp only [List.getElem_toArray, List.getElem_cons_zero, List.getElem_cons_succ, Act.put, List.setIfInBounds_toArray, List.set_cons_zero, List.set_cons_succ]
              refine wpAnyH_take (i := 13) (v := undef) rfl (by kernel_rfl) (by kernel_rfl) (by kernel_rfl) (fun _ _ _ h => h) (Or.inr ⟨by rfl, rfl⟩) (by assumption) ?_
              try simp only [List.getElem_toArray, List.getElem_cons_zero, List.getElem_cons_succ, Act.put, List.setIfInBounds_toArray, List.set_cons_zero, List.set_cons_succ]
              refine wpAnyH_take (i := 14) (v := undef) rfl (by kernel_rfl) (by kernel_rfl) (by kernel_rfl) (fun _ _ _ h => h) (Or.inr ⟨by rfl, rfl⟩) (by assumption) ?_
              try simp only [List.getElem_toArray, List.getElem_cons_zero, List.getElem_cons_succ, Act.put, List.setIfInBounds_toArray, List.set_cons_zero, List.set_cons_succ]
              refine wpAnyH_take (i := 15) (v := undef) rfl (by kernel_rfl) (by kernel_rfl) (by kernel_rfl) (fun _ _ _ h => h) (Or.inr ⟨by rfl, rfl⟩) (by assumption) ?_
              try simp only [List.getElem_toArray, List.getElem_cons_zero, List.getElem_cons_succ, Act.put, List.setIfInBounds_toArray, List.set_cons_zero, List.set_cons_succ]
              refine wpAnyH_take (i := 16) (v := undef) rfl (by kernel_rfl) (by kernel_rfl) (by kernel_rfl) (fun _ _ _ h => h) (Or.inr ⟨by rfl, rfl⟩) (by assumption) ?_
              try simp only [List.getElem_toArray, List.getElem_cons_zero, List.getElem_cons_succ, Act.put, List.setIfInBounds_toArray, List.set_cons_zero, List.set_cons_succ]
              refine wpAnyH_take (i := 17) (v := undef) rfl (by kernel_rfl) (by kernel_rfl) (by kernel_rfl) (fun _ _ _ h => h) (Or.inr ⟨by rfl, rfl⟩) (by assumption) ?_
              try simp only [List.getElem_toArray, List.getElem_cons_zero, List.getElem_cons_succ, Act.put, List.setIfInBounds_toArray, List.set_cons_zero, List.set_cons_succ]
              refine wpAnyH_take (i := 18) (v := undef) rfl (by kernel_rfl) (by kernel_rfl) (by kernel_rfl) (fun _ _ _ h => h) (Or.inr ⟨by rfl, rfl⟩) (by assumption) ?_
              try simp only [List.getElem_toArray, List.getElem_cons_zero, List.getElem_cons_succ, Act.put, List.setIfInBounds_toArray, List.set_cons_zero, List.set_cons_succ]
              refine wpAnyH_take (i := 19) (v := .bool true) rfl (by kernel_rfl) (by kernel_rfl) (by kernel_rfl) (fun _ _ _ h => h) (Or.inl ⟨by rfl, fun w hSw => by (try dsimp only at hSw); go_simp⟩) (by assumption) ?_
              try simp only [List.getElem_toArray, List.getElem_cons_zero, List.getElem_cons_succ, Act.put, List.setIfInBounds_toArray, List.set_cons_zero, List.set_cons_succ]
              refine wpAnyH_take (i := 20) (v := .bool true) rfl (by kernel_rfl) (by kernel_rfl) (by kernel_rfl) (fun _ _ _ h => h) (Or.inl ⟨by rfl, fun w hSw => by (try dsimp only at hSw); go_simp⟩) (by assumption) ?_
              try simp only [List.getElem_toArray, List.getElem_cons_zero, List.getElem_cons_succ, Act.put, List.setIfInBounds_toArray, List.set_cons_zero, List.set_cons_succ]
              refine wpAnyH_done (by kernel_rfl) ?_ _
              refine NoPanic.normal ?_
              clear hHeld
              clear hg hg2 hcn
              have HTx := hid (tn_trans HTr.out (tn_kept k0))
              have HAx := hid (at_kept HAr.out k0)
              clear k0 HS1
              obtain ⟨m, hm⟩ : ∃ m, n = m + 1 := ⟨n - 1, by omega⟩
              have hsub : (n : Int) - 1 = (m : Int) := by omega
              have hmn : m < n := by omega
              have HRx := hid (rdl_take (HRa.out _ HTx.out) hn)
              obtain ⟨q5, rfl, lr, hlr, r0, r1, r2, r3, r4, r5, r6, r7⟩ := (rdr_at HRx.out.1).2 m hmn
              rw [List.getElem?_take_of_lt hmn] at hlr
              have HLr := hid hlr
              have hlk : lr.key.size ≤ maxLen := by have := (may_len (HMy.out lr (List.mem_of_getElem? hlr))).2; unfold maxLen; omega
              have hq5 := idxR q5 n cap m hmn (by omega)
              have HRoom2 : Hid (room c b ⟨M.take m, raise f lr, ev + 1⟩ = room c b ⟨M, s.fl, s.ev⟩) := hid (by
                rw [← HRoom.out]
                have e1 : M.take n = M.take m ++ [lr] := by rw [hm]; exact take_snoc HLr.out
                have h1 := HOv.out
                rw [e1] at h1 ⊢
                exact (room_on h1).symm)
              have c0 := (at_cell HAx.out 0).trans HSr.out.row
              clear hlr HOv
              obtain ⟨w4, hw4⟩ : ∃ w4, wq.alloc (.cells #[.string ⟨#[]⟩, .int .u64 0, .int .u32 0, .int .u8 0, .int .u8 0, .int .u32 0, .int .u64 0, .string ⟨#[]⟩] 42) = w4 := ⟨_, rfl⟩
              obtain ⟨X, hX⟩ : ∃ X, wq.heap.size = X := ⟨_, rfl⟩
              have K4 := kept_alloc (kept_refl wq) (.cells #[.string ⟨#[]⟩, .int .u64 0, .int .u32 0, .int .u8 0, .int .u8 0, .int .u32 0, .int .u64 0, .string ⟨#[]⟩] 42)
              have A4 := at_new wq #[.string ⟨#[]⟩, .int .u64 0, .int .u32 0, .int .u8 0, .int .u8 0, .int .u32 0, .int .u64 0, .string ⟨#[]⟩] 42
              rw [hw4] at K4 A4
              rw [hX] at A4
              have HSt := hid (store42 (rx := #[.string lr.key, .int .u64 lr.s.p, .int .u32 lr.s.l, .int .u8 lr.s.n, .int .u8 lr.kind, .int .u32 lr.flags, .int .u64 lr.exp, .string lr.body]) A4 rfl rfl (allR _ _ _ _ _ _ _ _))
              have HK5 := hid (kept_setRow K4 (Nat.le_of_eq hX) #[.string lr.key, .int .u64 lr.s.p, .int .u32 lr.s.l, .int .u8 lr.s.n, .int .u8 lr.kind, .int .u32 lr.flags, .int .u64 lr.exp, .string lr.body])
              have HX5 := hid (at_setRow (cs := #[.string lr.key, .int .u64 lr.s.p, .int .u32 lr.s.l, .int .u8 lr.s.n, .int .u8 lr.kind, .int .u32 lr.flags, .int .u64 lr.exp, .string lr.body]) A4)
              generalize w4.setRow X #[.string lr.key, .int .u64 lr.s.p, .int .u32 lr.s.l, .int .u8 lr.s.n, .int .u8 lr.kind, .int .u32 lr.flags, .int .u64 lr.exp, .string lr.body] = w5 at HSt HK5 HX5
              have HT5 := hid (tn_trans HTx.out (tn_kept HK5.out))
              have HA5 := hid (at_kept HAx.out HK5.out)
              obtain ⟨x0, x1, x2, x3, x4, x5, x6, x7⟩ := at_cells8' HX5.out
              clear K4 A4
              go_wp2_with (refine wpList_store42 rfl _ _ rfl X rfl #[.string lr.key, .int .u64 lr.s.p, .int .u32 lr.s.l, .int .u8 lr.s.n, .int .u8 lr.kind, .int .u32 lr.flags, .int .u64 lr.exp, .string lr.body] rfl w5 HSt.out ?_)
              refine (refrange_any lr.key hlk _).mono ?_
              rintro e w6 ⟨rfl, rfl⟩
              clear r0 r1 r2 r3 r4 r5 r6 r7 hq5 c0 hw4 hX x0 x1 x2 x3 x4 x5 x6 x7 HSt HAx HTx HRx
              obtain ⟨k, hk⟩ : ∃ k, rg lr.key = k := ⟨_, rfl⟩
              rw [hk]
              have HRk := hid hk.symm
              have hk64 : k < 64 := by rw [← hk]; exact rg_lt _
              clear hk
              obtain ⟨fq, hfq⟩ : ∃ fq, f k = fq := ⟨_, rfl⟩
              have HFq := hid hfq
              have HS1 : Hid (∀ u, Kept w6 u → (u.cell? ⟨Z, 1 + k * 3, none⟩ = some (.int .u64 fq.p) ∧ u.cell? ⟨Z, 1 + k * 3 + 1, none⟩ = some (.int .u32 fq.l) ∧ u.cell? ⟨Z, 1 + k * 3 + 2, none⟩ = some (.int .u8 fq.n)) ∧ (u.cell? ⟨X, 0, none⟩ = some (.string lr.key) ∧ u.cell? ⟨X, 1, none⟩ = some (.int .u64 lr.s.p) ∧ u.cell? ⟨X, 2, none⟩ = some (.int .u32 lr.s.l) ∧ u.cell? ⟨X, 3, none⟩ = some (.int .u8 lr.s.n) ∧ u.cell? ⟨X, 4, none⟩ = some (.int .u8 lr.kind) ∧ u.cell? ⟨X, 5, none⟩ = some (.int .u32 lr.flags) ∧ u.cell? ⟨X, 6, none⟩ = some (.int .u64 lr.exp) ∧ u.cell? ⟨X, 7, none⟩ = some (.string lr.body))) := hid (fun u ku => ⟨by
                obtain ⟨g1, g2, g3⟩ := HSr.out.floor k hk64
                rw [hfq] at g1 g2 g3
                exact ⟨(at_cell (at_kept HA5.out ku) _).trans g1, (at_cell (at_kept HA5.out ku) _).trans g2, (at_cell (at_kept HA5.out ku) _).trans g3⟩, at_cells8' (at_kept HX5.out ku)⟩)
              clear hfq
              have hidx := idxF Z k (by omega)
              have k0 : Kept w6 w6.drew := kept_refl w6
              cases hlt : lt fq lr.s with
              | false =>
                go_wp2_with fail
                refine wp_region_noPanic ?_
                refine wp_region_held_drew (S := (fun w' => (w'.cell? ⟨Z, 1 + k * 3, none⟩ = some (.int .u64 fq.p) ∧ w'.cell? ⟨Z, 1 + k * 3 + 1, none⟩ = some (.int .u32 fq.l) ∧ w'.cell? ⟨Z, 1 + k * 3 + 2, none⟩ = some (.int .u8 fq.n)) ∧ (w'.cell? ⟨X, 0, none⟩ = some (.string lr.key) ∧ w'.cell? ⟨X, 1, none⟩ = some (.int .u64 lr.s.p) ∧ w'.cell? ⟨X, 2, none⟩ = some (.int .u32 lr.s.l) ∧ w'.cell? ⟨X, 3, none⟩ = some (.int .u8 lr.s.n) ∧ w'.cell? ⟨X, 4, none⟩ = some (.int .u8 lr.kind) ∧ w'.cell? ⟨X, 5, none⟩ = some (.int .u32 lr.flags) ∧ w'.cell? ⟨X, 6, none⟩ = some (.int .u64 lr.exp) ∧ w'.cell? ⟨X, 7, none⟩ = some (.string lr.body)))) (by kernel_rfl) (HS1.out _ k0) (fun hHeld => ?_)
                generalize w6.drew = wq2 at *
                refine wpAnyH_take (i := 0) (v := .int .i64 (k : Int)) rfl (by kernel_rfl) (by kernel_rfl) (by kernel_rfl) (fun _ _ _ h => h) (Or.inl ⟨by rfl, fun w hSw => by (try dsimp only at hSw); go_simp⟩) (by assumption) ?_
                try simp only [List.getElem_toArray, List.getElem_cons_zero, List.getElem_cons_succ, Act.put, List.setIfInBounds_toArray, List.set_cons_zero, List.set_cons_succ]
                refine wpAnyH_take (i := 1) (v := .pointer (some ⟨Z, 1, none⟩)) rfl (by kernel_rfl) (by kernel_rfl) (by kernel_rfl) (fun _ _ _ h => h) (Or.inl ⟨by rfl, fun w hSw => by (try dsimp only at hSw); go_simp⟩) (by assumption) ?_
                try simp only [List.getElem_toArray, List.getElem_cons_zero, List.getElem_cons_succ, Act.put, List.setIfInBounds_toArray, List.set_cons_zero, List.set_cons_succ]
                refine wpAnyH_take (i := 2) (v := .pointer (some ⟨Z, 1 + k * 3, none⟩)) rfl (by kernel_rfl) (by kernel_rfl) (by kernel_rfl) (fun _ _ _ h => h) (Or.inl ⟨by rfl, fun w hSw => by (try dsimp only at hSw); go_simp⟩) (by assumption) ?_
                try simp only [List.getElem_toArray, List.getElem_cons_zero, List.getElem_cons_succ, Act.put, List.setIfInBounds_toArray, List.set_cons_zero, List.set_cons_succ]
                refine wpAnyH_take (i := 3) (v := .agg #[.int .u64 fq.p, .int .u32 fq.l, .int .u8 fq.n]) rfl (by kernel_rfl) (by kernel_rfl) (by kernel_rfl) (fun _ _ _ h => h) (Or.inl ⟨by rfl, fun w hSw => by (try dsimp only at hSw); go_simp⟩) (by assumption) ?_
                try simp only [List.getElem_toArray, List.getElem_cons_zero, List.getElem_cons_succ, Act.put, List.setIfInBounds_toArray, List.set_cons_zero, List.set_cons_succ]
                refine wpAnyH_take (i := 4) (v := .pointer (some ⟨X, 1, none⟩)) rfl (by kernel_rfl) (by kernel_rfl) (by kernel_rfl) (fun _ _ _ h => h) (Or.inl ⟨by rfl, fun w hSw => by (try dsimp only at hSw); go_simp⟩) (by assumption) ?_
                try simp only [List.getElem_toArray, List.getElem_cons_zero, List.getElem_cons_succ, Act.put, List.setIfInBounds_toArray, List.set_cons_zero, List.set_cons_succ]
                refine wpAnyH_take (i := 5) (v := .agg #[.int .u64 lr.s.p, .int .u32 lr.s.l, .int .u8 lr.s.n]) rfl (by kernel_rfl) (by kernel_rfl) (by kernel_rfl) (fun _ _ _ h => h) (Or.inl ⟨by rfl, fun w hSw => by (try dsimp only at hSw); go_simp⟩) (by assumption) ?_
                try simp only [List.getElem_toArray, List.getElem_cons_zero, List.getElem_cons_succ, Act.put, List.setIfInBounds_toArray, List.set_cons_zero, List.set_cons_succ]
                refine wpAnyH_ready (rs := [6]) (by kernel_rfl) (by simp) ?_
                refine AllReadyH.cons (i := 6) rfl (fun K hK => ?_) AllReadyH.nil
                go_simp
                refine (less_any fq lr.s _).mono ?_
                rintro e w7 ⟨rfl, h3⟩
                replace k0 := kept_trans k0 h3
                clear h3
                rw [hlt]
                clear hHeld
                show K _ _
                refine hK.out _ _ (HS1.out _ k0) (fun hHeld => ?_)
                clear hK K
                try simp only [List.getElem_toArray, List.getElem_cons_zero, List.getElem_cons_succ, Act.put, List.setIfInBounds_toArray, List.set_cons_zero, List.set_cons_succ]
                refine wpAnyH_done (by kernel_rfl) ?_ _
                refine NoPanic.normal ?_
                clear hHeld
                have HK7 := hid k0
                clear k0 HS1 hidx

                have HA8 := hid (at_kept HA5.out HK7.out)
                have HS8 := hid (show Sv cr (.slice (some ⟨q5, 0, none⟩) n cap) (raise f lr) c ev by rw [raiseR_no HRk.out (by rw [HFq.out]; exact hlt)]; exact HSr.out)
                have HT8 := hid (tn_trans HT5.out (tn_kept HK7.out))
                obtain ⟨d0, df⟩ : (w7.cell? ⟨Z, 0, none⟩ = some (.slice (some ⟨q5, 0, none⟩) n cap)) ∧ ∀ o, w7.frozen? ⟨Z, o, none⟩ = false := ⟨(at_cell HA8.out 0).trans HS8.out.row, at_frozen HA8.out⟩
                obtain ⟨hcc1, hcc2⟩ := HCap.out
                have s1 := sl_hi q5 n cap m (by omega) (by omega) hcc2
                obtain ⟨w9, hw9⟩ : ∃ w9, w7.setCell ⟨Z, 0, none⟩ (.slice (some ⟨q5, 0, none⟩) m cap) = w9 := ⟨_, rfl⟩
                have A9 := at_set HA8.out 0 (.slice (some ⟨q5, 0, none⟩) m cap)
                rw [hw9] at A9
                have S9 := sv_row HS8.out (.slice (some ⟨q5, 0, none⟩) m cap) rfl
                have T9 : Tn (fun k => k = Z) w7 w9 := by rw [← hw9]; exact tn_set (F := fun k => k = Z) tn_refl (.inl rfl) _ _
                obtain ⟨e0, ef⟩ : (w9.cell? ⟨Z, 196, none⟩ = some (.int .i64 (ev : Int))) ∧ ∀ o, w9.frozen? ⟨Z, o, none⟩ = false := ⟨(at_cell A9 196).trans S9.ev, at_frozen A9⟩
                obtain ⟨e1, he1⟩ : ∃ e1, ev + 1 = e1 := ⟨_, rfl⟩
                have hee : (ev : Int) + 1 = (e1 : Int) := by omega
                have hew : e1 ≤ 900001001 := by omega
                obtain ⟨w10, hw10⟩ : ∃ w10, w9.setCell ⟨Z, 196, none⟩ (.int .i64 (e1 : Int)) = w10 := ⟨_, rfl⟩
                have A10 := at_set A9 196 (.int .i64 (e1 : Int))
                rw [hw10] at A10
                have HS10 := hid (sv_ev S9 e1)
                have HT10 : Hid (Tn (fun k => k = Z) w5 w10) := hid (tn_trans HT8.out (tn_trans T9 (by rw [← hw10]; exact tn_set (F := fun k => k = Z) tn_refl (.inl rfl) _ _)))
                have HA10 := hid A10
                have HL10 : Hid (rowLen w10 Z = m) := hid (rowLen_at ((at_cell HA10.out 0).trans HS10.out.row))
                have hj1 : e1 + m ≤ 900001000 := by omega
                have HRoom3 : Hid (room c b ⟨M.take m, raise f lr, e1⟩ = room c b ⟨M, s.fl, s.ev⟩) := hid (by rw [← he1]; exact HRoom2.out)
                have hm1 : m ≤ N1 := by omega
                clear A9 S9 T9 A10 he1 hcc1 hcc2 hm
                go_wp2_with fail
                go_roundw
                case rel => exact ⟨m, e1, raise f lr, _, hm1, hj1, HA10, HS10, HT10, HRoom3⟩
                case measure => rw [HL10.out, HLen.out]; exact hmn
              | true =>
                go_wp2_with fail
                refine wp_region_noPanic ?_
                refine wp_region_held_drew (S := (fun w' => (w'.cell? ⟨Z, 1 + k * 3, none⟩ = some (.int .u64 fq.p) ∧ w'.cell? ⟨Z, 1 + k * 3 + 1, none⟩ = some (.int .u32 fq.l) ∧ w'.cell? ⟨Z, 1 + k * 3 + 2, none⟩ = some (.int .u8 fq.n)) ∧ (w'.cell? ⟨X, 0, none⟩ = some (.string lr.key) ∧ w'.cell? ⟨X, 1, none⟩ = some (.int .u64 lr.s.p) ∧ w'.cell? ⟨X, 2, none⟩ = some (.int .u32 lr.s.l) ∧ w'.cell? ⟨X, 3, none⟩ = some (.int .u8 lr.s.n) ∧ w'.cell? ⟨X, 4, none⟩ = some (.int .u8 lr.kind) ∧ w'.cell? ⟨X, 5, none⟩ = some (.int .u32 lr.flags) ∧ w'.cell? ⟨X, 6, none⟩ = some (.int .u64 lr.exp) ∧ w'.cell? ⟨X, 7, none⟩ = some (.string lr.body)))) (by kernel_rfl) (HS1.out _ k0) (fun hHeld => ?_)
                generalize w6.drew = wq2 at *
                refine wpAnyH_take (i := 0) (v := .int .i64 (k : Int)) rfl (by kernel_rfl) (by kernel_rfl) (by kernel_rfl) (fun _ _ _ h => h) (Or.inl ⟨by rfl, fun w hSw => by (try dsimp only at hSw); go_simp⟩) (by assumption) ?_
                try simp only [List.getElem_toArray, List.getElem_cons_zero, List.getElem_cons_succ, Act.put, List.setIfInBounds_toArray, List.set_cons_zero, List.set_cons_succ]
                refine wpAnyH_take (i := 1) (v := .pointer (some ⟨Z, 1, none⟩)) rfl (by kernel_rfl) (by kernel_rfl) (by kernel_rfl) (fun _ _ _ h => h) (Or.inl ⟨by rfl, fun w hSw => by (try dsimp only at hSw); go_simp⟩) (by assumption) ?_
                try simp only [List.getElem_toArray, List.getElem_cons_zero, List.getElem_cons_succ, Act.put, List.setIfInBounds_toArray, List.set_cons_zero, List.set_cons_succ]
                refine wpAnyH_take (i := 2) (v := .pointer (some ⟨Z, 1 + k * 3, none⟩)) rfl (by kernel_rfl) (by kernel_rfl) (by kernel_rfl) (fun _ _ _ h => h) (Or.inl ⟨by rfl, fun w hSw => by (try dsimp only at hSw); go_simp⟩) (by assumption) ?_
                try simp only [List.getElem_toArray, List.getElem_cons_zero, List.getElem_cons_succ, Act.put, List.setIfInBounds_toArray, List.set_cons_zero, List.set_cons_succ]
                refine wpAnyH_take (i := 3) (v := .agg #[.int .u64 fq.p, .int .u32 fq.l, .int .u8 fq.n]) rfl (by kernel_rfl) (by kernel_rfl) (by kernel_rfl) (fun _ _ _ h => h) (Or.inl ⟨by rfl, fun w hSw => by (try dsimp only at hSw); go_simp⟩) (by assumption) ?_
                try simp only [List.getElem_toArray, List.getElem_cons_zero, List.getElem_cons_succ, Act.put, List.setIfInBounds_toArray, List.set_cons_zero, List.set_cons_succ]
                refine wpAnyH_take (i := 4) (v := .pointer (some ⟨X, 1, none⟩)) rfl (by kernel_rfl) (by kernel_rfl) (by kernel_rfl) (fun _ _ _ h => h) (Or.inl ⟨by rfl, fun w hSw => by (try dsimp only at hSw); go_simp⟩) (by assumption) ?_
                try simp only [List.getElem_toArray, List.getElem_cons_zero, List.getElem_cons_succ, Act.put, List.setIfInBounds_toArray, List.set_cons_zero, List.set_cons_succ]
                refine wpAnyH_take (i := 5) (v := .agg #[.int .u64 lr.s.p, .int .u32 lr.s.l, .int .u8 lr.s.n]) rfl (by kernel_rfl) (by kernel_rfl) (by kernel_rfl) (fun _ _ _ h => h) (Or.inl ⟨by rfl, fun w hSw => by (try dsimp only at hSw); go_simp⟩) (by assumption) ?_
                try simp only [List.getElem_toArray, List.getElem_cons_zero, List.getElem_cons_succ, Act.put, List.setIfInBounds_toArray, List.set_cons_zero, List.set_cons_succ]
                refine wpAnyH_ready (rs := [6]) (by kernel_rfl) (by simp) ?_
                refine AllReadyH.cons (i := 6) rfl (fun K hK => ?_) AllReadyH.nil
                go_simp
                refine (less_any fq lr.s _).mono ?_
                rintro e w7 ⟨rfl, h3⟩
                replace k0 := kept_trans k0 h3
                clear h3
                rw [hlt]
                clear hHeld
                show K _ _
                refine hK.out _ _ (HS1.out _ k0) (fun hHeld => ?_)
                clear hK K
                try simp only [List.getElem_toArray, List.getElem_cons_zero, List.getElem_cons_succ, Act.put, List.setIfInBounds_toArray, List.set_cons_zero, List.set_cons_succ]
                refine wpAnyH_done (by kernel_rfl) ?_ _
                refine NoPanic.normal ?_
                clear hHeld
                obtain ⟨⟨p0, p1, p2⟩, x0, x1, x2, x3, x4, x5, x6, x7⟩ := HS1.out w7 k0
                have HK7 := hid k0
                have HA7 := hid (at_kept HA5.out k0)
                have f7 := at_frozen HA7.out
                obtain ⟨w8, hw8⟩ : ∃ w8, ((w7.setCell ⟨Z, 1 + k * 3, none⟩ (.int .u64 lr.s.p)).setCell ⟨Z, 1 + k * 3 + 1, none⟩ (.int .u32 lr.s.l)).setCell ⟨Z, 1 + k * 3 + 2, none⟩ (.int .u8 lr.s.n) = w8 := ⟨_, rfl⟩
                have A8 := at_set (at_set (at_set HA7.out (1 + k * 3) (.int .u64 lr.s.p)) (1 + k * 3 + 1) (.int .u32 lr.s.l)) (1 + k * 3 + 2) (.int .u8 lr.s.n)
                rw [hw8] at A8
                have HA80 := hid A8
                have HS80 := hid (sv_floor HSr.out hk64 lr.s (raiseR_yes HRk.out (by rw [HFq.out]; exact hlt)))
                have HT80 : Hid (Tn (fun k => k = Z) w7 w8) := hid (by rw [← hw8]; exact tn_set (F := fun k => k = Z) (tn_set (F := fun k => k = Z) (tn_set (F := fun k => k = Z) tn_refl (.inl rfl) _ _) (.inl rfl) _ _) (.inl rfl) _ _)
                clear k0 HS1 A8
                generalize ((cr.setIfInBounds (1 + k * 3) (.int .u64 lr.s.p)).setIfInBounds (1 + k * 3 + 1) (.int .u32 lr.s.l)).setIfInBounds (1 + k * 3 + 2) (.int .u8 lr.s.n) = c8 at HA80 HS80

                have HA8 := hid (HA80.out)
                have HS8 := hid (HS80.out)
                have HT8 := hid (tn_trans HT5.out (tn_trans (tn_kept HK7.out) HT80.out))
                obtain ⟨d0, df⟩ : (w8.cell? ⟨Z, 0, none⟩ = some (.slice (some ⟨q5, 0, none⟩) n cap)) ∧ ∀ o, w8.frozen? ⟨Z, o, none⟩ = false := ⟨(at_cell HA8.out 0).trans HS8.out.row, at_frozen HA8.out⟩
                obtain ⟨hcc1, hcc2⟩ := HCap.out
                have s1 := sl_hi q5 n cap m (by omega) (by omega) hcc2
                obtain ⟨w9, hw9⟩ : ∃ w9, w8.setCell ⟨Z, 0, none⟩ (.slice (some ⟨q5, 0, none⟩) m cap) = w9 := ⟨_, rfl⟩
                have A9 := at_set HA8.out 0 (.slice (some ⟨q5, 0, none⟩) m cap)
                rw [hw9] at A9
                have S9 := sv_row HS8.out (.slice (some ⟨q5, 0, none⟩) m cap) rfl
                have T9 : Tn (fun k => k = Z) w8 w9 := by rw [← hw9]; exact tn_set (F := fun k => k = Z) tn_refl (.inl rfl) _ _
                obtain ⟨e0, ef⟩ : (w9.cell? ⟨Z, 196, none⟩ = some (.int .i64 (ev : Int))) ∧ ∀ o, w9.frozen? ⟨Z, o, none⟩ = false := ⟨(at_cell A9 196).trans S9.ev, at_frozen A9⟩
                obtain ⟨e1, he1⟩ : ∃ e1, ev + 1 = e1 := ⟨_, rfl⟩
                have hee : (ev : Int) + 1 = (e1 : Int) := by omega
                have hew : e1 ≤ 900001001 := by omega
                obtain ⟨w10, hw10⟩ : ∃ w10, w9.setCell ⟨Z, 196, none⟩ (.int .i64 (e1 : Int)) = w10 := ⟨_, rfl⟩
                have A10 := at_set A9 196 (.int .i64 (e1 : Int))
                rw [hw10] at A10
                have HS10 := hid (sv_ev S9 e1)
                have HT10 : Hid (Tn (fun k => k = Z) w5 w10) := hid (tn_trans HT8.out (tn_trans T9 (by rw [← hw10]; exact tn_set (F := fun k => k = Z) tn_refl (.inl rfl) _ _)))
                have HA10 := hid A10
                have HL10 : Hid (rowLen w10 Z = m) := hid (rowLen_at ((at_cell HA10.out 0).trans HS10.out.row))
                have hj1 : e1 + m ≤ 900001000 := by omega
                have HRoom3 : Hid (room c b ⟨M.take m, raise f lr, e1⟩ = room c b ⟨M, s.fl, s.ev⟩) := hid (by rw [← he1]; exact HRoom2.out)
                have hm1 : m ≤ N1 := by omega
                clear A9 S9 T9 A10 he1 hcc1 hcc2 hm
                go_wp2_with fail
                go_roundw
                case rel => exact ⟨m, e1, raise f lr, _, hm1, hj1, HA10, HS10, HT10, HRoom3⟩
                case measure => rw [HL10.out, HLen.out]; exact hmn
            · have hg2 : decide ((c.n : Int) ≤ (n : Int)) = false := decide_eq_false (by omega)
              obtain ⟨z, hz⟩ : ∃ z, sizeL (M.take n) = z := ⟨_, rfl⟩
              have hzb4 : z ≤ 1048576 := by rw [← hz]; exact HMs.out n
              have hSz : ∀ u, Kept wr u → Calls Tryz.prog 24 #[.agg cr] u fun e w' => e = .returned (.int .i64 (z : Int)) ∧ Kept u w' := fun u ku => by
                have h1 := refsize_any (cs := cr) (c := c) (s := ⟨M.take n, f, ev⟩) (by show (M.take n).length ≤ 1024; rw [List.length_take]; omega) (by show sizeL (M.take n) ≤ 1073741824; rw [hz]; omega) u ⟨_, HSr.out, rdl_take (HRa.out _ (tn_trans HTr.out (tn_kept ku))) hn⟩
                rw [show sizeL (MS.L ⟨M.take n, f, ev⟩) = z from hz] at h1
                exact h1
              obtain ⟨zb, hzb⟩ : ∃ zb : Nat, (z : Int) + (b : Int) = (zb : Int) := ⟨z + b, by omega⟩
              have hzb5 : zb ≤ 2000000 := by omega
              have hzw : IntKind.i64.wrap (zb : Int) = (zb : Int) := by rw [IntKind.wrap_i64]; omega
              have Hz := hid hz
              clear hz
              by_cases hov : c.B < zb
              · have hg3 : decide ((c.B : Int) < (zb : Int)) = true := decide_eq_true (by omega)
                have HOv : Hid (over c b (M.take n)) := hid (Or.inr (by rw [Hz.out]; omega))
                go_wp2_with fail
                refine wp_region_noPanic ?_
                refine wp_region_held_drew (S := (fun w' => (w'.cell? ⟨Z, 0, none⟩ = some (.slice A n cap)) ∧ (w'.cell? ⟨Z, 193, none⟩ = some (.int .i64 (c.n : Int))) ∧ (w'.cell? ⟨Z, 194, none⟩ = some (.int .i64 (c.B : Int))) ∧ (Hid (At w' Z cr 36)))) (by kernel_rfl) (HS1.out _ k0) (fun hHeld => ?_)
                generalize wr.drew = wq at *
                refine wpAnyH_take (i := 0) (v := .pointer (some ⟨Z, 0, none⟩)) rfl (by kernel_rfl) (by kernel_rfl) (by kernel_rfl) (fun _ _ _ h => h) (Or.inl ⟨by rfl, fun w hSw => by (try dsimp only at hSw); go_simp⟩) (by assumption) ?_
                try simp only [List.getElem_toArray, List.getElem_cons_zero, List.getElem_cons_succ, Act.put, List.setIfInBounds_toArray, List.set_cons_zero, List.set_cons_succ]
                refine wpAnyH_take (i := 1) (v := .slice A n cap) rfl (by kernel_rfl) (by kernel_rfl) (by kernel_rfl) (fun _ _ _ h => h) (Or.inl ⟨by rfl, fun w hSw => by (try dsimp only at hSw); go_simp⟩) (by assumption) ?_
                try simp only [List.getElem_toArray, List.getElem_cons_zero, List.getElem_cons_succ, Act.put, List.setIfInBounds_toArray, List.set_cons_zero, List.set_cons_succ]
                refine wpAnyH_take (i := 2) (v := .int .i64 (n : Int)) rfl (by kernel_rfl) (by kernel_rfl) (by kernel_rfl) (fun _ _ _ h => h) (Or.inl ⟨by rfl, fun w hSw => by (try dsimp only at hSw); go_simp⟩) (by assumption) ?_
                try simp only [List.getElem_toArray, List.getElem_cons_zero, List.getElem_cons_succ, Act.put, List.setIfInBounds_toArray, List.set_cons_zero, List.set_cons_succ]
                refine wpAnyH_take (i := 3) (v := .bool true) rfl (by kernel_rfl) (by kernel_rfl) (by kernel_rfl) (fun _ _ _ h => h) (Or.inl ⟨by rfl, fun w hSw => by (try dsimp only at hSw); go_simp⟩) (by assumption) ?_
                try simp only [List.getElem_toArray, List.getElem_cons_zero, List.getElem_cons_succ, Act.put, List.setIfInBounds_toArray, List.set_cons_zero, List.set_cons_succ]
                refine wpAnyH_take (i := 4) (v := .bool true) rfl (by kernel_rfl) (by kernel_rfl) (by kernel_rfl) (fun _ _ _ h => h) (Or.inl ⟨by rfl, fun w hSw => by (try dsimp only at hSw); go_simp⟩) (by assumption) ?_
                try simp only [List.getElem_toArray, List.getElem_cons_zero, List.getElem_cons_succ, Act.put, List.setIfInBounds_toArray, List.set_cons_zero, List.set_cons_succ]
                refine wpAnyH_take (i := 5) (v := .pointer (some ⟨Z, 0, none⟩)) rfl (by kernel_rfl) (by kernel_rfl) (by kernel_rfl) (fun _ _ _ h => h) (Or.inl ⟨by rfl, fun w hSw => by (try dsimp only at hSw); go_simp⟩) (by assumption) ?_
                try simp only [List.getElem_toArray, List.getElem_cons_zero, List.getElem_cons_succ, Act.put, List.setIfInBounds_toArray, List.set_cons_zero, List.set_cons_succ]
                refine wpAnyH_take (i := 6) (v := .slice A n cap) rfl (by kernel_rfl) (by kernel_rfl) (by kernel_rfl) (fun _ _ _ h => h) (Or.inl ⟨by rfl, fun w hSw => by (try dsimp only at hSw); go_simp⟩) (by assumption) ?_
                try simp only [List.getElem_toArray, List.getElem_cons_zero, List.getElem_cons_succ, Act.put, List.setIfInBounds_toArray, List.set_cons_zero, List.set_cons_succ]
                refine wpAnyH_take (i := 7) (v := .int .i64 (n : Int)) rfl (by kernel_rfl) (by kernel_rfl) (by kernel_rfl) (fun _ _ _ h => h) (Or.inl ⟨by rfl, fun w hSw => by (try dsimp only at hSw); go_simp⟩) (by assumption) ?_
                try simp only [List.getElem_toArray, List.getElem_cons_zero, List.getElem_cons_succ, Act.put, List.setIfInBounds_toArray, List.set_cons_zero, List.set_cons_succ]
                refine wpAnyH_take (i := 8) (v := .pointer (some ⟨Z, 193, none⟩)) rfl (by kernel_rfl) (by kernel_rfl) (by kernel_rfl) (fun _ _ _ h => h) (Or.inl ⟨by rfl, fun w hSw => by (try dsimp only at hSw); go_simp⟩) (by assumption) ?_
                try simp only [List.getElem_toArray, List.getElem_cons_zero, List.getElem_cons_succ, Act.put, List.setIfInBounds_toArray, List.set_cons_zero, List.set_cons_succ]
                refine wpAnyH_take (i := 9) (v := .int .i64 (c.n : Int)) rfl (by kernel_rfl) (by kernel_rfl) (by kernel_rfl) (fun _ _ _ h => h) (Or.inl ⟨by rfl, fun w hSw => by (try dsimp only at hSw); go_simp⟩) (by assumption) ?_
                try simp only [List.getElem_toArray, List.getElem_cons_zero, List.getElem_cons_succ, Act.put, List.setIfInBounds_toArray, List.set_cons_zero, List.set_cons_succ]
                refine wpAnyH_take (i := 10) (v := .bool false) rfl (by kernel_rfl) (by kernel_rfl) (by kernel_rfl) (fun _ _ _ h => h) (Or.inl ⟨by rfl, fun w hSw => by (try dsimp only at hSw); go_simp⟩) (by assumption) ?_
                try simp only [List.getElem_toArray, List.getElem_cons_zero, List.getElem_cons_succ, Act.put, List.setIfInBounds_toArray, List.set_cons_zero, List.set_cons_succ]
                refine wpAnyH_take (i := 11) (v := .bool false) rfl (by kernel_rfl) (by kernel_rfl) (by kernel_rfl) (fun _ _ _ h => h) (Or.inl ⟨by rfl, fun w hSw => by (try dsimp only at hSw); go_simp⟩) (by assumption) ?_
                try simp only [List.getElem_toArray, List.getElem_cons_zero, List.getElem_cons_succ, Act.put, List.setIfInBounds_toArray, List.set_cons_zero, List.set_cons_succ]
                refine wpAnyH_take (i := 12) (v := .agg cr) rfl (by kernel_rfl) (by kernel_rfl) (by kernel_rfl) (fun _ _ _ h => h) (Or.inl ⟨by rfl, fun w hSw => exec_load36 _ rfl rfl (load36 hSw.2.2.2.out HSr.out)⟩) (by assumption) ?_
                try simp only [List.getElem_toArray, List.getElem_cons_zero, List.getElem_cons_succ, Act.put, List.setIfInBounds_toArray, List.set_cons_zero, List.set_cons_succ]
                refine wpAnyH_take (i := 14) (v := .int .i64 (b : Int)) rfl (by kernel_rfl) (by kernel_rfl) (by kernel_rfl) (fun _ _ _ h => h) (Or.inl ⟨by rfl, fun w hSw => by (try dsimp only at hSw); go_simp⟩) (by assumption) ?_
                try simp only [List.getElem_toArray, List.getElem_cons_zero, List.getElem_cons_succ, Act.put, List.setIfInBounds_toArray, List.set_cons_zero, List.set_cons_succ]
                refine wpAnyH_take (i := 16) (v := .pointer (some ⟨Z, 194, none⟩)) rfl (by kernel_rfl) (by kernel_rfl) (by kernel_rfl) (fun _ _ _ h => h) (Or.inl ⟨by rfl, fun w hSw => by (try dsimp only at hSw); go_simp⟩) (by assumption) ?_
                try simp only [List.getElem_toArray, List.getElem_cons_zero, List.getElem_cons_succ, Act.put, List.setIfInBounds_toArray, List.set_cons_zero, List.set_cons_succ]
                refine wpAnyH_take (i := 17) (v := .int .i64 (c.B : Int)) rfl (by kernel_rfl) (by kernel_rfl) (by kernel_rfl) (fun _ _ _ h => h) (Or.inl ⟨by rfl, fun w hSw => by (try dsimp only at hSw); go_simp⟩) (by assumption) ?_
                try simp only [List.getElem_toArray, List.getElem_cons_zero, List.getElem_cons_succ, Act.put, List.setIfInBounds_toArray, List.set_cons_zero, List.set_cons_succ]
                refine wpAnyH_ready (rs := [13]) (by kernel_rfl) (by simp) ?_
                refine AllReadyH.cons (i := 13) rfl (fun K hK => ?_) AllReadyH.nil
                go_simp
                refine (hSz _ k0).mono ?_
                rintro e w3 ⟨rfl, h3⟩
                replace k0 := kept_trans k0 h3
                clear h3
                clear hHeld
                show K _ _
                refine hK.out _ _ (HS1.out _ k0) (fun hHeld => ?_)
                clear hK K
                try simp only [List.getElem_toArray, List.getElem_cons_zero, List.getElem_cons_succ, Act.put, List.setIfInBounds_toArray, List.set_cons_zero, List.set_cons_succ]
                refine wpAnyH_take (i := 15) (v := .int .i64 (zb : Int)) rfl (by kernel_rfl) (by kernel_rfl) (by kernel_rfl) (fun _ _ _ h => h) (Or.inl ⟨by rfl, fun w hSw => by (try dsimp only at hSw); go_simp⟩) (by assumption) ?_
                try simp only [List.getElem_toArray, List.getElem_cons_zero, List.getElem_cons_succ, Act.put, List.setIfInBounds_toArray, List.set_cons_zero, List.set_cons_succ]
                refine wpAnyH_take (i := 18) (v := .bool true) rfl (by kernel_rfl) (by kernel_rfl) (by kernel_rfl) (fun _ _ _ h => h) (Or.inl ⟨by rfl, fun w hSw => by (try dsimp only at hSw); go_simp⟩) (by assumption) ?_
                try simp only [List.getElem_toArray, List.getElem_cons_zero, List.getElem_cons_succ, Act.put, List.setIfInBounds_toArray, List.set_cons_zero, List.set_cons_succ]
                refine wpAnyH_take (i := 19) (v := .bool true) rfl (by kernel_rfl) (by kernel_rfl) (by kernel_rfl) (fun _ _ _ h => h) (Or.inl ⟨by rfl, fun w hSw => by (try dsimp only at hSw); go_simp⟩) (by assumption) ?_
                try simp only [List.getElem_toArray, List.getElem_cons_zero, List.getElem_cons_succ, Act.put, List.setIfInBounds_toArray, List.set_cons_zero, List.set_cons_succ]
                refine wpAnyH_take (i := 20) (v := .bool true) rfl (by kernel_rfl) (by kernel_rfl) (by kernel_rfl) (fun _ _ _ h => h) (Or.inl ⟨by rfl, fun w hSw => by (try dsimp only at hSw); go_simp⟩) (by assumption) ?_
                try simp only [List.getElem_toArray, List.getElem_cons_zero, List.getElem_cons_succ, Act.put, List.setIfInBounds_toArray, List.set_cons_zero, List.set_cons_succ]
                refine wpAnyH_done (by kernel_rfl) ?_ _
                refine NoPanic.normal ?_
                clear hHeld
                clear hg hg2 hg3 hcn hov hSz hzb hzb5 hzb4 hzw
                have HTx := hid (tn_trans HTr.out (tn_kept k0))
                have HAx := hid (at_kept HAr.out k0)
                clear k0 HS1
                obtain ⟨m, hm⟩ : ∃ m, n = m + 1 := ⟨n - 1, by omega⟩
                have hsub : (n : Int) - 1 = (m : Int) := by omega
                have hmn : m < n := by omega
                have HRx := hid (rdl_take (HRa.out _ HTx.out) hn)
                obtain ⟨q5, rfl, lr, hlr, r0, r1, r2, r3, r4, r5, r6, r7⟩ := (rdr_at HRx.out.1).2 m hmn
                rw [List.getElem?_take_of_lt hmn] at hlr
                have HLr := hid hlr
                have hlk : lr.key.size ≤ maxLen := by have := (may_len (HMy.out lr (List.mem_of_getElem? hlr))).2; unfold maxLen; omega
                have hq5 := idxR q5 n cap m hmn (by omega)
                have HRoom2 : Hid (room c b ⟨M.take m, raise f lr, ev + 1⟩ = room c b ⟨M, s.fl, s.ev⟩) := hid (by
                  rw [← HRoom.out]
                  have e1 : M.take n = M.take m ++ [lr] := by rw [hm]; exact take_snoc HLr.out
                  have h1 := HOv.out
                  rw [e1] at h1 ⊢
                  exact (room_on h1).symm)
                have c0 := (at_cell HAx.out 0).trans HSr.out.row
                clear hlr HOv
                obtain ⟨w4, hw4⟩ : ∃ w4, w3.alloc (.cells #[.string ⟨#[]⟩, .int .u64 0, .int .u32 0, .int .u8 0, .int .u8 0, .int .u32 0, .int .u64 0, .string ⟨#[]⟩] 42) = w4 := ⟨_, rfl⟩
                obtain ⟨X, hX⟩ : ∃ X, w3.heap.size = X := ⟨_, rfl⟩
                have K4 := kept_alloc (kept_refl w3) (.cells #[.string ⟨#[]⟩, .int .u64 0, .int .u32 0, .int .u8 0, .int .u8 0, .int .u32 0, .int .u64 0, .string ⟨#[]⟩] 42)
                have A4 := at_new w3 #[.string ⟨#[]⟩, .int .u64 0, .int .u32 0, .int .u8 0, .int .u8 0, .int .u32 0, .int .u64 0, .string ⟨#[]⟩] 42
                rw [hw4] at K4 A4
                rw [hX] at A4
                have HSt := hid (store42 (rx := #[.string lr.key, .int .u64 lr.s.p, .int .u32 lr.s.l, .int .u8 lr.s.n, .int .u8 lr.kind, .int .u32 lr.flags, .int .u64 lr.exp, .string lr.body]) A4 rfl rfl (allR _ _ _ _ _ _ _ _))
                have HK5 := hid (kept_setRow K4 (Nat.le_of_eq hX) #[.string lr.key, .int .u64 lr.s.p, .int .u32 lr.s.l, .int .u8 lr.s.n, .int .u8 lr.kind, .int .u32 lr.flags, .int .u64 lr.exp, .string lr.body])
                have HX5 := hid (at_setRow (cs := #[.string lr.key, .int .u64 lr.s.p, .int .u32 lr.s.l, .int .u8 lr.s.n, .int .u8 lr.kind, .int .u32 lr.flags, .int .u64 lr.exp, .string lr.body]) A4)
                generalize w4.setRow X #[.string lr.key, .int .u64 lr.s.p, .int .u32 lr.s.l, .int .u8 lr.s.n, .int .u8 lr.kind, .int .u32 lr.flags, .int .u64 lr.exp, .string lr.body] = w5 at HSt HK5 HX5
                have HT5 := hid (tn_trans HTx.out (tn_kept HK5.out))
                have HA5 := hid (at_kept HAx.out HK5.out)
                obtain ⟨x0, x1, x2, x3, x4, x5, x6, x7⟩ := at_cells8' HX5.out
                clear K4 A4
                go_wp2_with (refine wpList_store42 rfl _ _ rfl X rfl #[.string lr.key, .int .u64 lr.s.p, .int .u32 lr.s.l, .int .u8 lr.s.n, .int .u8 lr.kind, .int .u32 lr.flags, .int .u64 lr.exp, .string lr.body] rfl w5 HSt.out ?_)
                refine (refrange_any lr.key hlk _).mono ?_
                rintro e w6 ⟨rfl, rfl⟩
                clear r0 r1 r2 r3 r4 r5 r6 r7 hq5 c0 hw4 hX x0 x1 x2 x3 x4 x5 x6 x7 HSt HAx HTx HRx
                obtain ⟨k, hk⟩ : ∃ k, rg lr.key = k := ⟨_, rfl⟩
                rw [hk]
                have HRk := hid hk.symm
                have hk64 : k < 64 := by rw [← hk]; exact rg_lt _
                clear hk
                obtain ⟨fq, hfq⟩ : ∃ fq, f k = fq := ⟨_, rfl⟩
                have HFq := hid hfq
                have HS1 : Hid (∀ u, Kept w6 u → (u.cell? ⟨Z, 1 + k * 3, none⟩ = some (.int .u64 fq.p) ∧ u.cell? ⟨Z, 1 + k * 3 + 1, none⟩ = some (.int .u32 fq.l) ∧ u.cell? ⟨Z, 1 + k * 3 + 2, none⟩ = some (.int .u8 fq.n)) ∧ (u.cell? ⟨X, 0, none⟩ = some (.string lr.key) ∧ u.cell? ⟨X, 1, none⟩ = some (.int .u64 lr.s.p) ∧ u.cell? ⟨X, 2, none⟩ = some (.int .u32 lr.s.l) ∧ u.cell? ⟨X, 3, none⟩ = some (.int .u8 lr.s.n) ∧ u.cell? ⟨X, 4, none⟩ = some (.int .u8 lr.kind) ∧ u.cell? ⟨X, 5, none⟩ = some (.int .u32 lr.flags) ∧ u.cell? ⟨X, 6, none⟩ = some (.int .u64 lr.exp) ∧ u.cell? ⟨X, 7, none⟩ = some (.string lr.body))) := hid (fun u ku => ⟨by
                  obtain ⟨g1, g2, g3⟩ := HSr.out.floor k hk64
                  rw [hfq] at g1 g2 g3
                  exact ⟨(at_cell (at_kept HA5.out ku) _).trans g1, (at_cell (at_kept HA5.out ku) _).trans g2, (at_cell (at_kept HA5.out ku) _).trans g3⟩, at_cells8' (at_kept HX5.out ku)⟩)
                clear hfq
                have hidx := idxF Z k (by omega)
                have k0 : Kept w6 w6.drew := kept_refl w6
                cases hlt : lt fq lr.s with
                | false =>
                  go_wp2_with fail
                  refine wp_region_noPanic ?_
                  refine wp_region_held_drew (S := (fun w' => (w'.cell? ⟨Z, 1 + k * 3, none⟩ = some (.int .u64 fq.p) ∧ w'.cell? ⟨Z, 1 + k * 3 + 1, none⟩ = some (.int .u32 fq.l) ∧ w'.cell? ⟨Z, 1 + k * 3 + 2, none⟩ = some (.int .u8 fq.n)) ∧ (w'.cell? ⟨X, 0, none⟩ = some (.string lr.key) ∧ w'.cell? ⟨X, 1, none⟩ = some (.int .u64 lr.s.p) ∧ w'.cell? ⟨X, 2, none⟩ = some (.int .u32 lr.s.l) ∧ w'.cell? ⟨X, 3, none⟩ = some (.int .u8 lr.s.n) ∧ w'.cell? ⟨X, 4, none⟩ = some (.int .u8 lr.kind) ∧ w'.cell? ⟨X, 5, none⟩ = some (.int .u32 lr.flags) ∧ w'.cell? ⟨X, 6, none⟩ = some (.int .u64 lr.exp) ∧ w'.cell? ⟨X, 7, none⟩ = some (.string lr.body)))) (by kernel_rfl) (HS1.out _ k0) (fun hHeld => ?_)
                  generalize w6.drew = wq2 at *
                  refine wpAnyH_take (i := 0) (v := .int .i64 (k : Int)) rfl (by kernel_rfl) (by kernel_rfl) (by kernel_rfl) (fun _ _ _ h => h) (Or.inl ⟨by rfl, fun w hSw => by (try dsimp only at hSw); go_simp⟩) (by assumption) ?_
                  try simp only [List.getElem_toArray, List.getElem_cons_zero, List.getElem_cons_succ, Act.put, List.setIfInBounds_toArray, List.set_cons_zero, List.set_cons_succ]
                  refine wpAnyH_take (i := 1) (v := .pointer (some ⟨Z, 1, none⟩)) rfl (by kernel_rfl) (by kernel_rfl) (by kernel_rfl) (fun _ _ _ h => h) (Or.inl ⟨by rfl, fun w hSw => by (try dsimp only at hSw); go_simp⟩) (by assumption) ?_
                  try simp only [List.getElem_toArray, List.getElem_cons_zero, List.getElem_cons_succ, Act.put, List.setIfInBounds_toArray, List.set_cons_zero, List.set_cons_succ]
                  refine wpAnyH_take (i := 2) (v := .pointer (some ⟨Z, 1 + k * 3, none⟩)) rfl (by kernel_rfl) (by kernel_rfl) (by kernel_rfl) (fun _ _ _ h => h) (Or.inl ⟨by rfl, fun w hSw => by (try dsimp only at hSw); go_simp⟩) (by assumption) ?_
                  try simp only [List.getElem_toArray, List.getElem_cons_zero, List.getElem_cons_succ, Act.put, List.setIfInBounds_toArray, List.set_cons_zero, List.set_cons_succ]
                  refine wpAnyH_take (i := 3) (v := .agg #[.int .u64 fq.p, .int .u32 fq.l, .int .u8 fq.n]) rfl (by kernel_rfl) (by kernel_rfl) (by kernel_rfl) (fun _ _ _ h => h) (Or.inl ⟨by rfl, fun w hSw => by (try dsimp only at hSw); go_simp⟩) (by assumption) ?_
                  try simp only [List.getElem_toArray, List.getElem_cons_zero, List.getElem_cons_succ, Act.put, List.setIfInBounds_toArray, List.set_cons_zero, List.set_cons_succ]
                  refine wpAnyH_take (i := 4) (v := .pointer (some ⟨X, 1, none⟩)) rfl (by kernel_rfl) (by kernel_rfl) (by kernel_rfl) (fun _ _ _ h => h) (Or.inl ⟨by rfl, fun w hSw => by (try dsimp only at hSw); go_simp⟩) (by assumption) ?_
                  try simp only [List.getElem_toArray, List.getElem_cons_zero, List.getElem_cons_succ, Act.put, List.setIfInBounds_toArray, List.set_cons_zero, List.set_cons_succ]
                  refine wpAnyH_take (i := 5) (v := .agg #[.int .u64 lr.s.p, .int .u32 lr.s.l, .int .u8 lr.s.n]) rfl (by kernel_rfl) (by kernel_rfl) (by kernel_rfl) (fun _ _ _ h => h) (Or.inl ⟨by rfl, fun w hSw => by (try dsimp only at hSw); go_simp⟩) (by assumption) ?_
                  try simp only [List.getElem_toArray, List.getElem_cons_zero, List.getElem_cons_succ, Act.put, List.setIfInBounds_toArray, List.set_cons_zero, List.set_cons_succ]
                  refine wpAnyH_ready (rs := [6]) (by kernel_rfl) (by simp) ?_
                  refine AllReadyH.cons (i := 6) rfl (fun K hK => ?_) AllReadyH.nil
                  go_simp
                  refine (less_any fq lr.s _).mono ?_
                  rintro e w7 ⟨rfl, h3⟩
                  replace k0 := kept_trans k0 h3
                  clear h3
                  rw [hlt]
                  clear hHeld
                  show K _ _
                  refine hK.out _ _ (HS1.out _ k0) (fun hHeld => ?_)
                  clear hK K
                  try simp only [List.getElem_toArray, List.getElem_cons_zero, List.getElem_cons_succ, Act.put, List.setIfInBounds_toArray, List.set_cons_zero, List.set_cons_succ]
                  refine wpAnyH_done (by kernel_rfl) ?_ _
                  refine NoPanic.normal ?_
                  clear hHeld
                  have HK7 := hid k0
                  clear k0 HS1 hidx

                  have HA8 := hid (at_kept HA5.out HK7.out)
                  have HS8 := hid (show Sv cr (.slice (some ⟨q5, 0, none⟩) n cap) (raise f lr) c ev by rw [raiseR_no HRk.out (by rw [HFq.out]; exact hlt)]; exact HSr.out)
                  have HT8 := hid (tn_trans HT5.out (tn_kept HK7.out))
                  obtain ⟨d0, df⟩ : (w7.cell? ⟨Z, 0, none⟩ = some (.slice (some ⟨q5, 0, none⟩) n cap)) ∧ ∀ o, w7.frozen? ⟨Z, o, none⟩ = false := ⟨(at_cell HA8.out 0).trans HS8.out.row, at_frozen HA8.out⟩
                  obtain ⟨hcc1, hcc2⟩ := HCap.out
                  have s1 := sl_hi q5 n cap m (by omega) (by omega) hcc2
                  obtain ⟨w9, hw9⟩ : ∃ w9, w7.setCell ⟨Z, 0, none⟩ (.slice (some ⟨q5, 0, none⟩) m cap) = w9 := ⟨_, rfl⟩
                  have A9 := at_set HA8.out 0 (.slice (some ⟨q5, 0, none⟩) m cap)
                  rw [hw9] at A9
                  have S9 := sv_row HS8.out (.slice (some ⟨q5, 0, none⟩) m cap) rfl
                  have T9 : Tn (fun k => k = Z) w7 w9 := by rw [← hw9]; exact tn_set (F := fun k => k = Z) tn_refl (.inl rfl) _ _
                  obtain ⟨e0, ef⟩ : (w9.cell? ⟨Z, 196, none⟩ = some (.int .i64 (ev : Int))) ∧ ∀ o, w9.frozen? ⟨Z, o, none⟩ = false := ⟨(at_cell A9 196).trans S9.ev, at_frozen A9⟩
                  obtain ⟨e1, he1⟩ : ∃ e1, ev + 1 = e1 := ⟨_, rfl⟩
                  have hee : (ev : Int) + 1 = (e1 : Int) := by omega
                  have hew : e1 ≤ 900001001 := by omega
                  obtain ⟨w10, hw10⟩ : ∃ w10, w9.setCell ⟨Z, 196, none⟩ (.int .i64 (e1 : Int)) = w10 := ⟨_, rfl⟩
                  have A10 := at_set A9 196 (.int .i64 (e1 : Int))
                  rw [hw10] at A10
                  have HS10 := hid (sv_ev S9 e1)
                  have HT10 : Hid (Tn (fun k => k = Z) w5 w10) := hid (tn_trans HT8.out (tn_trans T9 (by rw [← hw10]; exact tn_set (F := fun k => k = Z) tn_refl (.inl rfl) _ _)))
                  have HA10 := hid A10
                  have HL10 : Hid (rowLen w10 Z = m) := hid (rowLen_at ((at_cell HA10.out 0).trans HS10.out.row))
                  have hj1 : e1 + m ≤ 900001000 := by omega
                  have HRoom3 : Hid (room c b ⟨M.take m, raise f lr, e1⟩ = room c b ⟨M, s.fl, s.ev⟩) := hid (by rw [← he1]; exact HRoom2.out)
                  have hm1 : m ≤ N1 := by omega
                  clear A9 S9 T9 A10 he1 hcc1 hcc2 hm
                  go_wp2_with fail
                  go_roundw
                  case rel => exact ⟨m, e1, raise f lr, _, hm1, hj1, HA10, HS10, HT10, HRoom3⟩
                  case measure => rw [HL10.out, HLen.out]; exact hmn
                | true =>
                  go_wp2_with fail
                  refine wp_region_noPanic ?_
                  refine wp_region_held_drew (S := (fun w' => (w'.cell? ⟨Z, 1 + k * 3, none⟩ = some (.int .u64 fq.p) ∧ w'.cell? ⟨Z, 1 + k * 3 + 1, none⟩ = some (.int .u32 fq.l) ∧ w'.cell? ⟨Z, 1 + k * 3 + 2, none⟩ = some (.int .u8 fq.n)) ∧ (w'.cell? ⟨X, 0, none⟩ = some (.string lr.key) ∧ w'.cell? ⟨X, 1, none⟩ = some (.int .u64 lr.s.p) ∧ w'.cell? ⟨X, 2, none⟩ = some (.int .u32 lr.s.l) ∧ w'.cell? ⟨X, 3, none⟩ = some (.int .u8 lr.s.n) ∧ w'.cell? ⟨X, 4, none⟩ = some (.int .u8 lr.kind) ∧ w'.cell? ⟨X, 5, none⟩ = some (.int .u32 lr.flags) ∧ w'.cell? ⟨X, 6, none⟩ = some (.int .u64 lr.exp) ∧ w'.cell? ⟨X, 7, none⟩ = some (.string lr.body)))) (by kernel_rfl) (HS1.out _ k0) (fun hHeld => ?_)
                  generalize w6.drew = wq2 at *
                  refine wpAnyH_take (i := 0) (v := .int .i64 (k : Int)) rfl (by kernel_rfl) (by kernel_rfl) (by kernel_rfl) (fun _ _ _ h => h) (Or.inl ⟨by rfl, fun w hSw => by (try dsimp only at hSw); go_simp⟩) (by assumption) ?_
                  try simp only [List.getElem_toArray, List.getElem_cons_zero, List.getElem_cons_succ, Act.put, List.setIfInBounds_toArray, List.set_cons_zero, List.set_cons_succ]
                  refine wpAnyH_take (i := 1) (v := .pointer (some ⟨Z, 1, none⟩)) rfl (by kernel_rfl) (by kernel_rfl) (by kernel_rfl) (fun _ _ _ h => h) (Or.inl ⟨by rfl, fun w hSw => by (try dsimp only at hSw); go_simp⟩) (by assumption) ?_
                  try simp only [List.getElem_toArray, List.getElem_cons_zero, List.getElem_cons_succ, Act.put, List.setIfInBounds_toArray, List.set_cons_zero, List.set_cons_succ]
                  refine wpAnyH_take (i := 2) (v := .pointer (some ⟨Z, 1 + k * 3, none⟩)) rfl (by kernel_rfl) (by kernel_rfl) (by kernel_rfl) (fun _ _ _ h => h) (Or.inl ⟨by rfl, fun w hSw => by (try dsimp only at hSw); go_simp⟩) (by assumption) ?_
                  try simp only [List.getElem_toArray, List.getElem_cons_zero, List.getElem_cons_succ, Act.put, List.setIfInBounds_toArray, List.set_cons_zero, List.set_cons_succ]
                  refine wpAnyH_take (i := 3) (v := .agg #[.int .u64 fq.p, .int .u32 fq.l, .int .u8 fq.n]) rfl (by kernel_rfl) (by kernel_rfl) (by kernel_rfl) (fun _ _ _ h => h) (Or.inl ⟨by rfl, fun w hSw => by (try dsimp only at hSw); go_simp⟩) (by assumption) ?_
                  try simp only [List.getElem_toArray, List.getElem_cons_zero, List.getElem_cons_succ, Act.put, List.setIfInBounds_toArray, List.set_cons_zero, List.set_cons_succ]
                  refine wpAnyH_take (i := 4) (v := .pointer (some ⟨X, 1, none⟩)) rfl (by kernel_rfl) (by kernel_rfl) (by kernel_rfl) (fun _ _ _ h => h) (Or.inl ⟨by rfl, fun w hSw => by (try dsimp only at hSw); go_simp⟩) (by assumption) ?_
                  try simp only [List.getElem_toArray, List.getElem_cons_zero, List.getElem_cons_succ, Act.put, List.setIfInBounds_toArray, List.set_cons_zero, List.set_cons_succ]
                  refine wpAnyH_take (i := 5) (v := .agg #[.int .u64 lr.s.p, .int .u32 lr.s.l, .int .u8 lr.s.n]) rfl (by kernel_rfl) (by kernel_rfl) (by kernel_rfl) (fun _ _ _ h => h) (Or.inl ⟨by rfl, fun w hSw => by (try dsimp only at hSw); go_simp⟩) (by assumption) ?_
                  try simp only [List.getElem_toArray, List.getElem_cons_zero, List.getElem_cons_succ, Act.put, List.setIfInBounds_toArray, List.set_cons_zero, List.set_cons_succ]
                  refine wpAnyH_ready (rs := [6]) (by kernel_rfl) (by simp) ?_
                  refine AllReadyH.cons (i := 6) rfl (fun K hK => ?_) AllReadyH.nil
                  go_simp
                  refine (less_any fq lr.s _).mono ?_
                  rintro e w7 ⟨rfl, h3⟩
                  replace k0 := kept_trans k0 h3
                  clear h3
                  rw [hlt]
                  clear hHeld
                  show K _ _
                  refine hK.out _ _ (HS1.out _ k0) (fun hHeld => ?_)
                  clear hK K
                  try simp only [List.getElem_toArray, List.getElem_cons_zero, List.getElem_cons_succ, Act.put, List.setIfInBounds_toArray, List.set_cons_zero, List.set_cons_succ]
                  refine wpAnyH_done (by kernel_rfl) ?_ _
                  refine NoPanic.normal ?_
                  clear hHeld
                  obtain ⟨⟨p0, p1, p2⟩, x0, x1, x2, x3, x4, x5, x6, x7⟩ := HS1.out w7 k0
                  have HK7 := hid k0
                  have HA7 := hid (at_kept HA5.out k0)
                  have f7 := at_frozen HA7.out
                  obtain ⟨w8, hw8⟩ : ∃ w8, ((w7.setCell ⟨Z, 1 + k * 3, none⟩ (.int .u64 lr.s.p)).setCell ⟨Z, 1 + k * 3 + 1, none⟩ (.int .u32 lr.s.l)).setCell ⟨Z, 1 + k * 3 + 2, none⟩ (.int .u8 lr.s.n) = w8 := ⟨_, rfl⟩
                  have A8 := at_set (at_set (at_set HA7.out (1 + k * 3) (.int .u64 lr.s.p)) (1 + k * 3 + 1) (.int .u32 lr.s.l)) (1 + k * 3 + 2) (.int .u8 lr.s.n)
                  rw [hw8] at A8
                  have HA80 := hid A8
                  have HS80 := hid (sv_floor HSr.out hk64 lr.s (raiseR_yes HRk.out (by rw [HFq.out]; exact hlt)))
                  have HT80 : Hid (Tn (fun k => k = Z) w7 w8) := hid (by rw [← hw8]; exact tn_set (F := fun k => k = Z) (tn_set (F := fun k => k = Z) (tn_set (F := fun k => k = Z) tn_refl (.inl rfl) _ _) (.inl rfl) _ _) (.inl rfl) _ _)
                  clear k0 HS1 A8
                  generalize ((cr.setIfInBounds (1 + k * 3) (.int .u64 lr.s.p)).setIfInBounds (1 + k * 3 + 1) (.int .u32 lr.s.l)).setIfInBounds (1 + k * 3 + 2) (.int .u8 lr.s.n) = c8 at HA80 HS80

                  have HA8 := hid (HA80.out)
                  have HS8 := hid (HS80.out)
                  have HT8 := hid (tn_trans HT5.out (tn_trans (tn_kept HK7.out) HT80.out))
                  obtain ⟨d0, df⟩ : (w8.cell? ⟨Z, 0, none⟩ = some (.slice (some ⟨q5, 0, none⟩) n cap)) ∧ ∀ o, w8.frozen? ⟨Z, o, none⟩ = false := ⟨(at_cell HA8.out 0).trans HS8.out.row, at_frozen HA8.out⟩
                  obtain ⟨hcc1, hcc2⟩ := HCap.out
                  have s1 := sl_hi q5 n cap m (by omega) (by omega) hcc2
                  obtain ⟨w9, hw9⟩ : ∃ w9, w8.setCell ⟨Z, 0, none⟩ (.slice (some ⟨q5, 0, none⟩) m cap) = w9 := ⟨_, rfl⟩
                  have A9 := at_set HA8.out 0 (.slice (some ⟨q5, 0, none⟩) m cap)
                  rw [hw9] at A9
                  have S9 := sv_row HS8.out (.slice (some ⟨q5, 0, none⟩) m cap) rfl
                  have T9 : Tn (fun k => k = Z) w8 w9 := by rw [← hw9]; exact tn_set (F := fun k => k = Z) tn_refl (.inl rfl) _ _
                  obtain ⟨e0, ef⟩ : (w9.cell? ⟨Z, 196, none⟩ = some (.int .i64 (ev : Int))) ∧ ∀ o, w9.frozen? ⟨Z, o, none⟩ = false := ⟨(at_cell A9 196).trans S9.ev, at_frozen A9⟩
                  obtain ⟨e1, he1⟩ : ∃ e1, ev + 1 = e1 := ⟨_, rfl⟩
                  have hee : (ev : Int) + 1 = (e1 : Int) := by omega
                  have hew : e1 ≤ 900001001 := by omega
                  obtain ⟨w10, hw10⟩ : ∃ w10, w9.setCell ⟨Z, 196, none⟩ (.int .i64 (e1 : Int)) = w10 := ⟨_, rfl⟩
                  have A10 := at_set A9 196 (.int .i64 (e1 : Int))
                  rw [hw10] at A10
                  have HS10 := hid (sv_ev S9 e1)
                  have HT10 : Hid (Tn (fun k => k = Z) w5 w10) := hid (tn_trans HT8.out (tn_trans T9 (by rw [← hw10]; exact tn_set (F := fun k => k = Z) tn_refl (.inl rfl) _ _)))
                  have HA10 := hid A10
                  have HL10 : Hid (rowLen w10 Z = m) := hid (rowLen_at ((at_cell HA10.out 0).trans HS10.out.row))
                  have hj1 : e1 + m ≤ 900001000 := by omega
                  have HRoom3 : Hid (room c b ⟨M.take m, raise f lr, e1⟩ = room c b ⟨M, s.fl, s.ev⟩) := hid (by rw [← he1]; exact HRoom2.out)
                  have hm1 : m ≤ N1 := by omega
                  clear A9 S9 T9 A10 he1 hcc1 hcc2 hm
                  go_wp2_with fail
                  go_roundw
                  case rel => exact ⟨m, e1, raise f lr, _, hm1, hj1, HA10, HS10, HT10, HRoom3⟩
                  case measure => rw [HL10.out, HLen.out]; exact hmn
              · have hg3 : decide ((c.B : Int) < (zb : Int)) = false := decide_eq_false (by omega)
                have HOv : Hid (¬ over c b (M.take n)) := hid (by
                  rintro (h1 | h1)
                  · rw [List.length_take] at h1; omega
                  · rw [Hz.out] at h1; omega)
                go_wp2_with fail
                refine wp_region_noPanic ?_
                refine wp_region_held_drew (S := (fun w' => (w'.cell? ⟨Z, 0, none⟩ = some (.slice A n cap)) ∧ (w'.cell? ⟨Z, 193, none⟩ = some (.int .i64 (c.n : Int))) ∧ (w'.cell? ⟨Z, 194, none⟩ = some (.int .i64 (c.B : Int))) ∧ (Hid (At w' Z cr 36)))) (by kernel_rfl) (HS1.out _ k0) (fun hHeld => ?_)
                generalize wr.drew = wq at *
                refine wpAnyH_take (i := 0) (v := .pointer (some ⟨Z, 0, none⟩)) rfl (by kernel_rfl) (by kernel_rfl) (by kernel_rfl) (fun _ _ _ h => h) (Or.inl ⟨by rfl, fun w hSw => by (try dsimp only at hSw); go_simp⟩) (by assumption) ?_
                try simp only [List.getElem_toArray, List.getElem_cons_zero, List.getElem_cons_succ, Act.put, List.setIfInBounds_toArray, List.set_cons_zero, List.set_cons_succ]
                refine wpAnyH_take (i := 1) (v := .slice A n cap) rfl (by kernel_rfl) (by kernel_rfl) (by kernel_rfl) (fun _ _ _ h => h) (Or.inl ⟨by rfl, fun w hSw => by (try dsimp only at hSw); go_simp⟩) (by assumption) ?_
                try simp only [List.getElem_toArray, List.getElem_cons_zero, List.getElem_cons_succ, Act.put, List.setIfInBounds_toArray, List.set_cons_zero, List.set_cons_succ]
                refine wpAnyH_take (i := 2) (v := .int .i64 (n : Int)) rfl (by kernel_rfl) (by kernel_rfl) (by kernel_rfl) (fun _ _ _ h => h) (Or.inl ⟨by rfl, fun w hSw => by (try dsimp only at hSw); go_simp⟩) (by assumption) ?_
                try simp only [List.getElem_toArray, List.getElem_cons_zero, List.getElem_cons_succ, Act.put, List.setIfInBounds_toArray, List.set_cons_zero, List.set_cons_succ]
                refine wpAnyH_take (i := 3) (v := .bool true) rfl (by kernel_rfl) (by kernel_rfl) (by kernel_rfl) (fun _ _ _ h => h) (Or.inl ⟨by rfl, fun w hSw => by (try dsimp only at hSw); go_simp⟩) (by assumption) ?_
                try simp only [List.getElem_toArray, List.getElem_cons_zero, List.getElem_cons_succ, Act.put, List.setIfInBounds_toArray, List.set_cons_zero, List.set_cons_succ]
                refine wpAnyH_take (i := 4) (v := .bool true) rfl (by kernel_rfl) (by kernel_rfl) (by kernel_rfl) (fun _ _ _ h => h) (Or.inl ⟨by rfl, fun w hSw => by (try dsimp only at hSw); go_simp⟩) (by assumption) ?_
                try simp only [List.getElem_toArray, List.getElem_cons_zero, List.getElem_cons_succ, Act.put, List.setIfInBounds_toArray, List.set_cons_zero, List.set_cons_succ]
                refine wpAnyH_take (i := 5) (v := .pointer (some ⟨Z, 0, none⟩)) rfl (by kernel_rfl) (by kernel_rfl) (by kernel_rfl) (fun _ _ _ h => h) (Or.inl ⟨by rfl, fun w hSw => by (try dsimp only at hSw); go_simp⟩) (by assumption) ?_
                try simp only [List.getElem_toArray, List.getElem_cons_zero, List.getElem_cons_succ, Act.put, List.setIfInBounds_toArray, List.set_cons_zero, List.set_cons_succ]
                refine wpAnyH_take (i := 6) (v := .slice A n cap) rfl (by kernel_rfl) (by kernel_rfl) (by kernel_rfl) (fun _ _ _ h => h) (Or.inl ⟨by rfl, fun w hSw => by (try dsimp only at hSw); go_simp⟩) (by assumption) ?_
                try simp only [List.getElem_toArray, List.getElem_cons_zero, List.getElem_cons_succ, Act.put, List.setIfInBounds_toArray, List.set_cons_zero, List.set_cons_succ]
                refine wpAnyH_take (i := 7) (v := .int .i64 (n : Int)) rfl (by kernel_rfl) (by kernel_rfl) (by kernel_rfl) (fun _ _ _ h => h) (Or.inl ⟨by rfl, fun w hSw => by (try dsimp only at hSw); go_simp⟩) (by assumption) ?_
                try simp only [List.getElem_toArray, List.getElem_cons_zero, List.getElem_cons_succ, Act.put, List.setIfInBounds_toArray, List.set_cons_zero, List.set_cons_succ]
                refine wpAnyH_take (i := 8) (v := .pointer (some ⟨Z, 193, none⟩)) rfl (by kernel_rfl) (by kernel_rfl) (by kernel_rfl) (fun _ _ _ h => h) (Or.inl ⟨by rfl, fun w hSw => by (try dsimp only at hSw); go_simp⟩) (by assumption) ?_
                try simp only [List.getElem_toArray, List.getElem_cons_zero, List.getElem_cons_succ, Act.put, List.setIfInBounds_toArray, List.set_cons_zero, List.set_cons_succ]
                refine wpAnyH_take (i := 9) (v := .int .i64 (c.n : Int)) rfl (by kernel_rfl) (by kernel_rfl) (by kernel_rfl) (fun _ _ _ h => h) (Or.inl ⟨by rfl, fun w hSw => by (try dsimp only at hSw); go_simp⟩) (by assumption) ?_
                try simp only [List.getElem_toArray, List.getElem_cons_zero, List.getElem_cons_succ, Act.put, List.setIfInBounds_toArray, List.set_cons_zero, List.set_cons_succ]
                refine wpAnyH_take (i := 10) (v := .bool false) rfl (by kernel_rfl) (by kernel_rfl) (by kernel_rfl) (fun _ _ _ h => h) (Or.inl ⟨by rfl, fun w hSw => by (try dsimp only at hSw); go_simp⟩) (by assumption) ?_
                try simp only [List.getElem_toArray, List.getElem_cons_zero, List.getElem_cons_succ, Act.put, List.setIfInBounds_toArray, List.set_cons_zero, List.set_cons_succ]
                refine wpAnyH_take (i := 11) (v := .bool false) rfl (by kernel_rfl) (by kernel_rfl) (by kernel_rfl) (fun _ _ _ h => h) (Or.inl ⟨by rfl, fun w hSw => by (try dsimp only at hSw); go_simp⟩) (by assumption) ?_
                try simp only [List.getElem_toArray, List.getElem_cons_zero, List.getElem_cons_succ, Act.put, List.setIfInBounds_toArray, List.set_cons_zero, List.set_cons_succ]
                refine wpAnyH_take (i := 12) (v := .agg cr) rfl (by kernel_rfl) (by kernel_rfl) (by kernel_rfl) (fun _ _ _ h => h) (Or.inl ⟨by rfl, fun w hSw => exec_load36 _ rfl rfl (load36 hSw.2.2.2.out HSr.out)⟩) (by assumption) ?_
                try simp only [List.getElem_toArray, List.getElem_cons_zero, List.getElem_cons_succ, Act.put, List.setIfInBounds_toArray, List.set_cons_zero, List.set_cons_succ]
                refine wpAnyH_take (i := 14) (v := .int .i64 (b : Int)) rfl (by kernel_rfl) (by kernel_rfl) (by kernel_rfl) (fun _ _ _ h => h) (Or.inl ⟨by rfl, fun w hSw => by (try dsimp only at hSw); go_simp⟩) (by assumption) ?_
                try simp only [List.getElem_toArray, List.getElem_cons_zero, List.getElem_cons_succ, Act.put, List.setIfInBounds_toArray, List.set_cons_zero, List.set_cons_succ]
                refine wpAnyH_take (i := 16) (v := .pointer (some ⟨Z, 194, none⟩)) rfl (by kernel_rfl) (by kernel_rfl) (by kernel_rfl) (fun _ _ _ h => h) (Or.inl ⟨by rfl, fun w hSw => by (try dsimp only at hSw); go_simp⟩) (by assumption) ?_
                try simp only [List.getElem_toArray, List.getElem_cons_zero, List.getElem_cons_succ, Act.put, List.setIfInBounds_toArray, List.set_cons_zero, List.set_cons_succ]
                refine wpAnyH_take (i := 17) (v := .int .i64 (c.B : Int)) rfl (by kernel_rfl) (by kernel_rfl) (by kernel_rfl) (fun _ _ _ h => h) (Or.inl ⟨by rfl, fun w hSw => by (try dsimp only at hSw); go_simp⟩) (by assumption) ?_
                try simp only [List.getElem_toArray, List.getElem_cons_zero, List.getElem_cons_succ, Act.put, List.setIfInBounds_toArray, List.set_cons_zero, List.set_cons_succ]
                refine wpAnyH_ready (rs := [13]) (by kernel_rfl) (by simp) ?_
                refine AllReadyH.cons (i := 13) rfl (fun K hK => ?_) AllReadyH.nil
                go_simp
                refine (hSz _ k0).mono ?_
                rintro e w3 ⟨rfl, h3⟩
                replace k0 := kept_trans k0 h3
                clear h3
                clear hHeld
                show K _ _
                refine hK.out _ _ (HS1.out _ k0) (fun hHeld => ?_)
                clear hK K
                try simp only [List.getElem_toArray, List.getElem_cons_zero, List.getElem_cons_succ, Act.put, List.setIfInBounds_toArray, List.set_cons_zero, List.set_cons_succ]
                refine wpAnyH_take (i := 15) (v := .int .i64 (zb : Int)) rfl (by kernel_rfl) (by kernel_rfl) (by kernel_rfl) (fun _ _ _ h => h) (Or.inl ⟨by rfl, fun w hSw => by (try dsimp only at hSw); go_simp⟩) (by assumption) ?_
                try simp only [List.getElem_toArray, List.getElem_cons_zero, List.getElem_cons_succ, Act.put, List.setIfInBounds_toArray, List.set_cons_zero, List.set_cons_succ]
                refine wpAnyH_take (i := 18) (v := .bool false) rfl (by kernel_rfl) (by kernel_rfl) (by kernel_rfl) (fun _ _ _ h => h) (Or.inl ⟨by rfl, fun w hSw => by (try dsimp only at hSw); go_simp⟩) (by assumption) ?_
                try simp only [List.getElem_toArray, List.getElem_cons_zero, List.getElem_cons_succ, Act.put, List.setIfInBounds_toArray, List.set_cons_zero, List.set_cons_succ]
                refine wpAnyH_take (i := 19) (v := .bool false) rfl (by kernel_rfl) (by kernel_rfl) (by kernel_rfl) (fun _ _ _ h => h) (Or.inl ⟨by rfl, fun w hSw => by (try dsimp only at hSw); go_simp⟩) (by assumption) ?_
                try simp only [List.getElem_toArray, List.getElem_cons_zero, List.getElem_cons_succ, Act.put, List.setIfInBounds_toArray, List.set_cons_zero, List.set_cons_succ]
                refine wpAnyH_take (i := 20) (v := .bool false) rfl (by kernel_rfl) (by kernel_rfl) (by kernel_rfl) (fun _ _ _ h => h) (Or.inl ⟨by rfl, fun w hSw => by (try dsimp only at hSw); go_simp⟩) (by assumption) ?_
                try simp only [List.getElem_toArray, List.getElem_cons_zero, List.getElem_cons_succ, Act.put, List.setIfInBounds_toArray, List.set_cons_zero, List.set_cons_succ]
                refine wpAnyH_done (by kernel_rfl) ?_ _
                refine NoPanic.normal ?_
                clear hHeld
                clear hg hg2 hg3 hcn hov hSz hzb hzb5 hzb4 hzw
                have HTx := hid (tn_trans HTr.out (tn_kept k0))
                have HAx := hid (at_kept HAr.out k0)
                have HKx := hid (kept_tn HKa0.out (F := fun k => k = Z) (fun k hk => by rw [hk, HG.out.1]; exact Nat.le_refl _) HTx.out)
                have HYx := hid (at_tn HYa.out HTx.out (by have := HG.out; omega))
                have HZx := hid (at_tn HZa.out HTx.out (by have := HG.out; omega))
                clear k0 HS1
                have HRoom2 : Hid (room c (lenR r) ⟨woK s.L r.key, s.fl, s.ev⟩ = ⟨M.take n, f, ev⟩) := hid (by
                  rw [Hb.out, ← HMm.out, ← HRoom.out]
                  exact room_stop HOv.out)
                have HNew : Hid (putS c s r now = ⟨r :: M.take n, f, ev⟩ ∧ putB c s r now = true ∧ putE c s r now = 0) := hid (by
                  obtain ⟨h1, h2, h3⟩ := put_100 HPK.out
                  refine ⟨?_, h1, h2⟩
                  rw [h3]
                  unfold newer
                  rw [HRoom2.out])
                have HLdY := hid (load42 HYx.out rfl)
                obtain ⟨w4, hw4⟩ : ∃ w4, w3.alloc (.cells #[.string r.key, .int .u64 r.s.p, .int .u32 r.s.l, .int .u8 r.s.n, .int .u8 r.kind, .int .u32 r.flags, .int .u64 r.exp, .string r.body] 42) = w4 := ⟨_, rfl⟩
                obtain ⟨G, hG⟩ : ∃ G, w3.heap.size = G := ⟨_, rfl⟩
                have K4 := kept_alloc (kept_refl w3) (.cells #[.string r.key, .int .u64 r.s.p, .int .u32 r.s.l, .int .u8 r.s.n, .int .u8 r.kind, .int .u32 r.flags, .int .u64 r.exp, .string r.body] 42)
                have A4 := at_new w3 #[.string r.key, .int .u64 r.s.p, .int .u32 r.s.l, .int .u8 r.s.n, .int .u8 r.kind, .int .u32 r.flags, .int .u64 r.exp, .string r.body] 42
                rw [hw4] at K4 A4
                rw [hG] at A4
                have HGx : Hid (Z < G ∧ Zr < G ∧ Y < G) := hid (by
                  have h1 := at_lt HAx.out
                  have h2 := at_lt HZx.out
                  have h3 := at_lt HYx.out
                  omega)
                have HO4 := hid (own_one (B := G) A4 (Nat.le_refl _))
                have HS4 := hid (src_rdr (rdl_take (HRa.out _ (tn_trans HTx.out (tn_kept K4))) hn).1)
                have HB4 : Hid (G ≤ w4.heap.size) := hid (by rw [← hG]; exact K4.2)
                have HGl : Hid (w3.heap.size ≤ G) := hid (Nat.le_of_eq hG)
                have Hl4 : Hid ([r].length + (M.take n).length ≤ 4096) := hid (by have := HN1.out; simp; omega)
                have HK4 := hid K4
                have c4 := (at_cell (at_kept HAx.out K4) 0).trans HSr.out.row
                clear A4 K4 HOv
                go_wp2_with (first | (refine wpList_load42 rfl _ rfl Y rfl #[.string r.key, .int .u64 r.s.p, .int .u32 r.s.l, .int .u8 r.s.n, .int .u8 r.kind, .int .u32 r.flags, .int .u64 r.exp, .string r.body] HLdY.out ?_) | (at_builtin; refine wpList_app rfl _ _ rfl G _ _ [r] (M.take n) rfl HO4.out rfl HS4.out Hl4.out HB4.out ?_; intro v5 w5 hown hgrow; obtain ⟨g5, n5, p5, rfl, H5⟩ := own_as hown; have HK5 := hid (kept_own HO4.out HK4.out HGl.out hgrow); have HO5 := hid hown; clear hown hgrow; obtain ⟨c5, f5⟩ : (w5.cell? ⟨Z, 0, none⟩ = some (.slice A n cap)) ∧ ∀ o, w5.frozen? ⟨Z, o, none⟩ = false := ⟨(at_cell (at_kept HAx.out HK5.out) 0).trans HSr.out.row, at_frozen (at_kept HAx.out HK5.out)⟩; obtain ⟨w8, hw8⟩ : ∃ w8, w5.setCell ⟨Z, 0, none⟩ (.slice (some ⟨g5, 0, none⟩) n5 p5) = w8 := ⟨_, rfl⟩))
                have HT8 : Hid (Tn (fun k => k = Z) w5 w8) := hid (by rw [← hw8]; exact tn_set (F := fun k => k = Z) tn_refl (.inl rfl) _ _)
                obtain ⟨c8, hc8⟩ : ∃ c8, cr.setIfInBounds 0 (.slice (some ⟨g5, 0, none⟩) n5 p5) = c8 := ⟨_, rfl⟩
                have HS8 := hid (sv_row HSr.out (.slice (some ⟨g5, 0, none⟩) n5 p5) rfl)
                rw [hc8] at HS8
                have A8 : At w8 Z c8 36 := by rw [← hw8, ← hc8]; exact at_set (at_kept HAx.out HK5.out) 0 _
                have K8 : Kept w w8 := kept_tn (kept_trans HKx.out HK5.out) (F := fun k => k = Z) (fun k hk => by rw [hk, HG.out.1]; exact Nat.le_refl _) HT8.out
                have B8 : At w8 Zr zs 36 := at_tn (at_kept HZx.out HK5.out) HT8.out (by have := HG.out; omega)
                have HF := hid (ret_facts K8 A8 B8 HZs.out HS8.out (by have := HG.out; omega) (by have := HG.out; omega))
                have HO8 : Hid (Own (w8.drew.setRow Zr c8) G (.slice (some ⟨g5, 0, none⟩) n5 p5) ([r] ++ M.take n)) := hid (own_tnL (F := fun k => k = Z ∨ k = Zr) HO5.out (tn_setRow (F := fun k => k = Z ∨ k = Zr) (tn_drew (tn_mono HT8.out (fun k hk => Or.inl hk))) (Or.inl (Or.inr rfl)) _) (fun k hk => by have := HGx.out; omega))
                have HEnd : Hid (PutR c s cs r now w (.returned (.tuple #[.bool true, .int .i64 0, .agg c8])) (w8.drew.setRow Zr c8)) := hid ⟨c8, by rw [HNew.out.2.1, HNew.out.2.2], HF.out.2.2.2.1, by rw [HNew.out.1]; exact ⟨_, HS8.out, rdl_own HO8.out⟩, row_new HS8.out HO8.out (by have := HGx.out; have := HG.out; omega)⟩
                clear A8 K8 B8 hc8 c5 f5 hw8 hw4 c4 hG
                go_wp2_with fail
                refine wp_region_noPanic ?_
                refine wp_region_held_drew (S := (fun w' => At w' Z c8 36)) (by kernel_rfl) (HF.out.2.2.2.2) (fun hHeld => ?_)
                generalize w8.drew = wq3 at *
                refine wpAnyH_take (i := 0) (v := .agg c8) rfl (by kernel_rfl) (by kernel_rfl) (by kernel_rfl) (fun _ _ _ h => h) (Or.inl ⟨by rfl, fun w hSw => exec_load36 _ rfl rfl (load36 hSw HS8.out)⟩) (by assumption) ?_
                try simp only [List.getElem_toArray, List.getElem_cons_zero, List.getElem_cons_succ, Act.put, List.setIfInBounds_toArray, List.set_cons_zero, List.set_cons_succ]
                refine wpAnyH_take (i := 1) (v := .bool true) rfl (by kernel_rfl) (by kernel_rfl) (by kernel_rfl) (fun _ _ _ h => h) (Or.inl ⟨by rfl, fun w hSw => by (try dsimp only at hSw); go_simp⟩) (by assumption) ?_
                try simp only [List.getElem_toArray, List.getElem_cons_zero, List.getElem_cons_succ, Act.put, List.setIfInBounds_toArray, List.set_cons_zero, List.set_cons_succ]
                refine wpAnyH_take (i := 2) (v := .int .i64 0) rfl (by kernel_rfl) (by kernel_rfl) (by kernel_rfl) (fun _ _ _ h => h) (Or.inl ⟨by rfl, fun w hSw => by (try dsimp only at hSw); go_simp⟩) (by assumption) ?_
                try simp only [List.getElem_toArray, List.getElem_cons_zero, List.getElem_cons_succ, Act.put, List.setIfInBounds_toArray, List.set_cons_zero, List.set_cons_succ]
                refine wpAnyH_ready (rs := [3]) (by kernel_rfl) (by simp) ?_
                refine AllReadyH.cons (i := 3) rfl (fun K hK => ?_) AllReadyH.nil
                rw [if_pos (by rfl)]
                refine wp_store36 _ _ rfl Zr rfl c8 rfl (wq3.setRow Zr c8) HF.out.1 ?_
                clear hHeld
                refine hK.out _ _ (HF.out.2.2.1) (fun hHeld => ?_)
                clear hK K
                try simp only [List.getElem_toArray, List.getElem_cons_zero, List.getElem_cons_succ, Act.put, List.setIfInBounds_toArray, List.set_cons_zero, List.set_cons_succ]
                refine wpAnyH_done (by kernel_rfl) ?_ _
                refine NoPanic.normal ?_
                clear hHeld
                go_wp2_with fail
                exact bodyPost_ret (resP Tryz.results15 _ rfl rfl rfl HF.out.2.1) rfl HEnd.out
      · have hge : decide ((0 : Int) ≤ (j : Int)) = true := decide_eq_true (by omega)
        have hka := keys_at HKs.out hr
        rw [hrk] at hka
        have HKa := hid hka
        have HKey := hid hrk
        have Hqm : Hid (q.body.size ≤ maxLen) := hid (by have := (may_len (HFit.out.may q (List.mem_of_getElem? hr))).1; unfold lenR at this; unfold maxLen; omega)
        have HLj := hid hj
        have HL3 := hid (rdl_kept HL.out (kept_trans HK.out HK3.out))
        obtain ⟨N, hN⟩ : ∃ N, s.L.length = N := ⟨_, rfl⟩
        have HN := hid hN
        have hN1 : N ≤ 1000 := by omega
        have hjN : j < N := by omega
        obtain ⟨Q, rfl, q', hq', hc8⟩ := (rdr_at HL3.out.1).2 j hj
        rw [hr] at hq'
        injection hq' with hq'
        have HQl : Hid (∀ u, Kept w3 u → C8 u Q (j * 8) q) := hid (fun u ku => by
          obtain ⟨q2, e2, r2', h2, c8⟩ := (rdr_at (rdl_kept HL3.out ku).1).2 j HLj.out
          injection e2 with e2
          injection e2 with e2
          rw [hr] at h2
          injection h2 with h2
          rw [e2, h2]; exact c8)
        clear hq' hc8 hr hrk hka q'
        have hq := idxR Q N cap j hjN (by omega)
        have HS1 : Hid (∀ u, Kept w3 u → (u.cell? ⟨Z, 0, none⟩ = some (.slice (some ⟨Q, 0, none⟩) N cap)) ∧ (u.cell? ⟨Y, 0, none⟩ = some (.string r.key) ∧ u.cell? ⟨Y, 1, none⟩ = some (.int .u64 r.s.p) ∧ u.cell? ⟨Y, 2, none⟩ = some (.int .u32 r.s.l) ∧ u.cell? ⟨Y, 3, none⟩ = some (.int .u8 r.s.n) ∧ u.cell? ⟨Y, 4, none⟩ = some (.int .u8 r.kind) ∧ u.cell? ⟨Y, 5, none⟩ = some (.int .u32 r.flags) ∧ u.cell? ⟨Y, 6, none⟩ = some (.int .u64 r.exp) ∧ u.cell? ⟨Y, 7, none⟩ = some (.string r.body)) ∧ (u.cell? ⟨Q, j * 8, none⟩ = some (.string q.key) ∧ u.cell? ⟨Q, j * 8 + 1, none⟩ = some (.int .u64 q.s.p) ∧ u.cell? ⟨Q, j * 8 + 2, none⟩ = some (.int .u32 q.s.l) ∧ u.cell? ⟨Q, j * 8 + 3, none⟩ = some (.int .u8 q.s.n) ∧ u.cell? ⟨Q, j * 8 + 4, none⟩ = some (.int .u8 q.kind) ∧ u.cell? ⟨Q, j * 8 + 5, none⟩ = some (.int .u32 q.flags) ∧ u.cell? ⟨Q, j * 8 + 6, none⟩ = some (.int .u64 q.exp) ∧ u.cell? ⟨Q, j * 8 + 7, none⟩ = some (.string q.body))) := hid (fun u ku => ⟨by rw [← HN.out]; exact (at_cell (at_kept HA03.out ku) 0).trans HS.out.row, at_cells8' (at_kept HA13.out ku), HQl.out u ku⟩)
        obtain ⟨c0, ⟨y0, y1, y2, y3, y4, y5, y6, y7⟩, r0, r1, r2, r3, r4, r5, r6, r7⟩ := HS1.out w3 (kept_refl w3)
        have hE := eq_rec q r
        clear hj hN
        have h0 : ¬ cmpR r q = 0 := fun h0 => absurd (HPK.out.symm.trans (show putK c s r now = 0 by rw [pk_some Hm.out Ho.out HKa.out.2, if_pos h0])) (by decide)
        have h1 : 0 ≤ cmpR r q := Int.not_lt.1 fun h1 => absurd (HPK.out.symm.trans (show putK c s r now = 8 by rw [pk_some Hm.out Ho.out HKa.out.2, if_neg h0, if_pos h1])) (by decide)
        have hB : b ≤ c.B := Nat.le_of_not_lt fun hB => absurd (HPK.out.symm.trans (show putK c s r now = 6 by rw [pk_some Hm.out Ho.out HKa.out.2, if_neg h0, if_neg (by omega), Hb.out, if_pos hB])) (by decide)
        have hsm := same_not h0
        go_wp2_with fail
        go_quiet (fail)
        have k4 : Kept w3 (w3.drewN nq) := kept_drewN (kept_refl w3) nq
        clear c0 y0 y1 y2 y3 y4 y5 y6 y7 r0 r1 r2 r3 r4 r5 r6 r7 hE
        generalize w3.drewN nq = w4 at *
        clear hsm
        have hHS : ∀ u, Kept w4 u → Kept w3 u := fun u ku => kept_trans k4 ku
        have k0 : Kept w3 w4.drew := k4
        clear k4 hHS
        have hls := less_not (r := r) (q := q) (by omega)
        go_wp2_with fail
        refine wp_region_noPanic ?_
        refine wp_region_held_drew (S := (fun w' => (w'.cell? ⟨Z, 0, none⟩ = some (.slice (some ⟨Q, 0, none⟩) N cap)) ∧ (w'.cell? ⟨Y, 0, none⟩ = some (.string r.key) ∧ w'.cell? ⟨Y, 1, none⟩ = some (.int .u64 r.s.p) ∧ w'.cell? ⟨Y, 2, none⟩ = some (.int .u32 r.s.l) ∧ w'.cell? ⟨Y, 3, none⟩ = some (.int .u8 r.s.n) ∧ w'.cell? ⟨Y, 4, none⟩ = some (.int .u8 r.kind) ∧ w'.cell? ⟨Y, 5, none⟩ = some (.int .u32 r.flags) ∧ w'.cell? ⟨Y, 6, none⟩ = some (.int .u64 r.exp) ∧ w'.cell? ⟨Y, 7, none⟩ = some (.string r.body)) ∧ (w'.cell? ⟨Q, j * 8, none⟩ = some (.string q.key) ∧ w'.cell? ⟨Q, j * 8 + 1, none⟩ = some (.int .u64 q.s.p) ∧ w'.cell? ⟨Q, j * 8 + 2, none⟩ = some (.int .u32 q.s.l) ∧ w'.cell? ⟨Q, j * 8 + 3, none⟩ = some (.int .u8 q.s.n) ∧ w'.cell? ⟨Q, j * 8 + 4, none⟩ = some (.int .u8 q.kind) ∧ w'.cell? ⟨Q, j * 8 + 5, none⟩ = some (.int .u32 q.flags) ∧ w'.cell? ⟨Q, j * 8 + 6, none⟩ = some (.int .u64 q.exp) ∧ w'.cell? ⟨Q, j * 8 + 7, none⟩ = some (.string q.body)))) (by kernel_rfl) (HS1.out _ k0) (fun hHeld => ?_)
        generalize w4.drew = wq at *
        refine wpAnyH_take (i := 0) (v := .agg #[.string r.key, .int .u64 r.s.p, .int .u32 r.s.l, .int .u8 r.s.n, .int .u8 r.kind, .int .u32 r.flags, .int .u64 r.exp, .string r.body]) rfl (by kernel_rfl) (by kernel_rfl) (by kernel_rfl) (fun _ _ _ h => h) (Or.inl ⟨by rfl, fun w hSw => by (try dsimp only at hSw); go_simp⟩) (by assumption) ?_
        try simp only [List.getElem_toArray, List.getElem_cons_zero, List.getElem_cons_succ, Act.put, List.setIfInBounds_toArray, List.set_cons_zero, List.set_cons_succ]
        refine wpAnyH_take (i := 1) (v := .pointer (some ⟨Z, 0, none⟩)) rfl (by kernel_rfl) (by kernel_rfl) (by kernel_rfl) (fun _ _ _ h => h) (Or.inl ⟨by rfl, fun w hSw => by (try dsimp only at hSw); go_simp⟩) (by assumption) ?_
        try simp only [List.getElem_toArray, List.getElem_cons_zero, List.getElem_cons_succ, Act.put, List.setIfInBounds_toArray, List.set_cons_zero, List.set_cons_succ]
        refine wpAnyH_take (i := 2) (v := .slice (some ⟨Q, 0, none⟩) N cap) rfl (by kernel_rfl) (by kernel_rfl) (by kernel_rfl) (fun _ _ _ h => h) (Or.inl ⟨by rfl, fun w hSw => by (try dsimp only at hSw); go_simp⟩) (by assumption) ?_
        try simp only [List.getElem_toArray, List.getElem_cons_zero, List.getElem_cons_succ, Act.put, List.setIfInBounds_toArray, List.set_cons_zero, List.set_cons_succ]
        refine wpAnyH_take (i := 3) (v := .int .i64 (j : Int)) rfl (by kernel_rfl) (by kernel_rfl) (by kernel_rfl) (fun _ _ _ h => h) (Or.inl ⟨by rfl, fun w hSw => by (try dsimp only at hSw); go_simp⟩) (by assumption) ?_
        try simp only [List.getElem_toArray, List.getElem_cons_zero, List.getElem_cons_succ, Act.put, List.setIfInBounds_toArray, List.set_cons_zero, List.set_cons_succ]
        refine wpAnyH_take (i := 4) (v := .pointer (some ⟨Q, j * 8, none⟩)) rfl (by kernel_rfl) (by kernel_rfl) (by kernel_rfl) (fun _ _ _ h => h) (Or.inl ⟨by rfl, fun w hSw => by (try dsimp only at hSw); go_simp⟩) (by assumption) ?_
        try simp only [List.getElem_toArray, List.getElem_cons_zero, List.getElem_cons_succ, Act.put, List.setIfInBounds_toArray, List.set_cons_zero, List.set_cons_succ]
        refine wpAnyH_take (i := 5) (v := .agg #[.string q.key, .int .u64 q.s.p, .int .u32 q.s.l, .int .u8 q.s.n, .int .u8 q.kind, .int .u32 q.flags, .int .u64 q.exp, .string q.body]) rfl (by kernel_rfl) (by kernel_rfl) (by kernel_rfl) (fun _ _ _ h => h) (Or.inl ⟨by rfl, fun w hSw => by (try dsimp only at hSw); go_simp⟩) (by assumption) ?_
        try simp only [List.getElem_toArray, List.getElem_cons_zero, List.getElem_cons_succ, Act.put, List.setIfInBounds_toArray, List.set_cons_zero, List.set_cons_succ]
        refine wpAnyH_ready (rs := [6]) (by kernel_rfl) (by simp) ?_
        refine AllReadyH.cons (i := 6) rfl (fun K hK => ?_) AllReadyH.nil
        go_simp
        refine (refLess_any r q Hbs.out Hqm.out _).mono ?_
        rintro e w5 ⟨rfl, h3⟩
        replace k0 := kept_trans k0 h3
        clear h3
        rw [hls]
        clear hHeld
        show K _ _
        refine hK.out _ _ (HS1.out _ k0) (fun hHeld => ?_)
        clear hK K
        try simp only [List.getElem_toArray, List.getElem_cons_zero, List.getElem_cons_succ, Act.put, List.setIfInBounds_toArray, List.set_cons_zero, List.set_cons_succ]
        refine wpAnyH_done (by kernel_rfl) ?_ _
        refine NoPanic.normal ?_
        clear hHeld
        have HK5 := hid (kept_trans HK3.out k0)
        clear k0 hq hls
        have HA05 := hid (at_kept HA0.out HK5.out)
        have HA15 := hid (at_kept HA1.out HK5.out)
        obtain ⟨y0, y1, y2, y3, y4, y5, y6, y7⟩ := at_cells8' HA15.out
        have cB := (at_cell HA05.out 194).trans HS.out.B
        have c05 := (at_cell HA05.out 0).trans HS.out.row
        rw [HN.out] at c05
        have hgB : decide ((c.B : Int) < (b : Int)) = false := decide_eq_false (by omega)
        have hgB2 : decide (c.B < b) = false := decide_eq_false (by omega)
        go_wp2_with fail
        have hwo := without_any HLj.out (by omega) w5 (rdl_kept HL.out (kept_trans HK.out HK5.out))
        rw [HN.out] at hwo
        refine hwo.mono ?_
        rintro e w6 ⟨v6, rfl, k6, o6⟩
        clear hwo y0 y1 y2 y3 y4 y5 y6 y7 cB hgB hgB2 c05 HS1
        have HK6 := hid (kept_trans HK5.out k6)
        have HB6 : Hid (Z + 3 ≤ w5.heap.size) := hid (by rw [← HG.out.2.2.2]; exact HK5.out.2)
        obtain ⟨M, hM⟩ : ∃ M, s.L.take j ++ s.L.drop (j + 1) = M := ⟨_, rfl⟩
        rw [hM] at o6
        have HMm : Hid (M = woK s.L r.key) := hid (by rw [← hM]; exact HKa.out.1)
        have HO6 := hid o6
        obtain ⟨g6, n6, p6, rfl, H6⟩ := own_as o6
        clear o6 k6 hM
        obtain ⟨c06, f06⟩ : (w6.cell? ⟨Z, 0, none⟩ = some (.slice (some ⟨Q, 0, none⟩) N cap)) ∧ (∀ o, w6.frozen? ⟨Z, o, none⟩ = false) := ⟨by rw [← HN.out]; exact (at_cell (at_kept HA0.out HK6.out) 0).trans HS.out.row, at_frozen (at_kept HA0.out HK6.out)⟩
        obtain ⟨wa, hwa⟩ : ∃ wa, w6.setCell ⟨Z, 0, none⟩ (.slice (some ⟨g6, 0, none⟩) n6 p6) = wa := ⟨_, rfl⟩
        have HT6 : Hid (Tn (fun k => k = Z) w6 wa) := hid (by rw [← hwa]; exact tn_set (F := fun k => k = Z) tn_refl (.inl rfl) _ _)
        obtain ⟨ca, hca⟩ : ∃ ca, cs.setIfInBounds 0 (.slice (some ⟨g6, 0, none⟩) n6 p6) = ca := ⟨_, rfl⟩
        have HSa := hid (sv_row HS.out (.slice (some ⟨g6, 0, none⟩) n6 p6) rfl)
        rw [hca] at HSa
        have HAa : Hid (At wa Z ca 36) := hid (by rw [← hwa, ← hca]; exact at_set (at_kept HA0.out HK6.out) 0 _)
        have HKa0 : Hid (Kept w wa) := hid (kept_tn (kept_trans HK.out HK6.out) (fun k hk => by rw [hk, HG.out.1]; exact Nat.le_refl _) HT6.out)
        have HYa : Hid (At wa Y #[.string r.key, .int .u64 r.s.p, .int .u32 r.s.l, .int .u8 r.s.n, .int .u8 r.kind, .int .u32 r.flags, .int .u64 r.exp, .string r.body] 42) := hid (at_tn (at_kept HA1.out HK6.out) HT6.out (by have := HG.out; omega))
        have HZa : Hid (At wa Zr zs 36) := hid (at_tn (at_kept HA2.out HK6.out) HT6.out (by have := HG.out; omega))
        have Hn6 : Hid (n6 = M.length) := hid H6.out.1
        have HRa : Hid (∀ u, Tn (fun k => k = Z) wa u → RdL u (.slice (some ⟨g6, 0, none⟩) M.length p6) M) := hid (fun u t => by
          rw [← Hn6.out]
          exact rdl_own (own_tnL (F := fun k => k = Z) (own_tnL (F := fun k => k = Z) HO6.out HT6.out (fun k hk => by have := HB6.out; omega)) t (fun k hk => by have := HB6.out; omega)))
        clear hca
        go_wp2_with fail
        clear c06 f06 hwa
        rw [Hn6.out] at HSa
        clear Hn6 H6
        obtain ⟨N1, hN1⟩ : ∃ N1, M.length = N1 := ⟨_, rfl⟩
        rw [hN1] at HSa HRa
        have HN1 := hid hN1
        have hNb : N1 ≤ 1000 := by
          have h1 := wo_len s.L r.key
          rw [← HMm.out] at h1
          omega
        have HMs : Hid (∀ n, sizeL (M.take n) ≤ 1048576) := hid (fun n => by
          have h1 := wo_size s.L r.key
          rw [← HMm.out] at h1
          have h2 := HFit.out.size
          have h3 := size_le M n
          omega)
        have HMy : Hid (∀ x ∈ M, mayR x = true) := hid (fun x hx => by
          rw [HMm.out] at hx
          exact HFit.out.may x (woK_mem.1 hx).1)
        clear hN1
        obtain ⟨A, hA⟩ : ∃ A : Option Addr, (some ⟨g6, 0, none⟩) = A := ⟨_, rfl⟩
        rw [hA] at HSa HRa
        clear hA
        go_loopw [11, 12] (fun _ _ wr => ∃ (n ev : Nat) (f : Nat → Stp) (cr : Array Value), n ≤ N1 ∧ ev + n ≤ 900001000 ∧ Hid (At wr Z cr 36) ∧ Hid (Sv cr (.slice A n p6) f c ev) ∧ Hid (Tn (fun k => k = Z) wa wr) ∧ Hid (room c b ⟨M.take n, f, ev⟩ = room c b ⟨M, s.fl, s.ev⟩)) (fun _ _ wr => rowLen wr Z)
        case atStart => exact ⟨N1, s.ev, s.fl, ca, Nat.le_refl _, by omega, HAa, HSa, hid tn_refl, hid (by rw [← HN1.out, List.take_length])⟩
        case round =>
          obtain ⟨n, ev, f, cr, hn, hevn, HAr, HSr, HTr, HRoom⟩ := hrel
          obtain ⟨b0, bn, bB⟩ : cr[0]? = some (.slice A n p6) ∧ cr[193]? = some (.int .i64 (c.n : Int)) ∧ cr[194]? = some (.int .i64 (c.B : Int)) := ⟨HSr.out.row, HSr.out.n, HSr.out.B⟩
          have HS1 : Hid (∀ u, Kept wr u → (u.cell? ⟨Z, 0, none⟩ = some (.slice A n p6)) ∧ (u.cell? ⟨Z, 193, none⟩ = some (.int .i64 (c.n : Int))) ∧ (u.cell? ⟨Z, 194, none⟩ = some (.int .i64 (c.B : Int))) ∧ Hid (At u Z cr 36)) := hid (fun u ku => ⟨(at_cell (at_kept HAr.out ku) 0).trans b0, (at_cell (at_kept HAr.out ku) 193).trans bn, (at_cell (at_kept HAr.out ku) 194).trans bB, hid (at_kept HAr.out ku)⟩)
          have HLen : Hid (rowLen wr Z = n) := hid (rowLen_at (HS1.out wr (kept_refl wr)).1)
          clear b0 bn bB
          have k0 : Kept wr wr.drew := kept_refl wr
          have hnb : n ≤ 1000 := by omega
          by_cases hn0 : n = 0
          · have hg : decide ((0 : Int) < (n : Int)) = false := decide_eq_false (by omega)
            have HOv : Hid (¬ over c b (M.take n)) := hid (by rw [hn0, List.take_zero]; exact over_none Hc.out (by omega))
            go_wp2_with fail
            refine wp_region_noPanic ?_
            refine wp_region_held_drew (S := (fun w' => (w'.cell? ⟨Z, 0, none⟩ = some (.slice A n p6)) ∧ (w'.cell? ⟨Z, 193, none⟩ = some (.int .i64 (c.n : Int))) ∧ (w'.cell? ⟨Z, 194, none⟩ = some (.int .i64 (c.B : Int))) ∧ (Hid (At w' Z cr 36)))) (by kernel_rfl) (HS1.out _ k0) (fun hHeld => ?_)
            generalize wr.drew = wq at *
            refine wpAnyH_take (i := 0) (v := .pointer (some ⟨Z, 0, none⟩)) rfl (by kernel_rfl) (by kernel_rfl) (by kernel_rfl) (fun _ _ _ h => h) (Or.inl ⟨by rfl, fun w hSw => by (try dsimp only at hSw); go_simp⟩) (by assumption) ?_
            try simp only [List.getElem_toArray, List.getElem_cons_zero, List.getElem_cons_succ, Act.put, List.setIfInBounds_toArray, List.set_cons_zero, List.set_cons_succ]
            refine wpAnyH_take (i := 1) (v := .slice A n p6) rfl (by kernel_rfl) (by kernel_rfl) (by kernel_rfl) (fun _ _ _ h => h) (Or.inl ⟨by rfl, fun w hSw => by (try dsimp only at hSw); go_simp⟩) (by assumption) ?_
            try simp only [List.getElem_toArray, List.getElem_cons_zero, List.getElem_cons_succ, Act.put, List.setIfInBounds_toArray, List.set_cons_zero, List.set_cons_succ]
            refine wpAnyH_take (i := 2) (v := .int .i64 (n : Int)) rfl (by kernel_rfl) (by kernel_rfl) (by kernel_rfl) (fun _ _ _ h => h) (Or.inl ⟨by rfl, fun w hSw => by (try dsimp only at hSw); go_simp⟩) (by assumption) ?_
            try simp only [List.getElem_toArray, List.getElem_cons_zero, List.getElem_cons_succ, Act.put, List.setIfInBounds_toArray, List.set_cons_zero, List.set_cons_succ]
            refine wpAnyH_take (i := 3) (v := .bool false) rfl (by kernel_rfl) (by kernel_rfl) (by kernel_rfl) (fun _ _ _ h => h) (Or.inl ⟨by rfl, fun w hSw => by (try dsimp only at hSw); go_simp⟩) (by assumption) ?_
            try simp only [List.getElem_toArray, List.getElem_cons_zero, List.getElem_cons_succ, Act.put, List.setIfInBounds_toArray, List.set_cons_zero, List.set_cons_succ]
            refine wpAnyH_take (i := 4) (v := .bool false) rfl (by kernel_rfl) (by kernel_rfl) (by kernel_rfl) (fun _ _ _ h => h) (Or.inl ⟨by rfl, fun w hSw => by (try dsimp only at hSw); go_simp⟩) (by assumption) ?_
            try simp only [List.getElem_toArray, List.getElem_cons_zero, List.getElem_cons_succ, Act.put, List.setIfInBounds_toArray, List.set_cons_zero, List.set_cons_succ]
            refine wpAnyH_take (i := 5) (v := undef) rfl (by kernel_rfl) (by kernel_rfl) (by kernel_rfl) (fun _ _ _ h => h) (Or.inr ⟨by rfl, rfl⟩) (by assumption) ?_
            try simp only [List.getElem_toArray, List.getElem_cons_zero, List.getElem_cons_succ, Act.put, List.setIfInBounds_toArray, List.set_cons_zero, List.set_cons_succ]
            refine wpAnyH_take (i := 6) (v := undef) rfl (by kernel_rfl) (by kernel_rfl) (by kernel_rfl) (fun _ _ _ h => h) (Or.inr ⟨by rfl, rfl⟩) (by assumption) ?_
            try simp only [List.getElem_toArray, List.getElem_cons_zero, List.getElem_cons_succ, Act.put, List.setIfInBounds_toArray, List.set_cons_zero, List.set_cons_succ]
            refine wpAnyH_take (i := 7) (v := undef) rfl (by kernel_rfl) (by kernel_rfl) (by kernel_rfl) (fun _ _ _ h => h) (Or.inr ⟨by rfl, rfl⟩) (by assumption) ?_
            try simp only [List.getElem_toArray, List.getElem_cons_zero, List.getElem_cons_succ, Act.put, List.setIfInBounds_toArray, List.set_cons_zero, List.set_cons_succ]
            refine wpAnyH_take (i := 8) (v := undef) rfl (by kernel_rfl) (by kernel_rfl) (by kernel_rfl) (fun _ _ _ h => h) (Or.inr ⟨by rfl, rfl⟩) (by assumption) ?_
            try simp only [List.getElem_toArray, List.getElem_cons_zero, List.getElem_cons_succ, Act.put, List.setIfInBounds_toArray, List.set_cons_zero, List.set_cons_succ]
            refine wpAnyH_take (i := 9) (v := undef) rfl (by kernel_rfl) (by kernel_rfl) (by kernel_rfl) (fun _ _ _ h => h) (Or.inr ⟨by rfl, rfl⟩) (by assumption) ?_
            try simp only [List.getElem_toArray, List.getElem_cons_zero, List.getElem_cons_succ, Act.put, List.setIfInBounds_toArray, List.set_cons_zero, List.set_cons_succ]
            refine wpAnyH_take (i := 10) (v := undef) rfl (by kernel_rfl) (by kernel_rfl) (by kernel_rfl) (fun _ _ _ h => h) (Or.inr ⟨by rfl, rfl⟩) (by assumption) ?_
            try simp only [List.getElem_toArray, List.getElem_cons_zero, List.getElem_cons_succ, Act.put, List.setIfInBounds_toArray, List.set_cons_zero, List.set_cons_succ]
            refine wpAnyH_take (i := 11) (v := undef) rfl (by kernel_rfl) (by kernel_rfl) (by kernel_rfl) (fun _ _ _ h => h) (Or.inr ⟨by rfl, rfl⟩) (by assumption) ?_
            try simp only [List.getElem_toArray, List.getElem_cons_zero, List.getElem_cons_succ, Act.put, List.setIfInBounds_toArray, List.set_cons_zero, List.set_cons_succ]
            refine wpAnyH_take (i := 12) (v := undef) rfl (by kernel_rfl) (by kernel_rfl) (by kernel_rfl) (fun _ _ _ h => h) (Or.inr ⟨by rfl, rfl⟩) (by assumption) ?_
            try simp only [List.getElem_toArray, List.getElem_cons_zero, List.getElem_cons_succ, Act.put, List.setIfInBounds_toArray, List.set_cons_zero, List.set_cons_succ]
            refine wpAnyH_take (i := 13) (v := undef) rfl (by kernel_rfl) (by kernel_rfl) (by kernel_rfl) (fun _ _ _ h => h) (Or.inr ⟨by rfl, rfl⟩) (by assumption) ?_
            try simp only [List.getElem_toArray, List.getElem_cons_zero, List.getElem_cons_succ, Act.put, List.setIfInBounds_toArray, List.set_cons_zero, List.set_cons_succ]
            refine wpAnyH_take (i := 14) (v := undef) rfl (by kernel_rfl) (by kernel_rfl) (by kernel_rfl) (fun _ _ _ h => h) (Or.inr ⟨by rfl, rfl⟩) (by assumption) ?_
            try simp only [List.getElem_toArray, List.getElem_cons_zero, List.getElem_cons_succ, Act.put, List.setIfInBounds_toArray, List.set_cons_zero, List.set_cons_succ]
            refine wpAnyH_take (i := 15) (v := undef) rfl (by kernel_rfl) (by kernel_rfl) (by kernel_rfl) (fun _ _ _ h => h) (Or.inr ⟨by rfl, rfl⟩) (by assumption) ?_
            try simp only [List.getElem_toArray, List.getElem_cons_zero, List.getElem_cons_succ, Act.put, List.setIfInBounds_toArray, List.set_cons_zero, List.set_cons_succ]
            refine wpAnyH_take (i := 16) (v := undef) rfl (by kernel_rfl) (by kernel_rfl) (by kernel_rfl) (fun _ _ _ h => h) (Or.inr ⟨by rfl, rfl⟩) (by assumption) ?_
            try simp only [List.getElem_toArray, List.getElem_cons_zero, List.getElem_cons_succ, Act.put, List.setIfInBounds_toArray, List.set_cons_zero, List.set_cons_succ]
            refine wpAnyH_take (i := 17) (v := undef) rfl (by kernel_rfl) (by kernel_rfl) (by kernel_rfl) (fun _ _ _ h => h) (Or.inr ⟨by rfl, rfl⟩) (by assumption) ?_
            try simp only [List.getElem_toArray, List.getElem_cons_zero, List.getElem_cons_succ, Act.put, List.setIfInBounds_toArray, List.set_cons_zero, List.set_cons_succ]
            refine wpAnyH_take (i := 18) (v := undef) rfl (by kernel_rfl) (by kernel_rfl) (by kernel_rfl) (fun _ _ _ h => h) (Or.inr ⟨by rfl, rfl⟩) (by assumption) ?_
            try simp only [List.getElem_toArray, List.getElem_cons_zero, List.getElem_cons_succ, Act.put, List.setIfInBounds_toArray, List.set_cons_zero, List.set_cons_succ]
            refine wpAnyH_take (i := 19) (v := undef) rfl (by kernel_rfl) (by kernel_rfl) (by kernel_rfl) (fun _ _ _ h => h) (Or.inr ⟨by rfl, rfl⟩) (by assumption) ?_
            try simp only [List.getElem_toArray, List.getElem_cons_zero, List.getElem_cons_succ, Act.put, List.setIfInBounds_toArray, List.set_cons_zero, List.set_cons_succ]
            refine wpAnyH_take (i := 20) (v := .bool false) rfl (by kernel_rfl) (by kernel_rfl) (by kernel_rfl) (fun _ _ _ h => h) (Or.inl ⟨by rfl, fun w hSw => by (try dsimp only at hSw); go_simp⟩) (by assumption) ?_
            try simp only [List.getElem_toArray, List.getElem_cons_zero, List.getElem_cons_succ, Act.put, List.setIfInBounds_toArray, List.set_cons_zero, List.set_cons_succ]
            refine wpAnyH_done (by kernel_rfl) ?_ _
            refine NoPanic.normal ?_
            clear hHeld
            clear hg hn0
            have HTx := hid (tn_trans HTr.out (tn_kept k0))
            have HAx := hid (at_kept HAr.out k0)
            have HKx := hid (kept_tn HKa0.out (F := fun k => k = Z) (fun k hk => by rw [hk, HG.out.1]; exact Nat.le_refl _) HTx.out)
            have HYx := hid (at_tn HYa.out HTx.out (by have := HG.out; omega))
            have HZx := hid (at_tn HZa.out HTx.out (by have := HG.out; omega))
            clear k0 HS1
            have HRoom2 : Hid (room c (lenR r) ⟨woK s.L r.key, s.fl, s.ev⟩ = ⟨M.take n, f, ev⟩) := hid (by
              rw [Hb.out, ← HMm.out, ← HRoom.out]
              exact room_stop HOv.out)
            have HNew : Hid (putS c s r now = ⟨r :: M.take n, f, ev⟩ ∧ putB c s r now = true ∧ putE c s r now = 0) := hid (by
              obtain ⟨h1, h2, h3⟩ := put_100 HPK.out
              refine ⟨?_, h1, h2⟩
              rw [h3]
              unfold newer
              rw [HRoom2.out])
            have HLdY := hid (load42 HYx.out rfl)
            obtain ⟨w4, hw4⟩ : ∃ w4, wq.alloc (.cells #[.string r.key, .int .u64 r.s.p, .int .u32 r.s.l, .int .u8 r.s.n, .int .u8 r.kind, .int .u32 r.flags, .int .u64 r.exp, .string r.body] 42) = w4 := ⟨_, rfl⟩
            obtain ⟨G, hG⟩ : ∃ G, wq.heap.size = G := ⟨_, rfl⟩
            have K4 := kept_alloc (kept_refl wq) (.cells #[.string r.key, .int .u64 r.s.p, .int .u32 r.s.l, .int .u8 r.s.n, .int .u8 r.kind, .int .u32 r.flags, .int .u64 r.exp, .string r.body] 42)
            have A4 := at_new wq #[.string r.key, .int .u64 r.s.p, .int .u32 r.s.l, .int .u8 r.s.n, .int .u8 r.kind, .int .u32 r.flags, .int .u64 r.exp, .string r.body] 42
            rw [hw4] at K4 A4
            rw [hG] at A4
            have HGx : Hid (Z < G ∧ Zr < G ∧ Y < G) := hid (by
              have h1 := at_lt HAx.out
              have h2 := at_lt HZx.out
              have h3 := at_lt HYx.out
              omega)
            have HO4 := hid (own_one (B := G) A4 (Nat.le_refl _))
            have HS4 := hid (src_rdr (rdl_take (HRa.out _ (tn_trans HTx.out (tn_kept K4))) hn).1)
            have HB4 : Hid (G ≤ w4.heap.size) := hid (by rw [← hG]; exact K4.2)
            have HGl : Hid (wq.heap.size ≤ G) := hid (Nat.le_of_eq hG)
            have Hl4 : Hid ([r].length + (M.take n).length ≤ 4096) := hid (by have := HN1.out; simp; omega)
            have HK4 := hid K4
            have c4 := (at_cell (at_kept HAx.out K4) 0).trans HSr.out.row
            clear A4 K4 HOv
            go_wp2_with (first | (refine wpList_load42 rfl _ rfl Y rfl #[.string r.key, .int .u64 r.s.p, .int .u32 r.s.l, .int .u8 r.s.n, .int .u8 r.kind, .int .u32 r.flags, .int .u64 r.exp, .string r.body] HLdY.out ?_) | (at_builtin; refine wpList_app rfl _ _ rfl G _ _ [r] (M.take n) rfl HO4.out rfl HS4.out Hl4.out HB4.out ?_; intro v5 w5 hown hgrow; obtain ⟨g5, n5, p5, rfl, H5⟩ := own_as hown; have HK5 := hid (kept_own HO4.out HK4.out HGl.out hgrow); have HO5 := hid hown; clear hown hgrow; obtain ⟨c5, f5⟩ : (w5.cell? ⟨Z, 0, none⟩ = some (.slice A n p6)) ∧ ∀ o, w5.frozen? ⟨Z, o, none⟩ = false := ⟨(at_cell (at_kept HAx.out HK5.out) 0).trans HSr.out.row, at_frozen (at_kept HAx.out HK5.out)⟩; obtain ⟨w8, hw8⟩ : ∃ w8, w5.setCell ⟨Z, 0, none⟩ (.slice (some ⟨g5, 0, none⟩) n5 p5) = w8 := ⟨_, rfl⟩))
            have HT8 : Hid (Tn (fun k => k = Z) w5 w8) := hid (by rw [← hw8]; exact tn_set (F := fun k => k = Z) tn_refl (.inl rfl) _ _)
            obtain ⟨c8, hc8⟩ : ∃ c8, cr.setIfInBounds 0 (.slice (some ⟨g5, 0, none⟩) n5 p5) = c8 := ⟨_, rfl⟩
            have HS8 := hid (sv_row HSr.out (.slice (some ⟨g5, 0, none⟩) n5 p5) rfl)
            rw [hc8] at HS8
            have A8 : At w8 Z c8 36 := by rw [← hw8, ← hc8]; exact at_set (at_kept HAx.out HK5.out) 0 _
            have K8 : Kept w w8 := kept_tn (kept_trans HKx.out HK5.out) (F := fun k => k = Z) (fun k hk => by rw [hk, HG.out.1]; exact Nat.le_refl _) HT8.out
            have B8 : At w8 Zr zs 36 := at_tn (at_kept HZx.out HK5.out) HT8.out (by have := HG.out; omega)
            have HF := hid (ret_facts K8 A8 B8 HZs.out HS8.out (by have := HG.out; omega) (by have := HG.out; omega))
            have HO8 : Hid (Own (w8.drew.setRow Zr c8) G (.slice (some ⟨g5, 0, none⟩) n5 p5) ([r] ++ M.take n)) := hid (own_tnL (F := fun k => k = Z ∨ k = Zr) HO5.out (tn_setRow (F := fun k => k = Z ∨ k = Zr) (tn_drew (tn_mono HT8.out (fun k hk => Or.inl hk))) (Or.inl (Or.inr rfl)) _) (fun k hk => by have := HGx.out; omega))
            have HEnd : Hid (PutR c s cs r now w (.returned (.tuple #[.bool true, .int .i64 0, .agg c8])) (w8.drew.setRow Zr c8)) := hid ⟨c8, by rw [HNew.out.2.1, HNew.out.2.2], HF.out.2.2.2.1, by rw [HNew.out.1]; exact ⟨_, HS8.out, rdl_own HO8.out⟩, row_new HS8.out HO8.out (by have := HGx.out; have := HG.out; omega)⟩
            clear A8 K8 B8 hc8 c5 f5 hw8 hw4 c4 hG
            go_wp2_with fail
            refine wp_region_noPanic ?_
            refine wp_region_held_drew (S := (fun w' => At w' Z c8 36)) (by kernel_rfl) (HF.out.2.2.2.2) (fun hHeld => ?_)
            generalize w8.drew = wq3 at *
            refine wpAnyH_take (i := 0) (v := .agg c8) rfl (by kernel_rfl) (by kernel_rfl) (by kernel_rfl) (fun _ _ _ h => h) (Or.inl ⟨by rfl, fun w hSw => exec_load36 _ rfl rfl (load36 hSw HS8.out)⟩) (by assumption) ?_
            try simp only [List.getElem_toArray, List.getElem_cons_zero, List.getElem_cons_succ, Act.put, List.setIfInBounds_toArray, List.set_cons_zero, List.set_cons_succ]
            refine wpAnyH_take (i := 1) (v := .bool true) rfl (by kernel_rfl) (by kernel_rfl) (by kernel_rfl) (fun _ _ _ h => h) (Or.inl ⟨by rfl, fun w hSw => by (try dsimp only at hSw); go_simp⟩) (by assumption) ?_
            try simp only [List.getElem_toArray, List.getElem_cons_zero, List.getElem_cons_succ, Act.put, List.setIfInBounds_toArray, List.set_cons_zero, List.set_cons_succ]
            refine wpAnyH_take (i := 2) (v := .int .i64 0) rfl (by kernel_rfl) (by kernel_rfl) (by kernel_rfl) (fun _ _ _ h => h) (Or.inl ⟨by rfl, fun w hSw => by (try dsimp only at hSw); go_simp⟩) (by assumption) ?_
            try simp only [List.getElem_toArray, List.getElem_cons_zero, List.getElem_cons_succ, Act.put, List.setIfInBounds_toArray, List.set_cons_zero, List.set_cons_succ]
            refine wpAnyH_ready (rs := [3]) (by kernel_rfl) (by simp) ?_
            refine AllReadyH.cons (i := 3) rfl (fun K hK => ?_) AllReadyH.nil
            rw [if_pos (by rfl)]
            refine wp_store36 _ _ rfl Zr rfl c8 rfl (wq3.setRow Zr c8) HF.out.1 ?_
            clear hHeld
            refine hK.out _ _ (HF.out.2.2.1) (fun hHeld => ?_)
            clear hK K
            try simp only [List.getElem_toArray, List.getElem_cons_zero, List.getElem_cons_succ, Act.put, List.setIfInBounds_toArray, List.set_cons_zero, List.set_cons_succ]
            refine wpAnyH_done (by kernel_rfl) ?_ _
            refine NoPanic.normal ?_
            clear hHeld
            go_wp2_with fail
            exact bodyPost_ret (resP Tryz.results15 _ rfl rfl rfl HF.out.2.1) rfl HEnd.out
          · have hg : decide ((0 : Int) < (n : Int)) = true := decide_eq_true (by omega)
            have hg1 : 0 < n := by omega
            have HCap : Hid (n ≤ p6 ∧ p6 ≤ maxLen) := hid (by
              obtain ⟨_, a9, c9, e9, h8, h9⟩ := HRa.out _ HTr.out
              injection e9 with e1 e2 e3
              have := HN1.out
              constructor <;> omega)
            by_cases hcn : c.n ≤ n
            · have hg2 : decide ((c.n : Int) ≤ (n : Int)) = true := decide_eq_true (by omega)
              have HOv : Hid (over c b (M.take n)) := hid (Or.inl (by rw [List.length_take]; have := HN1.out; omega))
              go_wp2_with fail
              refine wp_region_noPanic ?_
              refine wp_region_held_drew (S := (fun w' => (w'.cell? ⟨Z, 0, none⟩ = some (.slice A n p6)) ∧ (w'.cell? ⟨Z, 193, none⟩ = some (.int .i64 (c.n : Int))) ∧ (w'.cell? ⟨Z, 194, none⟩ = some (.int .i64 (c.B : Int))) ∧ (Hid (At w' Z cr 36)))) (by kernel_rfl) (HS1.out _ k0) (fun hHeld => ?_)
              generalize wr.drew = wq at *
              refine wpAnyH_take (i := 0) (v := .pointer (some ⟨Z, 0, none⟩)) rfl (by kernel_rfl) (by kernel_rfl) (by kernel_rfl) (fun _ _ _ h => h) (Or.inl ⟨by rfl, fun w hSw => by (try dsimp only at hSw); go_simp⟩) (by assumption) ?_
              try simp only [List.getElem_toArray, List.getElem_cons_zero, List.getElem_cons_succ, Act.put, List.setIfInBounds_toArray, List.set_cons_zero, List.set_cons_succ]
              refine wpAnyH_take (i := 1) (v := .slice A n p6) rfl (by kernel_rfl) (by kernel_rfl) (by kernel_rfl) (fun _ _ _ h => h) (Or.inl ⟨by rfl, fun w hSw => by (try dsimp only at hSw); go_simp⟩) (by assumption) ?_
              try simp only [List.getElem_toArray, List.getElem_cons_zero, List.getElem_cons_succ, Act.put, List.setIfInBounds_toArray, List.set_cons_zero, List.set_cons_succ]
              refine wpAnyH_take (i := 2) (v := .int .i64 (n : Int)) rfl (by kernel_rfl) (by kernel_rfl) (by kernel_rfl) (fun _ _ _ h => h) (Or.inl ⟨by rfl, fun w hSw => by (try dsimp only at hSw); go_simp⟩) (by assumption) ?_
              try simp only [List.getElem_toArray, List.getElem_cons_zero, List.getElem_cons_succ, Act.put, List.setIfInBounds_toArray, List.set_cons_zero, List.set_cons_succ]
              refine wpAnyH_take (i := 3) (v := .bool true) rfl (by kernel_rfl) (by kernel_rfl) (by kernel_rfl) (fun _ _ _ h => h) (Or.inl ⟨by rfl, fun w hSw => by (try dsimp only at hSw); go_simp⟩) (by assumption) ?_
              try simp only [List.getElem_toArray, List.getElem_cons_zero, List.getElem_cons_succ, Act.put, List.setIfInBounds_toArray, List.set_cons_zero, List.set_cons_succ]
              refine wpAnyH_take (i := 4) (v := .bool true) rfl (by kernel_rfl) (by kernel_rfl) (by kernel_rfl) (fun _ _ _ h => h) (Or.inl ⟨by rfl, fun w hSw => by (try dsimp only at hSw); go_simp⟩) (by assumption) ?_
              try simp only [List.getElem_toArray, List.getElem_cons_zero, List.getElem_cons_succ, Act.put, List.setIfInBounds_toArray, List.set_cons_zero, List.set_cons_succ]
              refine wpAnyH_take (i := 5) (v := .pointer (some ⟨Z, 0, none⟩)) rfl (by kernel_rfl) (by kernel_rfl) (by kernel_rfl) (fun _ _ _ h => h) (Or.inl ⟨by rfl, fun w hSw => by (try dsimp only at hSw); go_simp⟩) (by assumption) ?_
              try simp only [List.getElem_toArray, List.getElem_cons_zero, List.getElem_cons_succ, Act.put, List.setIfInBounds_toArray, List.set_cons_zero, List.set_cons_succ]
              refine wpAnyH_take (i := 6) (v := .slice A n p6) rfl (by kernel_rfl) (by kernel_rfl) (by kernel_rfl) (fun _ _ _ h => h) (Or.inl ⟨by rfl, fun w hSw => by (try dsimp only at hSw); go_simp⟩) (by assumption) ?_
              try simp only [List.getElem_toArray, List.getElem_cons_zero, List.getElem_cons_succ, Act.put, List.setIfInBounds_toArray, List.set_cons_zero, List.set_cons_succ]
              refine wpAnyH_take (i := 7) (v := .int .i64 (n : Int)) rfl (by kernel_rfl) (by kernel_rfl) (by kernel_rfl) (fun _ _ _ h => h) (Or.inl ⟨by rfl, fun w hSw => by (try dsimp only at hSw); go_simp⟩) (by assumption) ?_
              try simp only [List.getElem_toArray, List.getElem_cons_zero, List.getElem_cons_succ, Act.put, List.setIfInBounds_toArray, List.set_cons_zero, List.set_cons_succ]
              refine wpAnyH_take (i := 8) (v := .pointer (some ⟨Z, 193, none⟩)) rfl (by kernel_rfl) (by kernel_rfl) (by kernel_rfl) (fun _ _ _ h => h) (Or.inl ⟨by rfl, fun w hSw => by (try dsimp only at hSw); go_simp⟩) (by assumption) ?_
              try simp only [List.getElem_toArray, List.getElem_cons_zero, List.getElem_cons_succ, Act.put, List.setIfInBounds_toArray, List.set_cons_zero, List.set_cons_succ]
              refine wpAnyH_take (i := 9) (v := .int .i64 (c.n : Int)) rfl (by kernel_rfl) (by kernel_rfl) (by kernel_rfl) (fun _ _ _ h => h) (Or.inl ⟨by rfl, fun w hSw => by (try dsimp only at hSw); go_simp⟩) (by assumption) ?_
              try simp only [List.getElem_toArray, List.getElem_cons_zero, List.getElem_cons_succ, Act.put, List.setIfInBounds_toArray, List.set_cons_zero, List.set_cons_succ]
              refine wpAnyH_take (i := 10) (v := .bool true) rfl (by kernel_rfl) (by kernel_rfl) (by kernel_rfl) (fun _ _ _ h => h) (Or.inl ⟨by rfl, fun w hSw => by (try dsimp only at hSw); go_simp⟩) (by assumption) ?_
              try simp only [List.getElem_toArray, List.getElem_cons_zero, List.getElem_cons_succ, Act.put, List.setIfInBounds_toArray, List.set_cons_zero, List.set_cons_succ]
              refine wpAnyH_take (i := 11) (v := .bool true) rfl (by kernel_rfl) (by kernel_rfl) (by kernel_rfl) (fun _ _ _ h => h) (Or.inl ⟨by rfl, fun w hSw => by (try dsimp only at hSw); go_simp⟩) (by assumption) ?_
              try simp only [List.getElem_toArray, List.getElem_cons_zero, List.getElem_cons_succ, Act.put, List.setIfInBounds_toArray, List.set_cons_zero, List.set_cons_succ]
              refine wpAnyH_take (i := 12) (v := undef) rfl (by kernel_rfl) (by kernel_rfl) (by kernel_rfl) (fun _ _ _ h => h) (Or.inr ⟨by rfl, rfl⟩) (by assumption) ?_
              try simp only [List.getElem_toArray, List.getElem_cons_zero, List.getElem_cons_succ, Act.put, List.setIfInBounds_toArray, List.set_cons_zero, List.set_cons_succ]
              refine wpAnyH_take (i := 13) (v := undef) rfl (by kernel_rfl) (by kernel_rfl) (by kernel_rfl) (fun _ _ _ h => h) (Or.inr ⟨by rfl, rfl⟩) (by assumption) ?_
              try simp only [List.getElem_toArray, List.getElem_cons_zero, List.getElem_cons_succ, Act.put, List.setIfInBounds_toArray, List.set_cons_zero, List.set_cons_succ]
              refine wpAnyH_take (i := 14) (v := undef) rfl (by kernel_rfl) (by kernel_rfl) (by kernel_rfl) (fun _ _ _ h => h) (Or.inr ⟨by rfl, rfl⟩) (by assumption) ?_
              try simp only [List.getElem_toArray, List.getElem_cons_zero, List.getElem_cons_succ, Act.put, List.setIfInBounds_toArray, List.set_cons_zero, List.set_cons_succ]
              refine wpAnyH_take (i := 15) (v := undef) rfl (by kernel_rfl) (by kernel_rfl) (by kernel_rfl) (fun _ _ _ h => h) (Or.inr ⟨by rfl, rfl⟩) (by assumption) ?_
              try simp only [List.getElem_toArray, List.getElem_cons_zero, List.getElem_cons_succ, Act.put, List.setIfInBounds_toArray, List.set_cons_zero, List.set_cons_succ]
              refine wpAnyH_take (i := 16) (v := undef) rfl (by kernel_rfl) (by kernel_rfl) (by kernel_rfl) (fun _ _ _ h => h) (Or.inr ⟨by rfl, rfl⟩) (by assumption) ?_
              try simp only [List.getElem_toArray, List.getElem_cons_zero, List.getElem_cons_succ, Act.put, List.setIfInBounds_toArray, List.set_cons_zero, List.set_cons_succ]
              refine wpAnyH_take (i := 17) (v := undef) rfl (by kernel_rfl) (by kernel_rfl) (by kernel_rfl) (fun _ _ _ h => h) (Or.inr ⟨by rfl, rfl⟩) (by assumption) ?_
              try simp only [List.getElem_toArray, List.getElem_cons_zero, List.getElem_cons_succ, Act.put, List.setIfInBounds_toArray, List.set_cons_zero, List.set_cons_succ]
              refine wpAnyH_take (i := 18) (v := undef) rfl (by kernel_rfl) (by kernel_rfl) (by kernel_rfl) (fun _ _ _ h => h) (Or.inr ⟨by rfl, rfl⟩) (by assumption) ?_
              try simp only [List.getElem_toArray, List.getElem_cons_zero, List.getElem_cons_succ, Act.put, List.setIfInBounds_toArray, List.set_cons_zero, List.set_cons_succ]
              refine wpAnyH_take (i := 19) (v := .bool true) rfl (by kernel_rfl) (by kernel_rfl) (by kernel_rfl) (fun _ _ _ h => h) (Or.inl ⟨by rfl, fun w hSw => by (try dsimp only at hSw); go_simp⟩) (by assumption) ?_
              try simp only [List.getElem_toArray, List.getElem_cons_zero, List.getElem_cons_succ, Act.put, List.setIfInBounds_toArray, List.set_cons_zero, List.set_cons_succ]
              refine wpAnyH_take (i := 20) (v := .bool true) rfl (by kernel_rfl) (by kernel_rfl) (by kernel_rfl) (fun _ _ _ h => h) (Or.inl ⟨by rfl, fun w hSw => by (try dsimp only at hSw); go_simp⟩) (by assumption) ?_
              try simp only [List.getElem_toArray, List.getElem_cons_zero, List.getElem_cons_succ, Act.put, List.setIfInBounds_toArray, List.set_cons_zero, List.set_cons_succ]
              refine wpAnyH_done (by kernel_rfl) ?_ _
              refine NoPanic.normal ?_
              clear hHeld
              clear hg hg2 hcn
              have HTx := hid (tn_trans HTr.out (tn_kept k0))
              have HAx := hid (at_kept HAr.out k0)
              clear k0 HS1
              obtain ⟨m, hm⟩ : ∃ m, n = m + 1 := ⟨n - 1, by omega⟩
              have hsub : (n : Int) - 1 = (m : Int) := by omega
              have hmn : m < n := by omega
              have HRx := hid (rdl_take (HRa.out _ HTx.out) hn)
              obtain ⟨q5, rfl, lr, hlr, r0, r1, r2, r3, r4, r5, r6, r7⟩ := (rdr_at HRx.out.1).2 m hmn
              rw [List.getElem?_take_of_lt hmn] at hlr
              have HLr := hid hlr
              have hlk : lr.key.size ≤ maxLen := by have := (may_len (HMy.out lr (List.mem_of_getElem? hlr))).2; unfold maxLen; omega
              have hq5 := idxR q5 n p6 m hmn (by omega)
              have HRoom2 : Hid (room c b ⟨M.take m, raise f lr, ev + 1⟩ = room c b ⟨M, s.fl, s.ev⟩) := hid (by
                rw [← HRoom.out]
                have e1 : M.take n = M.take m ++ [lr] := by rw [hm]; exact take_snoc HLr.out
                have h1 := HOv.out
                rw [e1] at h1 ⊢
                exact (room_on h1).symm)
              have c0 := (at_cell HAx.out 0).trans HSr.out.row
              clear hlr HOv
              obtain ⟨w4, hw4⟩ : ∃ w4, wq.alloc (.cells #[.string ⟨#[]⟩, .int .u64 0, .int .u32 0, .int .u8 0, .int .u8 0, .int .u32 0, .int .u64 0, .string ⟨#[]⟩] 42) = w4 := ⟨_, rfl⟩
              obtain ⟨X, hX⟩ : ∃ X, wq.heap.size = X := ⟨_, rfl⟩
              have K4 := kept_alloc (kept_refl wq) (.cells #[.string ⟨#[]⟩, .int .u64 0, .int .u32 0, .int .u8 0, .int .u8 0, .int .u32 0, .int .u64 0, .string ⟨#[]⟩] 42)
              have A4 := at_new wq #[.string ⟨#[]⟩, .int .u64 0, .int .u32 0, .int .u8 0, .int .u8 0, .int .u32 0, .int .u64 0, .string ⟨#[]⟩] 42
              rw [hw4] at K4 A4
              rw [hX] at A4
              have HSt := hid (store42 (rx := #[.string lr.key, .int .u64 lr.s.p, .int .u32 lr.s.l, .int .u8 lr.s.n, .int .u8 lr.kind, .int .u32 lr.flags, .int .u64 lr.exp, .string lr.body]) A4 rfl rfl (allR _ _ _ _ _ _ _ _))
              have HK5 := hid (kept_setRow K4 (Nat.le_of_eq hX) #[.string lr.key, .int .u64 lr.s.p, .int .u32 lr.s.l, .int .u8 lr.s.n, .int .u8 lr.kind, .int .u32 lr.flags, .int .u64 lr.exp, .string lr.body])
              have HX5 := hid (at_setRow (cs := #[.string lr.key, .int .u64 lr.s.p, .int .u32 lr.s.l, .int .u8 lr.s.n, .int .u8 lr.kind, .int .u32 lr.flags, .int .u64 lr.exp, .string lr.body]) A4)
              generalize w4.setRow X #[.string lr.key, .int .u64 lr.s.p, .int .u32 lr.s.l, .int .u8 lr.s.n, .int .u8 lr.kind, .int .u32 lr.flags, .int .u64 lr.exp, .string lr.body] = w5 at HSt HK5 HX5
              have HT5 := hid (tn_trans HTx.out (tn_kept HK5.out))
              have HA5 := hid (at_kept HAx.out HK5.out)
              obtain ⟨x0, x1, x2, x3, x4, x5, x6, x7⟩ := at_cells8' HX5.out
              clear K4 A4
              go_wp2_with (refine wpList_store42 rfl _ _ rfl X rfl #[.string lr.key, .int .u64 lr.s.p, .int .u32 lr.s.l, .int .u8 lr.s.n, .int .u8 lr.kind, .int .u32 lr.flags, .int .u64 lr.exp, .string lr.body] rfl w5 HSt.out ?_)
              refine (refrange_any lr.key hlk _).mono ?_
              rintro e w6 ⟨rfl, rfl⟩
              clear r0 r1 r2 r3 r4 r5 r6 r7 hq5 c0 hw4 hX x0 x1 x2 x3 x4 x5 x6 x7 HSt HAx HTx HRx
              obtain ⟨k, hk⟩ : ∃ k, rg lr.key = k := ⟨_, rfl⟩
              rw [hk]
              have HRk := hid hk.symm
              have hk64 : k < 64 := by rw [← hk]; exact rg_lt _
              clear hk
              obtain ⟨fq, hfq⟩ : ∃ fq, f k = fq := ⟨_, rfl⟩
              have HFq := hid hfq
              have HS1 : Hid (∀ u, Kept w6 u → (u.cell? ⟨Z, 1 + k * 3, none⟩ = some (.int .u64 fq.p) ∧ u.cell? ⟨Z, 1 + k * 3 + 1, none⟩ = some (.int .u32 fq.l) ∧ u.cell? ⟨Z, 1 + k * 3 + 2, none⟩ = some (.int .u8 fq.n)) ∧ (u.cell? ⟨X, 0, none⟩ = some (.string lr.key) ∧ u.cell? ⟨X, 1, none⟩ = some (.int .u64 lr.s.p) ∧ u.cell? ⟨X, 2, none⟩ = some (.int .u32 lr.s.l) ∧ u.cell? ⟨X, 3, none⟩ = some (.int .u8 lr.s.n) ∧ u.cell? ⟨X, 4, none⟩ = some (.int .u8 lr.kind) ∧ u.cell? ⟨X, 5, none⟩ = some (.int .u32 lr.flags) ∧ u.cell? ⟨X, 6, none⟩ = some (.int .u64 lr.exp) ∧ u.cell? ⟨X, 7, none⟩ = some (.string lr.body))) := hid (fun u ku => ⟨by
                obtain ⟨g1, g2, g3⟩ := HSr.out.floor k hk64
                rw [hfq] at g1 g2 g3
                exact ⟨(at_cell (at_kept HA5.out ku) _).trans g1, (at_cell (at_kept HA5.out ku) _).trans g2, (at_cell (at_kept HA5.out ku) _).trans g3⟩, at_cells8' (at_kept HX5.out ku)⟩)
              clear hfq
              have hidx := idxF Z k (by omega)
              have k0 : Kept w6 w6.drew := kept_refl w6
              cases hlt : lt fq lr.s with
              | false =>
                go_wp2_with fail
                refine wp_region_noPanic ?_
                refine wp_region_held_drew (S := (fun w' => (w'.cell? ⟨Z, 1 + k * 3, none⟩ = some (.int .u64 fq.p) ∧ w'.cell? ⟨Z, 1 + k * 3 + 1, none⟩ = some (.int .u32 fq.l) ∧ w'.cell? ⟨Z, 1 + k * 3 + 2, none⟩ = some (.int .u8 fq.n)) ∧ (w'.cell? ⟨X, 0, none⟩ = some (.string lr.key) ∧ w'.cell? ⟨X, 1, none⟩ = some (.int .u64 lr.s.p) ∧ w'.cell? ⟨X, 2, none⟩ = some (.int .u32 lr.s.l) ∧ w'.cell? ⟨X, 3, none⟩ = some (.int .u8 lr.s.n) ∧ w'.cell? ⟨X, 4, none⟩ = some (.int .u8 lr.kind) ∧ w'.cell? ⟨X, 5, none⟩ = some (.int .u32 lr.flags) ∧ w'.cell? ⟨X, 6, none⟩ = some (.int .u64 lr.exp) ∧ w'.cell? ⟨X, 7, none⟩ = some (.string lr.body)))) (by kernel_rfl) (HS1.out _ k0) (fun hHeld => ?_)
                generalize w6.drew = wq2 at *
                refine wpAnyH_take (i := 0) (v := .int .i64 (k : Int)) rfl (by kernel_rfl) (by kernel_rfl) (by kernel_rfl) (fun _ _ _ h => h) (Or.inl ⟨by rfl, fun w hSw => by (try dsimp only at hSw); go_simp⟩) (by assumption) ?_
                try simp only [List.getElem_toArray, List.getElem_cons_zero, List.getElem_cons_succ, Act.put, List.setIfInBounds_toArray, List.set_cons_zero, List.set_cons_succ]
                refine wpAnyH_take (i := 1) (v := .pointer (some ⟨Z, 1, none⟩)) rfl (by kernel_rfl) (by kernel_rfl) (by kernel_rfl) (fun _ _ _ h => h) (Or.inl ⟨by rfl, fun w hSw => by (try dsimp only at hSw); go_simp⟩) (by assumption) ?_
                try simp only [List.getElem_toArray, List.getElem_cons_zero, List.getElem_cons_succ, Act.put, List.setIfInBounds_toArray, List.set_cons_zero, List.set_cons_succ]
                refine wpAnyH_take (i := 2) (v := .pointer (some ⟨Z, 1 + k * 3, none⟩)) rfl (by kernel_rfl) (by kernel_rfl) (by kernel_rfl) (fun _ _ _ h => h) (Or.inl ⟨by rfl, fun w hSw => by (try dsimp only at hSw); go_simp⟩) (by assumption) ?_
                try simp only [List.getElem_toArray, List.getElem_cons_zero, List.getElem_cons_succ, Act.put, List.setIfInBounds_toArray, List.set_cons_zero, List.set_cons_succ]
                refine wpAnyH_take (i := 3) (v := .agg #[.int .u64 fq.p, .int .u32 fq.l, .int .u8 fq.n]) rfl (by kernel_rfl) (by kernel_rfl) (by kernel_rfl) (fun _ _ _ h => h) (Or.inl ⟨by rfl, fun w hSw => by (try dsimp only at hSw); go_simp⟩) (by assumption) ?_
                try simp only [List.getElem_toArray, List.getElem_cons_zero, List.getElem_cons_succ, Act.put, List.setIfInBounds_toArray, List.set_cons_zero, List.set_cons_succ]
                refine wpAnyH_take (i := 4) (v := .pointer (some ⟨X, 1, none⟩)) rfl (by kernel_rfl) (by kernel_rfl) (by kernel_rfl) (fun _ _ _ h => h) (Or.inl ⟨by rfl, fun w hSw => by (try dsimp only at hSw); go_simp⟩) (by assumption) ?_
                try simp only [List.getElem_toArray, List.getElem_cons_zero, List.getElem_cons_succ, Act.put, List.setIfInBounds_toArray, List.set_cons_zero, List.set_cons_succ]
                refine wpAnyH_take (i := 5) (v := .agg #[.int .u64 lr.s.p, .int .u32 lr.s.l, .int .u8 lr.s.n]) rfl (by kernel_rfl) (by kernel_rfl) (by kernel_rfl) (fun _ _ _ h => h) (Or.inl ⟨by rfl, fun w hSw => by (try dsimp only at hSw); go_simp⟩) (by assumption) ?_
                try simp only [List.getElem_toArray, List.getElem_cons_zero, List.getElem_cons_succ, Act.put, List.setIfInBounds_toArray, List.set_cons_zero, List.set_cons_succ]
                refine wpAnyH_ready (rs := [6]) (by kernel_rfl) (by simp) ?_
                refine AllReadyH.cons (i := 6) rfl (fun K hK => ?_) AllReadyH.nil
                go_simp
                refine (less_any fq lr.s _).mono ?_
                rintro e w7 ⟨rfl, h3⟩
                replace k0 := kept_trans k0 h3
                clear h3
                rw [hlt]
                clear hHeld
                show K _ _
                refine hK.out _ _ (HS1.out _ k0) (fun hHeld => ?_)
                clear hK K
                try simp only [List.getElem_toArray, List.getElem_cons_zero, List.getElem_cons_succ, Act.put, List.setIfInBounds_toArray, List.set_cons_zero, List.set_cons_succ]
                refine wpAnyH_done (by kernel_rfl) ?_ _
                refine NoPanic.normal ?_
                clear hHeld
                have HK7 := hid k0
                clear k0 HS1 hidx

                have HA8 := hid (at_kept HA5.out HK7.out)
                have HS8 := hid (show Sv cr (.slice (some ⟨q5, 0, none⟩) n p6) (raise f lr) c ev by rw [raiseR_no HRk.out (by rw [HFq.out]; exact hlt)]; exact HSr.out)
                have HT8 := hid (tn_trans HT5.out (tn_kept HK7.out))
                obtain ⟨d0, df⟩ : (w7.cell? ⟨Z, 0, none⟩ = some (.slice (some ⟨q5, 0, none⟩) n p6)) ∧ ∀ o, w7.frozen? ⟨Z, o, none⟩ = false := ⟨(at_cell HA8.out 0).trans HS8.out.row, at_frozen HA8.out⟩
                obtain ⟨hcc1, hcc2⟩ := HCap.out
                have s1 := sl_hi q5 n p6 m (by omega) (by omega) hcc2
                obtain ⟨w9, hw9⟩ : ∃ w9, w7.setCell ⟨Z, 0, none⟩ (.slice (some ⟨q5, 0, none⟩) m p6) = w9 := ⟨_, rfl⟩
                have A9 := at_set HA8.out 0 (.slice (some ⟨q5, 0, none⟩) m p6)
                rw [hw9] at A9
                have S9 := sv_row HS8.out (.slice (some ⟨q5, 0, none⟩) m p6) rfl
                have T9 : Tn (fun k => k = Z) w7 w9 := by rw [← hw9]; exact tn_set (F := fun k => k = Z) tn_refl (.inl rfl) _ _
                obtain ⟨e0, ef⟩ : (w9.cell? ⟨Z, 196, none⟩ = some (.int .i64 (ev : Int))) ∧ ∀ o, w9.frozen? ⟨Z, o, none⟩ = false := ⟨(at_cell A9 196).trans S9.ev, at_frozen A9⟩
                obtain ⟨e1, he1⟩ : ∃ e1, ev + 1 = e1 := ⟨_, rfl⟩
                have hee : (ev : Int) + 1 = (e1 : Int) := by omega
                have hew : e1 ≤ 900001001 := by omega
                obtain ⟨w10, hw10⟩ : ∃ w10, w9.setCell ⟨Z, 196, none⟩ (.int .i64 (e1 : Int)) = w10 := ⟨_, rfl⟩
                have A10 := at_set A9 196 (.int .i64 (e1 : Int))
                rw [hw10] at A10
                have HS10 := hid (sv_ev S9 e1)
                have HT10 : Hid (Tn (fun k => k = Z) wa w10) := hid (tn_trans HT8.out (tn_trans T9 (by rw [← hw10]; exact tn_set (F := fun k => k = Z) tn_refl (.inl rfl) _ _)))
                have HA10 := hid A10
                have HL10 : Hid (rowLen w10 Z = m) := hid (rowLen_at ((at_cell HA10.out 0).trans HS10.out.row))
                have hj1 : e1 + m ≤ 900001000 := by omega
                have HRoom3 : Hid (room c b ⟨M.take m, raise f lr, e1⟩ = room c b ⟨M, s.fl, s.ev⟩) := hid (by rw [← he1]; exact HRoom2.out)
                have hm1 : m ≤ N1 := by omega
                clear A9 S9 T9 A10 he1 hcc1 hcc2 hm
                go_wp2_with fail
                go_roundw
                case rel => exact ⟨m, e1, raise f lr, _, hm1, hj1, HA10, HS10, HT10, HRoom3⟩
                case measure => rw [HL10.out, HLen.out]; exact hmn
              | true =>
                go_wp2_with fail
                refine wp_region_noPanic ?_
                refine wp_region_held_drew (S := (fun w' => (w'.cell? ⟨Z, 1 + k * 3, none⟩ = some (.int .u64 fq.p) ∧ w'.cell? ⟨Z, 1 + k * 3 + 1, none⟩ = some (.int .u32 fq.l) ∧ w'.cell? ⟨Z, 1 + k * 3 + 2, none⟩ = some (.int .u8 fq.n)) ∧ (w'.cell? ⟨X, 0, none⟩ = some (.string lr.key) ∧ w'.cell? ⟨X, 1, none⟩ = some (.int .u64 lr.s.p) ∧ w'.cell? ⟨X, 2, none⟩ = some (.int .u32 lr.s.l) ∧ w'.cell? ⟨X, 3, none⟩ = some (.int .u8 lr.s.n) ∧ w'.cell? ⟨X, 4, none⟩ = some (.int .u8 lr.kind) ∧ w'.cell? ⟨X, 5, none⟩ = some (.int .u32 lr.flags) ∧ w'.cell? ⟨X, 6, none⟩ = some (.int .u64 lr.exp) ∧ w'.cell? ⟨X, 7, none⟩ = some (.string lr.body)))) (by kernel_rfl) (HS1.out _ k0) (fun hHeld => ?_)
                generalize w6.drew = wq2 at *
                refine wpAnyH_take (i := 0) (v := .int .i64 (k : Int)) rfl (by kernel_rfl) (by kernel_rfl) (by kernel_rfl) (fun _ _ _ h => h) (Or.inl ⟨by rfl, fun w hSw => by (try dsimp only at hSw); go_simp⟩) (by assumption) ?_
                try simp only [List.getElem_toArray, List.getElem_cons_zero, List.getElem_cons_succ, Act.put, List.setIfInBounds_toArray, List.set_cons_zero, List.set_cons_succ]
                refine wpAnyH_take (i := 1) (v := .pointer (some ⟨Z, 1, none⟩)) rfl (by kernel_rfl) (by kernel_rfl) (by kernel_rfl) (fun _ _ _ h => h) (Or.inl ⟨by rfl, fun w hSw => by (try dsimp only at hSw); go_simp⟩) (by assumption) ?_
                try simp only [List.getElem_toArray, List.getElem_cons_zero, List.getElem_cons_succ, Act.put, List.setIfInBounds_toArray, List.set_cons_zero, List.set_cons_succ]
                refine wpAnyH_take (i := 2) (v := .pointer (some ⟨Z, 1 + k * 3, none⟩)) rfl (by kernel_rfl) (by kernel_rfl) (by kernel_rfl) (fun _ _ _ h => h) (Or.inl ⟨by rfl, fun w hSw => by (try dsimp only at hSw); go_simp⟩) (by assumption) ?_
                try simp only [List.getElem_toArray, List.getElem_cons_zero, List.getElem_cons_succ, Act.put, List.setIfInBounds_toArray, List.set_cons_zero, List.set_cons_succ]
                refine wpAnyH_take (i := 3) (v := .agg #[.int .u64 fq.p, .int .u32 fq.l, .int .u8 fq.n]) rfl (by kernel_rfl) (by kernel_rfl) (by kernel_rfl) (fun _ _ _ h => h) (Or.inl ⟨by rfl, fun w hSw => by (try dsimp only at hSw); go_simp⟩) (by assumption) ?_
                try simp only [List.getElem_toArray, List.getElem_cons_zero, List.getElem_cons_succ, Act.put, List.setIfInBounds_toArray, List.set_cons_zero, List.set_cons_succ]
                refine wpAnyH_take (i := 4) (v := .pointer (some ⟨X, 1, none⟩)) rfl (by kernel_rfl) (by kernel_rfl) (by kernel_rfl) (fun _ _ _ h => h) (Or.inl ⟨by rfl, fun w hSw => by (try dsimp only at hSw); go_simp⟩) (by assumption) ?_
                try simp only [List.getElem_toArray, List.getElem_cons_zero, List.getElem_cons_succ, Act.put, List.setIfInBounds_toArray, List.set_cons_zero, List.set_cons_succ]
                refine wpAnyH_take (i := 5) (v := .agg #[.int .u64 lr.s.p, .int .u32 lr.s.l, .int .u8 lr.s.n]) rfl (by kernel_rfl) (by kernel_rfl) (by kernel_rfl) (fun _ _ _ h => h) (Or.inl ⟨by rfl, fun w hSw => by (try dsimp only at hSw); go_simp⟩) (by assumption) ?_
                try simp only [List.getElem_toArray, List.getElem_cons_zero, List.getElem_cons_succ, Act.put, List.setIfInBounds_toArray, List.set_cons_zero, List.set_cons_succ]
                refine wpAnyH_ready (rs := [6]) (by kernel_rfl) (by simp) ?_
                refine AllReadyH.cons (i := 6) rfl (fun K hK => ?_) AllReadyH.nil
                go_simp
                refine (less_any fq lr.s _).mono ?_
                rintro e w7 ⟨rfl, h3⟩
                replace k0 := kept_trans k0 h3
                clear h3
                rw [hlt]
                clear hHeld
                show K _ _
                refine hK.out _ _ (HS1.out _ k0) (fun hHeld => ?_)
                clear hK K
                try simp only [List.getElem_toArray, List.getElem_cons_zero, List.getElem_cons_succ, Act.put, List.setIfInBounds_toArray, List.set_cons_zero, List.set_cons_succ]
                refine wpAnyH_done (by kernel_rfl) ?_ _
                refine NoPanic.normal ?_
                clear hHeld
                obtain ⟨⟨p0, p1, p2⟩, x0, x1, x2, x3, x4, x5, x6, x7⟩ := HS1.out w7 k0
                have HK7 := hid k0
                have HA7 := hid (at_kept HA5.out k0)
                have f7 := at_frozen HA7.out
                obtain ⟨w8, hw8⟩ : ∃ w8, ((w7.setCell ⟨Z, 1 + k * 3, none⟩ (.int .u64 lr.s.p)).setCell ⟨Z, 1 + k * 3 + 1, none⟩ (.int .u32 lr.s.l)).setCell ⟨Z, 1 + k * 3 + 2, none⟩ (.int .u8 lr.s.n) = w8 := ⟨_, rfl⟩
                have A8 := at_set (at_set (at_set HA7.out (1 + k * 3) (.int .u64 lr.s.p)) (1 + k * 3 + 1) (.int .u32 lr.s.l)) (1 + k * 3 + 2) (.int .u8 lr.s.n)
                rw [hw8] at A8
                have HA80 := hid A8
                have HS80 := hid (sv_floor HSr.out hk64 lr.s (raiseR_yes HRk.out (by rw [HFq.out]; exact hlt)))
                have HT80 : Hid (Tn (fun k => k = Z) w7 w8) := hid (by rw [← hw8]; exact tn_set (F := fun k => k = Z) (tn_set (F := fun k => k = Z) (tn_set (F := fun k => k = Z) tn_refl (.inl rfl) _ _) (.inl rfl) _ _) (.inl rfl) _ _)
                clear k0 HS1 A8
                generalize ((cr.setIfInBounds (1 + k * 3) (.int .u64 lr.s.p)).setIfInBounds (1 + k * 3 + 1) (.int .u32 lr.s.l)).setIfInBounds (1 + k * 3 + 2) (.int .u8 lr.s.n) = c8 at HA80 HS80

                have HA8 := hid (HA80.out)
                have HS8 := hid (HS80.out)
                have HT8 := hid (tn_trans HT5.out (tn_trans (tn_kept HK7.out) HT80.out))
                obtain ⟨d0, df⟩ : (w8.cell? ⟨Z, 0, none⟩ = some (.slice (some ⟨q5, 0, none⟩) n p6)) ∧ ∀ o, w8.frozen? ⟨Z, o, none⟩ = false := ⟨(at_cell HA8.out 0).trans HS8.out.row, at_frozen HA8.out⟩
                obtain ⟨hcc1, hcc2⟩ := HCap.out
                have s1 := sl_hi q5 n p6 m (by omega) (by omega) hcc2
                obtain ⟨w9, hw9⟩ : ∃ w9, w8.setCell ⟨Z, 0, none⟩ (.slice (some ⟨q5, 0, none⟩) m p6) = w9 := ⟨_, rfl⟩
                have A9 := at_set HA8.out 0 (.slice (some ⟨q5, 0, none⟩) m p6)
                rw [hw9] at A9
                have S9 := sv_row HS8.out (.slice (some ⟨q5, 0, none⟩) m p6) rfl
                have T9 : Tn (fun k => k = Z) w8 w9 := by rw [← hw9]; exact tn_set (F := fun k => k = Z) tn_refl (.inl rfl) _ _
                obtain ⟨e0, ef⟩ : (w9.cell? ⟨Z, 196, none⟩ = some (.int .i64 (ev : Int))) ∧ ∀ o, w9.frozen? ⟨Z, o, none⟩ = false := ⟨(at_cell A9 196).trans S9.ev, at_frozen A9⟩
                obtain ⟨e1, he1⟩ : ∃ e1, ev + 1 = e1 := ⟨_, rfl⟩
                have hee : (ev : Int) + 1 = (e1 : Int) := by omega
                have hew : e1 ≤ 900001001 := by omega
                obtain ⟨w10, hw10⟩ : ∃ w10, w9.setCell ⟨Z, 196, none⟩ (.int .i64 (e1 : Int)) = w10 := ⟨_, rfl⟩
                have A10 := at_set A9 196 (.int .i64 (e1 : Int))
                rw [hw10] at A10
                have HS10 := hid (sv_ev S9 e1)
                have HT10 : Hid (Tn (fun k => k = Z) wa w10) := hid (tn_trans HT8.out (tn_trans T9 (by rw [← hw10]; exact tn_set (F := fun k => k = Z) tn_refl (.inl rfl) _ _)))
                have HA10 := hid A10
                have HL10 : Hid (rowLen w10 Z = m) := hid (rowLen_at ((at_cell HA10.out 0).trans HS10.out.row))
                have hj1 : e1 + m ≤ 900001000 := by omega
                have HRoom3 : Hid (room c b ⟨M.take m, raise f lr, e1⟩ = room c b ⟨M, s.fl, s.ev⟩) := hid (by rw [← he1]; exact HRoom2.out)
                have hm1 : m ≤ N1 := by omega
                clear A9 S9 T9 A10 he1 hcc1 hcc2 hm
                go_wp2_with fail
                go_roundw
                case rel => exact ⟨m, e1, raise f lr, _, hm1, hj1, HA10, HS10, HT10, HRoom3⟩
                case measure => rw [HL10.out, HLen.out]; exact hmn
            · have hg2 : decide ((c.n : Int) ≤ (n : Int)) = false := decide_eq_false (by omega)
              obtain ⟨z, hz⟩ : ∃ z, sizeL (M.take n) = z := ⟨_, rfl⟩
              have hzb4 : z ≤ 1048576 := by rw [← hz]; exact HMs.out n
              have hSz : ∀ u, Kept wr u → Calls Tryz.prog 24 #[.agg cr] u fun e w' => e = .returned (.int .i64 (z : Int)) ∧ Kept u w' := fun u ku => by
                have h1 := refsize_any (cs := cr) (c := c) (s := ⟨M.take n, f, ev⟩) (by show (M.take n).length ≤ 1024; rw [List.length_take]; omega) (by show sizeL (M.take n) ≤ 1073741824; rw [hz]; omega) u ⟨_, HSr.out, rdl_take (HRa.out _ (tn_trans HTr.out (tn_kept ku))) hn⟩
                rw [show sizeL (MS.L ⟨M.take n, f, ev⟩) = z from hz] at h1
                exact h1
              obtain ⟨zb, hzb⟩ : ∃ zb : Nat, (z : Int) + (b : Int) = (zb : Int) := ⟨z + b, by omega⟩
              have hzb5 : zb ≤ 2000000 := by omega
              have hzw : IntKind.i64.wrap (zb : Int) = (zb : Int) := by rw [IntKind.wrap_i64]; omega
              have Hz := hid hz
              clear hz
              by_cases hov : c.B < zb
              · have hg3 : decide ((c.B : Int) < (zb : Int)) = true := decide_eq_true (by omega)
                have HOv : Hid (over c b (M.take n)) := hid (Or.inr (by rw [Hz.out]; omega))
                go_wp2_with fail
                refine wp_region_noPanic ?_
                refine wp_region_held_drew (S := (fun w' => (w'.cell? ⟨Z, 0, none⟩ = some (.slice A n p6)) ∧ (w'.cell? ⟨Z, 193, none⟩ = some (.int .i64 (c.n : Int))) ∧ (w'.cell? ⟨Z, 194, none⟩ = some (.int .i64 (c.B : Int))) ∧ (Hid (At w' Z cr 36)))) (by kernel_rfl) (HS1.out _ k0) (fun hHeld => ?_)
                generalize wr.drew = wq at *
                refine wpAnyH_take (i := 0) (v := .pointer (some ⟨Z, 0, none⟩)) rfl (by kernel_rfl) (by kernel_rfl) (by kernel_rfl) (fun _ _ _ h => h) (Or.inl ⟨by rfl, fun w hSw => by (try dsimp only at hSw); go_simp⟩) (by assumption) ?_
                try simp only [List.getElem_toArray, List.getElem_cons_zero, List.getElem_cons_succ, Act.put, List.setIfInBounds_toArray, List.set_cons_zero, List.set_cons_succ]
                refine wpAnyH_take (i := 1) (v := .slice A n p6) rfl (by kernel_rfl) (by kernel_rfl) (by kernel_rfl) (fun _ _ _ h => h) (Or.inl ⟨by rfl, fun w hSw => by (try dsimp only at hSw); go_simp⟩) (by assumption) ?_
                try simp only [List.getElem_toArray, List.getElem_cons_zero, List.getElem_cons_succ, Act.put, List.setIfInBounds_toArray, List.set_cons_zero, List.set_cons_succ]
                refine wpAnyH_take (i := 2) (v := .int .i64 (n : Int)) rfl (by kernel_rfl) (by kernel_rfl) (by kernel_rfl) (fun _ _ _ h => h) (Or.inl ⟨by rfl, fun w hSw => by (try dsimp only at hSw); go_simp⟩) (by assumption) ?_
                try simp only [List.getElem_toArray, List.getElem_cons_zero, List.getElem_cons_succ, Act.put, List.setIfInBounds_toArray, List.set_cons_zero, List.set_cons_succ]
                refine wpAnyH_take (i := 3) (v := .bool true) rfl (by kernel_rfl) (by kernel_rfl) (by kernel_rfl) (fun _ _ _ h => h) (Or.inl ⟨by rfl, fun w hSw => by (try dsimp only at hSw); go_simp⟩) (by assumption) ?_
                try simp only [List.getElem_toArray, List.getElem_cons_zero, List.getElem_cons_succ, Act.put, List.setIfInBounds_toArray, List.set_cons_zero, List.set_cons_succ]
                refine wpAnyH_take (i := 4) (v := .bool true) rfl (by kernel_rfl) (by kernel_rfl) (by kernel_rfl) (fun _ _ _ h => h) (Or.inl ⟨by rfl, fun w hSw => by (try dsimp only at hSw); go_simp⟩) (by assumption) ?_
                try simp only [List.getElem_toArray, List.getElem_cons_zero, List.getElem_cons_succ, Act.put, List.setIfInBounds_toArray, List.set_cons_zero, List.set_cons_succ]
                refine wpAnyH_take (i := 5) (v := .pointer (some ⟨Z, 0, none⟩)) rfl (by kernel_rfl) (by kernel_rfl) (by kernel_rfl) (fun _ _ _ h => h) (Or.inl ⟨by rfl, fun w hSw => by (try dsimp only at hSw); go_simp⟩) (by assumption) ?_
                try simp only [List.getElem_toArray, List.getElem_cons_zero, List.getElem_cons_succ, Act.put, List.setIfInBounds_toArray, List.set_cons_zero, List.set_cons_succ]
                refine wpAnyH_take (i := 6) (v := .slice A n p6) rfl (by kernel_rfl) (by kernel_rfl) (by kernel_rfl) (fun _ _ _ h => h) (Or.inl ⟨by rfl, fun w hSw => by (try dsimp only at hSw); go_simp⟩) (by assumption) ?_
                try simp only [List.getElem_toArray, List.getElem_cons_zero, List.getElem_cons_succ, Act.put, List.setIfInBounds_toArray, List.set_cons_zero, List.set_cons_succ]
                refine wpAnyH_take (i := 7) (v := .int .i64 (n : Int)) rfl (by kernel_rfl) (by kernel_rfl) (by kernel_rfl) (fun _ _ _ h => h) (Or.inl ⟨by rfl, fun w hSw => by (try dsimp only at hSw); go_simp⟩) (by assumption) ?_
                try simp only [List.getElem_toArray, List.getElem_cons_zero, List.getElem_cons_succ, Act.put, List.setIfInBounds_toArray, List.set_cons_zero, List.set_cons_succ]
                refine wpAnyH_take (i := 8) (v := .pointer (some ⟨Z, 193, none⟩)) rfl (by kernel_rfl) (by kernel_rfl) (by kernel_rfl) (fun _ _ _ h => h) (Or.inl ⟨by rfl, fun w hSw => by (try dsimp only at hSw); go_simp⟩) (by assumption) ?_
                try simp only [List.getElem_toArray, List.getElem_cons_zero, List.getElem_cons_succ, Act.put, List.setIfInBounds_toArray, List.set_cons_zero, List.set_cons_succ]
                refine wpAnyH_take (i := 9) (v := .int .i64 (c.n : Int)) rfl (by kernel_rfl) (by kernel_rfl) (by kernel_rfl) (fun _ _ _ h => h) (Or.inl ⟨by rfl, fun w hSw => by (try dsimp only at hSw); go_simp⟩) (by assumption) ?_
                try simp only [List.getElem_toArray, List.getElem_cons_zero, List.getElem_cons_succ, Act.put, List.setIfInBounds_toArray, List.set_cons_zero, List.set_cons_succ]
                refine wpAnyH_take (i := 10) (v := .bool false) rfl (by kernel_rfl) (by kernel_rfl) (by kernel_rfl) (fun _ _ _ h => h) (Or.inl ⟨by rfl, fun w hSw => by (try dsimp only at hSw); go_simp⟩) (by assumption) ?_
                try simp only [List.getElem_toArray, List.getElem_cons_zero, List.getElem_cons_succ, Act.put, List.setIfInBounds_toArray, List.set_cons_zero, List.set_cons_succ]
                refine wpAnyH_take (i := 11) (v := .bool false) rfl (by kernel_rfl) (by kernel_rfl) (by kernel_rfl) (fun _ _ _ h => h) (Or.inl ⟨by rfl, fun w hSw => by (try dsimp only at hSw); go_simp⟩) (by assumption) ?_
                try simp only [List.getElem_toArray, List.getElem_cons_zero, List.getElem_cons_succ, Act.put, List.setIfInBounds_toArray, List.set_cons_zero, List.set_cons_succ]
                refine wpAnyH_take (i := 12) (v := .agg cr) rfl (by kernel_rfl) (by kernel_rfl) (by kernel_rfl) (fun _ _ _ h => h) (Or.inl ⟨by rfl, fun w hSw => exec_load36 _ rfl rfl (load36 hSw.2.2.2.out HSr.out)⟩) (by assumption) ?_
                try simp only [List.getElem_toArray, List.getElem_cons_zero, List.getElem_cons_succ, Act.put, List.setIfInBounds_toArray, List.set_cons_zero, List.set_cons_succ]
                refine wpAnyH_take (i := 14) (v := .int .i64 (b : Int)) rfl (by kernel_rfl) (by kernel_rfl) (by kernel_rfl) (fun _ _ _ h => h) (Or.inl ⟨by rfl, fun w hSw => by (try dsimp only at hSw); go_simp⟩) (by assumption) ?_
                try simp only [List.getElem_toArray, List.getElem_cons_zero, List.getElem_cons_succ, Act.put, List.setIfInBounds_toArray, List.set_cons_zero, List.set_cons_succ]
                refine wpAnyH_take (i := 16) (v := .pointer (some ⟨Z, 194, none⟩)) rfl (by kernel_rfl) (by kernel_rfl) (by kernel_rfl) (fun _ _ _ h => h) (Or.inl ⟨by rfl, fun w hSw => by (try dsimp only at hSw); go_simp⟩) (by assumption) ?_
                try simp only [List.getElem_toArray, List.getElem_cons_zero, List.getElem_cons_succ, Act.put, List.setIfInBounds_toArray, List.set_cons_zero, List.set_cons_succ]
                refine wpAnyH_take (i := 17) (v := .int .i64 (c.B : Int)) rfl (by kernel_rfl) (by kernel_rfl) (by kernel_rfl) (fun _ _ _ h => h) (Or.inl ⟨by rfl, fun w hSw => by (try dsimp only at hSw); go_simp⟩) (by assumption) ?_
                try simp only [List.getElem_toArray, List.getElem_cons_zero, List.getElem_cons_succ, Act.put, List.setIfInBounds_toArray, List.set_cons_zero, List.set_cons_succ]
                refine wpAnyH_ready (rs := [13]) (by kernel_rfl) (by simp) ?_
                refine AllReadyH.cons (i := 13) rfl (fun K hK => ?_) AllReadyH.nil
                go_simp
                refine (hSz _ k0).mono ?_
                rintro e w3 ⟨rfl, h3⟩
                replace k0 := kept_trans k0 h3
                clear h3
                clear hHeld
                show K _ _
                refine hK.out _ _ (HS1.out _ k0) (fun hHeld => ?_)
                clear hK K
                try simp only [List.getElem_toArray, List.getElem_cons_zero, List.getElem_cons_succ, Act.put, List.setIfInBounds_toArray, List.set_cons_zero, List.set_cons_succ]
                refine wpAnyH_take (i := 15) (v := .int .i64 (zb : Int)) rfl (by kernel_rfl) (by kernel_rfl) (by kernel_rfl) (fun _ _ _ h => h) (Or.inl ⟨by rfl, fun w hSw => by (try dsimp only at hSw); go_simp⟩) (by assumption) ?_
                try simp only [List.getElem_toArray, List.getElem_cons_zero, List.getElem_cons_succ, Act.put, List.setIfInBounds_toArray, List.set_cons_zero, List.set_cons_succ]
                refine wpAnyH_take (i := 18) (v := .bool true) rfl (by kernel_rfl) (by kernel_rfl) (by kernel_rfl) (fun _ _ _ h => h) (Or.inl ⟨by rfl, fun w hSw => by (try dsimp only at hSw); go_simp⟩) (by assumption) ?_
                try simp only [List.getElem_toArray, List.getElem_cons_zero, List.getElem_cons_succ, Act.put, List.setIfInBounds_toArray, List.set_cons_zero, List.set_cons_succ]
                refine wpAnyH_take (i := 19) (v := .bool true) rfl (by kernel_rfl) (by kernel_rfl) (by kernel_rfl) (fun _ _ _ h => h) (Or.inl ⟨by rfl, fun w hSw => by (try dsimp only at hSw); go_simp⟩) (by assumption) ?_
                try simp only [List.getElem_toArray, List.getElem_cons_zero, List.getElem_cons_succ, Act.put, List.setIfInBounds_toArray, List.set_cons_zero, List.set_cons_succ]
                refine wpAnyH_take (i := 20) (v := .bool true) rfl (by kernel_rfl) (by kernel_rfl) (by kernel_rfl) (fun _ _ _ h => h) (Or.inl ⟨by rfl, fun w hSw => by (try dsimp only at hSw); go_simp⟩) (by assumption) ?_
                try simp only [List.getElem_toArray, List.getElem_cons_zero, List.getElem_cons_succ, Act.put, List.setIfInBounds_toArray, List.set_cons_zero, List.set_cons_succ]
                refine wpAnyH_done (by kernel_rfl) ?_ _
                refine NoPanic.normal ?_
                clear hHeld
                clear hg hg2 hg3 hcn hov hSz hzb hzb5 hzb4 hzw
                have HTx := hid (tn_trans HTr.out (tn_kept k0))
                have HAx := hid (at_kept HAr.out k0)
                clear k0 HS1
                obtain ⟨m, hm⟩ : ∃ m, n = m + 1 := ⟨n - 1, by omega⟩
                have hsub : (n : Int) - 1 = (m : Int) := by omega
                have hmn : m < n := by omega
                have HRx := hid (rdl_take (HRa.out _ HTx.out) hn)
                obtain ⟨q5, rfl, lr, hlr, r0, r1, r2, r3, r4, r5, r6, r7⟩ := (rdr_at HRx.out.1).2 m hmn
                rw [List.getElem?_take_of_lt hmn] at hlr
                have HLr := hid hlr
                have hlk : lr.key.size ≤ maxLen := by have := (may_len (HMy.out lr (List.mem_of_getElem? hlr))).2; unfold maxLen; omega
                have hq5 := idxR q5 n p6 m hmn (by omega)
                have HRoom2 : Hid (room c b ⟨M.take m, raise f lr, ev + 1⟩ = room c b ⟨M, s.fl, s.ev⟩) := hid (by
                  rw [← HRoom.out]
                  have e1 : M.take n = M.take m ++ [lr] := by rw [hm]; exact take_snoc HLr.out
                  have h1 := HOv.out
                  rw [e1] at h1 ⊢
                  exact (room_on h1).symm)
                have c0 := (at_cell HAx.out 0).trans HSr.out.row
                clear hlr HOv
                obtain ⟨w4, hw4⟩ : ∃ w4, w3.alloc (.cells #[.string ⟨#[]⟩, .int .u64 0, .int .u32 0, .int .u8 0, .int .u8 0, .int .u32 0, .int .u64 0, .string ⟨#[]⟩] 42) = w4 := ⟨_, rfl⟩
                obtain ⟨X, hX⟩ : ∃ X, w3.heap.size = X := ⟨_, rfl⟩
                have K4 := kept_alloc (kept_refl w3) (.cells #[.string ⟨#[]⟩, .int .u64 0, .int .u32 0, .int .u8 0, .int .u8 0, .int .u32 0, .int .u64 0, .string ⟨#[]⟩] 42)
                have A4 := at_new w3 #[.string ⟨#[]⟩, .int .u64 0, .int .u32 0, .int .u8 0, .int .u8 0, .int .u32 0, .int .u64 0, .string ⟨#[]⟩] 42
                rw [hw4] at K4 A4
                rw [hX] at A4
                have HSt := hid (store42 (rx := #[.string lr.key, .int .u64 lr.s.p, .int .u32 lr.s.l, .int .u8 lr.s.n, .int .u8 lr.kind, .int .u32 lr.flags, .int .u64 lr.exp, .string lr.body]) A4 rfl rfl (allR _ _ _ _ _ _ _ _))
                have HK5 := hid (kept_setRow K4 (Nat.le_of_eq hX) #[.string lr.key, .int .u64 lr.s.p, .int .u32 lr.s.l, .int .u8 lr.s.n, .int .u8 lr.kind, .int .u32 lr.flags, .int .u64 lr.exp, .string lr.body])
                have HX5 := hid (at_setRow (cs := #[.string lr.key, .int .u64 lr.s.p, .int .u32 lr.s.l, .int .u8 lr.s.n, .int .u8 lr.kind, .int .u32 lr.flags, .int .u64 lr.exp, .string lr.body]) A4)
                generalize w4.setRow X #[.string lr.key, .int .u64 lr.s.p, .int .u32 lr.s.l, .int .u8 lr.s.n, .int .u8 lr.kind, .int .u32 lr.flags, .int .u64 lr.exp, .string lr.body] = w5 at HSt HK5 HX5
                have HT5 := hid (tn_trans HTx.out (tn_kept HK5.out))
                have HA5 := hid (at_kept HAx.out HK5.out)
                obtain ⟨x0, x1, x2, x3, x4, x5, x6, x7⟩ := at_cells8' HX5.out
                clear K4 A4
                go_wp2_with (refine wpList_store42 rfl _ _ rfl X rfl #[.string lr.key, .int .u64 lr.s.p, .int .u32 lr.s.l, .int .u8 lr.s.n, .int .u8 lr.kind, .int .u32 lr.flags, .int .u64 lr.exp, .string lr.body] rfl w5 HSt.out ?_)
                refine (refrange_any lr.key hlk _).mono ?_
                rintro e w6 ⟨rfl, rfl⟩
                clear r0 r1 r2 r3 r4 r5 r6 r7 hq5 c0 hw4 hX x0 x1 x2 x3 x4 x5 x6 x7 HSt HAx HTx HRx
                obtain ⟨k, hk⟩ : ∃ k, rg lr.key = k := ⟨_, rfl⟩
                rw [hk]
                have HRk := hid hk.symm
                have hk64 : k < 64 := by rw [← hk]; exact rg_lt _
                clear hk
                obtain ⟨fq, hfq⟩ : ∃ fq, f k = fq := ⟨_, rfl⟩
                have HFq := hid hfq
                have HS1 : Hid (∀ u, Kept w6 u → (u.cell? ⟨Z, 1 + k * 3, none⟩ = some (.int .u64 fq.p) ∧ u.cell? ⟨Z, 1 + k * 3 + 1, none⟩ = some (.int .u32 fq.l) ∧ u.cell? ⟨Z, 1 + k * 3 + 2, none⟩ = some (.int .u8 fq.n)) ∧ (u.cell? ⟨X, 0, none⟩ = some (.string lr.key) ∧ u.cell? ⟨X, 1, none⟩ = some (.int .u64 lr.s.p) ∧ u.cell? ⟨X, 2, none⟩ = some (.int .u32 lr.s.l) ∧ u.cell? ⟨X, 3, none⟩ = some (.int .u8 lr.s.n) ∧ u.cell? ⟨X, 4, none⟩ = some (.int .u8 lr.kind) ∧ u.cell? ⟨X, 5, none⟩ = some (.int .u32 lr.flags) ∧ u.cell? ⟨X, 6, none⟩ = some (.int .u64 lr.exp) ∧ u.cell? ⟨X, 7, none⟩ = some (.string lr.body))) := hid (fun u ku => ⟨by
                  obtain ⟨g1, g2, g3⟩ := HSr.out.floor k hk64
                  rw [hfq] at g1 g2 g3
                  exact ⟨(at_cell (at_kept HA5.out ku) _).trans g1, (at_cell (at_kept HA5.out ku) _).trans g2, (at_cell (at_kept HA5.out ku) _).trans g3⟩, at_cells8' (at_kept HX5.out ku)⟩)
                clear hfq
                have hidx := idxF Z k (by omega)
                have k0 : Kept w6 w6.drew := kept_refl w6
                cases hlt : lt fq lr.s with
                | false =>
                  go_wp2_with fail
                  refine wp_region_noPanic ?_
                  refine wp_region_held_drew (S := (fun w' => (w'.cell? ⟨Z, 1 + k * 3, none⟩ = some (.int .u64 fq.p) ∧ w'.cell? ⟨Z, 1 + k * 3 + 1, none⟩ = some (.int .u32 fq.l) ∧ w'.cell? ⟨Z, 1 + k * 3 + 2, none⟩ = some (.int .u8 fq.n)) ∧ (w'.cell? ⟨X, 0, none⟩ = some (.string lr.key) ∧ w'.cell? ⟨X, 1, none⟩ = some (.int .u64 lr.s.p) ∧ w'.cell? ⟨X, 2, none⟩ = some (.int .u32 lr.s.l) ∧ w'.cell? ⟨X, 3, none⟩ = some (.int .u8 lr.s.n) ∧ w'.cell? ⟨X, 4, none⟩ = some (.int .u8 lr.kind) ∧ w'.cell? ⟨X, 5, none⟩ = some (.int .u32 lr.flags) ∧ w'.cell? ⟨X, 6, none⟩ = some (.int .u64 lr.exp) ∧ w'.cell? ⟨X, 7, none⟩ = some (.string lr.body)))) (by kernel_rfl) (HS1.out _ k0) (fun hHeld => ?_)
                  generalize w6.drew = wq2 at *
                  refine wpAnyH_take (i := 0) (v := .int .i64 (k : Int)) rfl (by kernel_rfl) (by kernel_rfl) (by kernel_rfl) (fun _ _ _ h => h) (Or.inl ⟨by rfl, fun w hSw => by (try dsimp only at hSw); go_simp⟩) (by assumption) ?_
                  try simp only [List.getElem_toArray, List.getElem_cons_zero, List.getElem_cons_succ, Act.put, List.setIfInBounds_toArray, List.set_cons_zero, List.set_cons_succ]
                  refine wpAnyH_take (i := 1) (v := .pointer (some ⟨Z, 1, none⟩)) rfl (by kernel_rfl) (by kernel_rfl) (by kernel_rfl) (fun _ _ _ h => h) (Or.inl ⟨by rfl, fun w hSw => by (try dsimp only at hSw); go_simp⟩) (by assumption) ?_
                  try simp only [List.getElem_toArray, List.getElem_cons_zero, List.getElem_cons_succ, Act.put, List.setIfInBounds_toArray, List.set_cons_zero, List.set_cons_succ]
                  refine wpAnyH_take (i := 2) (v := .pointer (some ⟨Z, 1 + k * 3, none⟩)) rfl (by kernel_rfl) (by kernel_rfl) (by kernel_rfl) (fun _ _ _ h => h) (Or.inl ⟨by rfl, fun w hSw => by (try dsimp only at hSw); go_simp⟩) (by assumption) ?_
                  try simp only [List.getElem_toArray, List.getElem_cons_zero, List.getElem_cons_succ, Act.put, List.setIfInBounds_toArray, List.set_cons_zero, List.set_cons_succ]
                  refine wpAnyH_take (i := 3) (v := .agg #[.int .u64 fq.p, .int .u32 fq.l, .int .u8 fq.n]) rfl (by kernel_rfl) (by kernel_rfl) (by kernel_rfl) (fun _ _ _ h => h) (Or.inl ⟨by rfl, fun w hSw => by (try dsimp only at hSw); go_simp⟩) (by assumption) ?_
                  try simp only [List.getElem_toArray, List.getElem_cons_zero, List.getElem_cons_succ, Act.put, List.setIfInBounds_toArray, List.set_cons_zero, List.set_cons_succ]
                  refine wpAnyH_take (i := 4) (v := .pointer (some ⟨X, 1, none⟩)) rfl (by kernel_rfl) (by kernel_rfl) (by kernel_rfl) (fun _ _ _ h => h) (Or.inl ⟨by rfl, fun w hSw => by (try dsimp only at hSw); go_simp⟩) (by assumption) ?_
                  try simp only [List.getElem_toArray, List.getElem_cons_zero, List.getElem_cons_succ, Act.put, List.setIfInBounds_toArray, List.set_cons_zero, List.set_cons_succ]
                  refine wpAnyH_take (i := 5) (v := .agg #[.int .u64 lr.s.p, .int .u32 lr.s.l, .int .u8 lr.s.n]) rfl (by kernel_rfl) (by kernel_rfl) (by kernel_rfl) (fun _ _ _ h => h) (Or.inl ⟨by rfl, fun w hSw => by (try dsimp only at hSw); go_simp⟩) (by assumption) ?_
                  try simp only [List.getElem_toArray, List.getElem_cons_zero, List.getElem_cons_succ, Act.put, List.setIfInBounds_toArray, List.set_cons_zero, List.set_cons_succ]
                  refine wpAnyH_ready (rs := [6]) (by kernel_rfl) (by simp) ?_
                  refine AllReadyH.cons (i := 6) rfl (fun K hK => ?_) AllReadyH.nil
                  go_simp
                  refine (less_any fq lr.s _).mono ?_
                  rintro e w7 ⟨rfl, h3⟩
                  replace k0 := kept_trans k0 h3
                  clear h3
                  rw [hlt]
                  clear hHeld
                  show K _ _
                  refine hK.out _ _ (HS1.out _ k0) (fun hHeld => ?_)
                  clear hK K
                  try simp only [List.getElem_toArray, List.getElem_cons_zero, List.getElem_cons_succ, Act.put, List.setIfInBounds_toArray, List.set_cons_zero, List.set_cons_succ]
                  refine wpAnyH_done (by kernel_rfl) ?_ _
                  refine NoPanic.normal ?_
                  clear hHeld
                  have HK7 := hid k0
                  clear k0 HS1 hidx

                  have HA8 := hid (at_kept HA5.out HK7.out)
                  have HS8 := hid (show Sv cr (.slice (some ⟨q5, 0, none⟩) n p6) (raise f lr) c ev by rw [raiseR_no HRk.out (by rw [HFq.out]; exact hlt)]; exact HSr.out)
                  have HT8 := hid (tn_trans HT5.out (tn_kept HK7.out))
                  obtain ⟨d0, df⟩ : (w7.cell? ⟨Z, 0, none⟩ = some (.slice (some ⟨q5, 0, none⟩) n p6)) ∧ ∀ o, w7.frozen? ⟨Z, o, none⟩ = false := ⟨(at_cell HA8.out 0).trans HS8.out.row, at_frozen HA8.out⟩
                  obtain ⟨hcc1, hcc2⟩ := HCap.out
                  have s1 := sl_hi q5 n p6 m (by omega) (by omega) hcc2
                  obtain ⟨w9, hw9⟩ : ∃ w9, w7.setCell ⟨Z, 0, none⟩ (.slice (some ⟨q5, 0, none⟩) m p6) = w9 := ⟨_, rfl⟩
                  have A9 := at_set HA8.out 0 (.slice (some ⟨q5, 0, none⟩) m p6)
                  rw [hw9] at A9
                  have S9 := sv_row HS8.out (.slice (some ⟨q5, 0, none⟩) m p6) rfl
                  have T9 : Tn (fun k => k = Z) w7 w9 := by rw [← hw9]; exact tn_set (F := fun k => k = Z) tn_refl (.inl rfl) _ _
                  obtain ⟨e0, ef⟩ : (w9.cell? ⟨Z, 196, none⟩ = some (.int .i64 (ev : Int))) ∧ ∀ o, w9.frozen? ⟨Z, o, none⟩ = false := ⟨(at_cell A9 196).trans S9.ev, at_frozen A9⟩
                  obtain ⟨e1, he1⟩ : ∃ e1, ev + 1 = e1 := ⟨_, rfl⟩
                  have hee : (ev : Int) + 1 = (e1 : Int) := by omega
                  have hew : e1 ≤ 900001001 := by omega
                  obtain ⟨w10, hw10⟩ : ∃ w10, w9.setCell ⟨Z, 196, none⟩ (.int .i64 (e1 : Int)) = w10 := ⟨_, rfl⟩
                  have A10 := at_set A9 196 (.int .i64 (e1 : Int))
                  rw [hw10] at A10
                  have HS10 := hid (sv_ev S9 e1)
                  have HT10 : Hid (Tn (fun k => k = Z) wa w10) := hid (tn_trans HT8.out (tn_trans T9 (by rw [← hw10]; exact tn_set (F := fun k => k = Z) tn_refl (.inl rfl) _ _)))
                  have HA10 := hid A10
                  have HL10 : Hid (rowLen w10 Z = m) := hid (rowLen_at ((at_cell HA10.out 0).trans HS10.out.row))
                  have hj1 : e1 + m ≤ 900001000 := by omega
                  have HRoom3 : Hid (room c b ⟨M.take m, raise f lr, e1⟩ = room c b ⟨M, s.fl, s.ev⟩) := hid (by rw [← he1]; exact HRoom2.out)
                  have hm1 : m ≤ N1 := by omega
                  clear A9 S9 T9 A10 he1 hcc1 hcc2 hm
                  go_wp2_with fail
                  go_roundw
                  case rel => exact ⟨m, e1, raise f lr, _, hm1, hj1, HA10, HS10, HT10, HRoom3⟩
                  case measure => rw [HL10.out, HLen.out]; exact hmn
                | true =>
                  go_wp2_with fail
                  refine wp_region_noPanic ?_
                  refine wp_region_held_drew (S := (fun w' => (w'.cell? ⟨Z, 1 + k * 3, none⟩ = some (.int .u64 fq.p) ∧ w'.cell? ⟨Z, 1 + k * 3 + 1, none⟩ = some (.int .u32 fq.l) ∧ w'.cell? ⟨Z, 1 + k * 3 + 2, none⟩ = some (.int .u8 fq.n)) ∧ (w'.cell? ⟨X, 0, none⟩ = some (.string lr.key) ∧ w'.cell? ⟨X, 1, none⟩ = some (.int .u64 lr.s.p) ∧ w'.cell? ⟨X, 2, none⟩ = some (.int .u32 lr.s.l) ∧ w'.cell? ⟨X, 3, none⟩ = some (.int .u8 lr.s.n) ∧ w'.cell? ⟨X, 4, none⟩ = some (.int .u8 lr.kind) ∧ w'.cell? ⟨X, 5, none⟩ = some (.int .u32 lr.flags) ∧ w'.cell? ⟨X, 6, none⟩ = some (.int .u64 lr.exp) ∧ w'.cell? ⟨X, 7, none⟩ = some (.string lr.body)))) (by kernel_rfl) (HS1.out _ k0) (fun hHeld => ?_)
                  generalize w6.drew = wq2 at *
                  refine wpAnyH_take (i := 0) (v := .int .i64 (k : Int)) rfl (by kernel_rfl) (by kernel_rfl) (by kernel_rfl) (fun _ _ _ h => h) (Or.inl ⟨by rfl, fun w hSw => by (try dsimp only at hSw); go_simp⟩) (by assumption) ?_
                  try simp only [List.getElem_toArray, List.getElem_cons_zero, List.getElem_cons_succ, Act.put, List.setIfInBounds_toArray, List.set_cons_zero, List.set_cons_succ]
                  refine wpAnyH_take (i := 1) (v := .pointer (some ⟨Z, 1, none⟩)) rfl (by kernel_rfl) (by kernel_rfl) (by kernel_rfl) (fun _ _ _ h => h) (Or.inl ⟨by rfl, fun w hSw => by (try dsimp only at hSw); go_simp⟩) (by assumption) ?_
                  try simp only [List.getElem_toArray, List.getElem_cons_zero, List.getElem_cons_succ, Act.put, List.setIfInBounds_toArray, List.set_cons_zero, List.set_cons_succ]
                  refine wpAnyH_take (i := 2) (v := .pointer (some ⟨Z, 1 + k * 3, none⟩)) rfl (by kernel_rfl) (by kernel_rfl) (by kernel_rfl) (fun _ _ _ h => h) (Or.inl ⟨by rfl, fun w hSw => by (try dsimp only at hSw); go_simp⟩) (by assumption) ?_
                  try simp only [List.getElem_toArray, List.getElem_cons_zero, List.getElem_cons_succ, Act.put, List.setIfInBounds_toArray, List.set_cons_zero, List.set_cons_succ]
                  refine wpAnyH_take (i := 3) (v := .agg #[.int .u64 fq.p, .int .u32 fq.l, .int .u8 fq.n]) rfl (by kernel_rfl) (by kernel_rfl) (by kernel_rfl) (fun _ _ _ h => h) (Or.inl ⟨by rfl, fun w hSw => by (try dsimp only at hSw); go_simp⟩) (by assumption) ?_
                  try simp only [List.getElem_toArray, List.getElem_cons_zero, List.getElem_cons_succ, Act.put, List.setIfInBounds_toArray, List.set_cons_zero, List.set_cons_succ]
                  refine wpAnyH_take (i := 4) (v := .pointer (some ⟨X, 1, none⟩)) rfl (by kernel_rfl) (by kernel_rfl) (by kernel_rfl) (fun _ _ _ h => h) (Or.inl ⟨by rfl, fun w hSw => by (try dsimp only at hSw); go_simp⟩) (by assumption) ?_
                  try simp only [List.getElem_toArray, List.getElem_cons_zero, List.getElem_cons_succ, Act.put, List.setIfInBounds_toArray, List.set_cons_zero, List.set_cons_succ]
                  refine wpAnyH_take (i := 5) (v := .agg #[.int .u64 lr.s.p, .int .u32 lr.s.l, .int .u8 lr.s.n]) rfl (by kernel_rfl) (by kernel_rfl) (by kernel_rfl) (fun _ _ _ h => h) (Or.inl ⟨by rfl, fun w hSw => by (try dsimp only at hSw); go_simp⟩) (by assumption) ?_
                  try simp only [List.getElem_toArray, List.getElem_cons_zero, List.getElem_cons_succ, Act.put, List.setIfInBounds_toArray, List.set_cons_zero, List.set_cons_succ]
                  refine wpAnyH_ready (rs := [6]) (by kernel_rfl) (by simp) ?_
                  refine AllReadyH.cons (i := 6) rfl (fun K hK => ?_) AllReadyH.nil
                  go_simp
                  refine (less_any fq lr.s _).mono ?_
                  rintro e w7 ⟨rfl, h3⟩
                  replace k0 := kept_trans k0 h3
                  clear h3
                  rw [hlt]
                  clear hHeld
                  show K _ _
                  refine hK.out _ _ (HS1.out _ k0) (fun hHeld => ?_)
                  clear hK K
                  try simp only [List.getElem_toArray, List.getElem_cons_zero, List.getElem_cons_succ, Act.put, List.setIfInBounds_toArray, List.set_cons_zero, List.set_cons_succ]
                  refine wpAnyH_done (by kernel_rfl) ?_ _
                  refine NoPanic.normal ?_
                  clear hHeld
                  obtain ⟨⟨p0, p1, p2⟩, x0, x1, x2, x3, x4, x5, x6, x7⟩ := HS1.out w7 k0
                  have HK7 := hid k0
                  have HA7 := hid (at_kept HA5.out k0)
                  have f7 := at_frozen HA7.out
                  obtain ⟨w8, hw8⟩ : ∃ w8, ((w7.setCell ⟨Z, 1 + k * 3, none⟩ (.int .u64 lr.s.p)).setCell ⟨Z, 1 + k * 3 + 1, none⟩ (.int .u32 lr.s.l)).setCell ⟨Z, 1 + k * 3 + 2, none⟩ (.int .u8 lr.s.n) = w8 := ⟨_, rfl⟩
                  have A8 := at_set (at_set (at_set HA7.out (1 + k * 3) (.int .u64 lr.s.p)) (1 + k * 3 + 1) (.int .u32 lr.s.l)) (1 + k * 3 + 2) (.int .u8 lr.s.n)
                  rw [hw8] at A8
                  have HA80 := hid A8
                  have HS80 := hid (sv_floor HSr.out hk64 lr.s (raiseR_yes HRk.out (by rw [HFq.out]; exact hlt)))
                  have HT80 : Hid (Tn (fun k => k = Z) w7 w8) := hid (by rw [← hw8]; exact tn_set (F := fun k => k = Z) (tn_set (F := fun k => k = Z) (tn_set (F := fun k => k = Z) tn_refl (.inl rfl) _ _) (.inl rfl) _ _) (.inl rfl) _ _)
                  clear k0 HS1 A8
                  generalize ((cr.setIfInBounds (1 + k * 3) (.int .u64 lr.s.p)).setIfInBounds (1 + k * 3 + 1) (.int .u32 lr.s.l)).setIfInBounds (1 + k * 3 + 2) (.int .u8 lr.s.n) = c8 at HA80 HS80

                  have HA8 := hid (HA80.out)
                  have HS8 := hid (HS80.out)
                  have HT8 := hid (tn_trans HT5.out (tn_trans (tn_kept HK7.out) HT80.out))
                  obtain ⟨d0, df⟩ : (w8.cell? ⟨Z, 0, none⟩ = some (.slice (some ⟨q5, 0, none⟩) n p6)) ∧ ∀ o, w8.frozen? ⟨Z, o, none⟩ = false := ⟨(at_cell HA8.out 0).trans HS8.out.row, at_frozen HA8.out⟩
                  obtain ⟨hcc1, hcc2⟩ := HCap.out
                  have s1 := sl_hi q5 n p6 m (by omega) (by omega) hcc2
                  obtain ⟨w9, hw9⟩ : ∃ w9, w8.setCell ⟨Z, 0, none⟩ (.slice (some ⟨q5, 0, none⟩) m p6) = w9 := ⟨_, rfl⟩
                  have A9 := at_set HA8.out 0 (.slice (some ⟨q5, 0, none⟩) m p6)
                  rw [hw9] at A9
                  have S9 := sv_row HS8.out (.slice (some ⟨q5, 0, none⟩) m p6) rfl
                  have T9 : Tn (fun k => k = Z) w8 w9 := by rw [← hw9]; exact tn_set (F := fun k => k = Z) tn_refl (.inl rfl) _ _
                  obtain ⟨e0, ef⟩ : (w9.cell? ⟨Z, 196, none⟩ = some (.int .i64 (ev : Int))) ∧ ∀ o, w9.frozen? ⟨Z, o, none⟩ = false := ⟨(at_cell A9 196).trans S9.ev, at_frozen A9⟩
                  obtain ⟨e1, he1⟩ : ∃ e1, ev + 1 = e1 := ⟨_, rfl⟩
                  have hee : (ev : Int) + 1 = (e1 : Int) := by omega
                  have hew : e1 ≤ 900001001 := by omega
                  obtain ⟨w10, hw10⟩ : ∃ w10, w9.setCell ⟨Z, 196, none⟩ (.int .i64 (e1 : Int)) = w10 := ⟨_, rfl⟩
                  have A10 := at_set A9 196 (.int .i64 (e1 : Int))
                  rw [hw10] at A10
                  have HS10 := hid (sv_ev S9 e1)
                  have HT10 : Hid (Tn (fun k => k = Z) wa w10) := hid (tn_trans HT8.out (tn_trans T9 (by rw [← hw10]; exact tn_set (F := fun k => k = Z) tn_refl (.inl rfl) _ _)))
                  have HA10 := hid A10
                  have HL10 : Hid (rowLen w10 Z = m) := hid (rowLen_at ((at_cell HA10.out 0).trans HS10.out.row))
                  have hj1 : e1 + m ≤ 900001000 := by omega
                  have HRoom3 : Hid (room c b ⟨M.take m, raise f lr, e1⟩ = room c b ⟨M, s.fl, s.ev⟩) := hid (by rw [← he1]; exact HRoom2.out)
                  have hm1 : m ≤ N1 := by omega
                  clear A9 S9 T9 A10 he1 hcc1 hcc2 hm
                  go_wp2_with fail
                  go_roundw
                  case rel => exact ⟨m, e1, raise f lr, _, hm1, hj1, HA10, HS10, HT10, HRoom3⟩
                  case measure => rw [HL10.out, HLen.out]; exact hmn
              · have hg3 : decide ((c.B : Int) < (zb : Int)) = false := decide_eq_false (by omega)
                have HOv : Hid (¬ over c b (M.take n)) := hid (by
                  rintro (h1 | h1)
                  · rw [List.length_take] at h1; omega
                  · rw [Hz.out] at h1; omega)
                go_wp2_with fail
                refine wp_region_noPanic ?_
                refine wp_region_held_drew (S := (fun w' => (w'.cell? ⟨Z, 0, none⟩ = some (.slice A n p6)) ∧ (w'.cell? ⟨Z, 193, none⟩ = some (.int .i64 (c.n : Int))) ∧ (w'.cell? ⟨Z, 194, none⟩ = some (.int .i64 (c.B : Int))) ∧ (Hid (At w' Z cr 36)))) (by kernel_rfl) (HS1.out _ k0) (fun hHeld => ?_)
                generalize wr.drew = wq at *
                refine wpAnyH_take (i := 0) (v := .pointer (some ⟨Z, 0, none⟩)) rfl (by kernel_rfl) (by kernel_rfl) (by kernel_rfl) (fun _ _ _ h => h) (Or.inl ⟨by rfl, fun w hSw => by (try dsimp only at hSw); go_simp⟩) (by assumption) ?_
                try simp only [List.getElem_toArray, List.getElem_cons_zero, List.getElem_cons_succ, Act.put, List.setIfInBounds_toArray, List.set_cons_zero, List.set_cons_succ]
                refine wpAnyH_take (i := 1) (v := .slice A n p6) rfl (by kernel_rfl) (by kernel_rfl) (by kernel_rfl) (fun _ _ _ h => h) (Or.inl ⟨by rfl, fun w hSw => by (try dsimp only at hSw); go_simp⟩) (by assumption) ?_
                try simp only [List.getElem_toArray, List.getElem_cons_zero, List.getElem_cons_succ, Act.put, List.setIfInBounds_toArray, List.set_cons_zero, List.set_cons_succ]
                refine wpAnyH_take (i := 2) (v := .int .i64 (n : Int)) rfl (by kernel_rfl) (by kernel_rfl) (by kernel_rfl) (fun _ _ _ h => h) (Or.inl ⟨by rfl, fun w hSw => by (try dsimp only at hSw); go_simp⟩) (by assumption) ?_
                try simp only [List.getElem_toArray, List.getElem_cons_zero, List.getElem_cons_succ, Act.put, List.setIfInBounds_toArray, List.set_cons_zero, List.set_cons_succ]
                refine wpAnyH_take (i := 3) (v := .bool true) rfl (by kernel_rfl) (by kernel_rfl) (by kernel_rfl) (fun _ _ _ h => h) (Or.inl ⟨by rfl, fun w hSw => by (try dsimp only at hSw); go_simp⟩) (by assumption) ?_
                try simp only [List.getElem_toArray, List.getElem_cons_zero, List.getElem_cons_succ, Act.put, List.setIfInBounds_toArray, List.set_cons_zero, List.set_cons_succ]
                refine wpAnyH_take (i := 4) (v := .bool true) rfl (by kernel_rfl) (by kernel_rfl) (by kernel_rfl) (fun _ _ _ h => h) (Or.inl ⟨by rfl, fun w hSw => by (try dsimp only at hSw); go_simp⟩) (by assumption) ?_
                try simp only [List.getElem_toArray, List.getElem_cons_zero, List.getElem_cons_succ, Act.put, List.setIfInBounds_toArray, List.set_cons_zero, List.set_cons_succ]
                refine wpAnyH_take (i := 5) (v := .pointer (some ⟨Z, 0, none⟩)) rfl (by kernel_rfl) (by kernel_rfl) (by kernel_rfl) (fun _ _ _ h => h) (Or.inl ⟨by rfl, fun w hSw => by (try dsimp only at hSw); go_simp⟩) (by assumption) ?_
                try simp only [List.getElem_toArray, List.getElem_cons_zero, List.getElem_cons_succ, Act.put, List.setIfInBounds_toArray, List.set_cons_zero, List.set_cons_succ]
                refine wpAnyH_take (i := 6) (v := .slice A n p6) rfl (by kernel_rfl) (by kernel_rfl) (by kernel_rfl) (fun _ _ _ h => h) (Or.inl ⟨by rfl, fun w hSw => by (try dsimp only at hSw); go_simp⟩) (by assumption) ?_
                try simp only [List.getElem_toArray, List.getElem_cons_zero, List.getElem_cons_succ, Act.put, List.setIfInBounds_toArray, List.set_cons_zero, List.set_cons_succ]
                refine wpAnyH_take (i := 7) (v := .int .i64 (n : Int)) rfl (by kernel_rfl) (by kernel_rfl) (by kernel_rfl) (fun _ _ _ h => h) (Or.inl ⟨by rfl, fun w hSw => by (try dsimp only at hSw); go_simp⟩) (by assumption) ?_
                try simp only [List.getElem_toArray, List.getElem_cons_zero, List.getElem_cons_succ, Act.put, List.setIfInBounds_toArray, List.set_cons_zero, List.set_cons_succ]
                refine wpAnyH_take (i := 8) (v := .pointer (some ⟨Z, 193, none⟩)) rfl (by kernel_rfl) (by kernel_rfl) (by kernel_rfl) (fun _ _ _ h => h) (Or.inl ⟨by rfl, fun w hSw => by (try dsimp only at hSw); go_simp⟩) (by assumption) ?_
                try simp only [List.getElem_toArray, List.getElem_cons_zero, List.getElem_cons_succ, Act.put, List.setIfInBounds_toArray, List.set_cons_zero, List.set_cons_succ]
                refine wpAnyH_take (i := 9) (v := .int .i64 (c.n : Int)) rfl (by kernel_rfl) (by kernel_rfl) (by kernel_rfl) (fun _ _ _ h => h) (Or.inl ⟨by rfl, fun w hSw => by (try dsimp only at hSw); go_simp⟩) (by assumption) ?_
                try simp only [List.getElem_toArray, List.getElem_cons_zero, List.getElem_cons_succ, Act.put, List.setIfInBounds_toArray, List.set_cons_zero, List.set_cons_succ]
                refine wpAnyH_take (i := 10) (v := .bool false) rfl (by kernel_rfl) (by kernel_rfl) (by kernel_rfl) (fun _ _ _ h => h) (Or.inl ⟨by rfl, fun w hSw => by (try dsimp only at hSw); go_simp⟩) (by assumption) ?_
                try simp only [List.getElem_toArray, List.getElem_cons_zero, List.getElem_cons_succ, Act.put, List.setIfInBounds_toArray, List.set_cons_zero, List.set_cons_succ]
                refine wpAnyH_take (i := 11) (v := .bool false) rfl (by kernel_rfl) (by kernel_rfl) (by kernel_rfl) (fun _ _ _ h => h) (Or.inl ⟨by rfl, fun w hSw => by (try dsimp only at hSw); go_simp⟩) (by assumption) ?_
                try simp only [List.getElem_toArray, List.getElem_cons_zero, List.getElem_cons_succ, Act.put, List.setIfInBounds_toArray, List.set_cons_zero, List.set_cons_succ]
                refine wpAnyH_take (i := 12) (v := .agg cr) rfl (by kernel_rfl) (by kernel_rfl) (by kernel_rfl) (fun _ _ _ h => h) (Or.inl ⟨by rfl, fun w hSw => exec_load36 _ rfl rfl (load36 hSw.2.2.2.out HSr.out)⟩) (by assumption) ?_
                try simp only [List.getElem_toArray, List.getElem_cons_zero, List.getElem_cons_succ, Act.put, List.setIfInBounds_toArray, List.set_cons_zero, List.set_cons_succ]
                refine wpAnyH_take (i := 14) (v := .int .i64 (b : Int)) rfl (by kernel_rfl) (by kernel_rfl) (by kernel_rfl) (fun _ _ _ h => h) (Or.inl ⟨by rfl, fun w hSw => by (try dsimp only at hSw); go_simp⟩) (by assumption) ?_
                try simp only [List.getElem_toArray, List.getElem_cons_zero, List.getElem_cons_succ, Act.put, List.setIfInBounds_toArray, List.set_cons_zero, List.set_cons_succ]
                refine wpAnyH_take (i := 16) (v := .pointer (some ⟨Z, 194, none⟩)) rfl (by kernel_rfl) (by kernel_rfl) (by kernel_rfl) (fun _ _ _ h => h) (Or.inl ⟨by rfl, fun w hSw => by (try dsimp only at hSw); go_simp⟩) (by assumption) ?_
                try simp only [List.getElem_toArray, List.getElem_cons_zero, List.getElem_cons_succ, Act.put, List.setIfInBounds_toArray, List.set_cons_zero, List.set_cons_succ]
                refine wpAnyH_take (i := 17) (v := .int .i64 (c.B : Int)) rfl (by kernel_rfl) (by kernel_rfl) (by kernel_rfl) (fun _ _ _ h => h) (Or.inl ⟨by rfl, fun w hSw => by (try dsimp only at hSw); go_simp⟩) (by assumption) ?_
                try simp only [List.getElem_toArray, List.getElem_cons_zero, List.getElem_cons_succ, Act.put, List.setIfInBounds_toArray, List.set_cons_zero, List.set_cons_succ]
                refine wpAnyH_ready (rs := [13]) (by kernel_rfl) (by simp) ?_
                refine AllReadyH.cons (i := 13) rfl (fun K hK => ?_) AllReadyH.nil
                go_simp
                refine (hSz _ k0).mono ?_
                rintro e w3 ⟨rfl, h3⟩
                replace k0 := kept_trans k0 h3
                clear h3
                clear hHeld
                show K _ _
                refine hK.out _ _ (HS1.out _ k0) (fun hHeld => ?_)
                clear hK K
                try simp only [List.getElem_toArray, List.getElem_cons_zero, List.getElem_cons_succ, Act.put, List.setIfInBounds_toArray, List.set_cons_zero, List.set_cons_succ]
                refine wpAnyH_take (i := 15) (v := .int .i64 (zb : Int)) rfl (by kernel_rfl) (by kernel_rfl) (by kernel_rfl) (fun _ _ _ h => h) (Or.inl ⟨by rfl, fun w hSw => by (try dsimp only at hSw); go_simp⟩) (by assumption) ?_
                try simp only [List.getElem_toArray, List.getElem_cons_zero, List.getElem_cons_succ, Act.put, List.setIfInBounds_toArray, List.set_cons_zero, List.set_cons_succ]
                refine wpAnyH_take (i := 18) (v := .bool false) rfl (by kernel_rfl) (by kernel_rfl) (by kernel_rfl) (fun _ _ _ h => h) (Or.inl ⟨by rfl, fun w hSw => by (try dsimp only at hSw); go_simp⟩) (by assumption) ?_
                try simp only [List.getElem_toArray, List.getElem_cons_zero, List.getElem_cons_succ, Act.put, List.setIfInBounds_toArray, List.set_cons_zero, List.set_cons_succ]
                refine wpAnyH_take (i := 19) (v := .bool false) rfl (by kernel_rfl) (by kernel_rfl) (by kernel_rfl) (fun _ _ _ h => h) (Or.inl ⟨by rfl, fun w hSw => by (try dsimp only at hSw); go_simp⟩) (by assumption) ?_
                try simp only [List.getElem_toArray, List.getElem_cons_zero, List.getElem_cons_succ, Act.put, List.setIfInBounds_toArray, List.set_cons_zero, List.set_cons_succ]
                refine wpAnyH_take (i := 20) (v := .bool false) rfl (by kernel_rfl) (by kernel_rfl) (by kernel_rfl) (fun _ _ _ h => h) (Or.inl ⟨by rfl, fun w hSw => by (try dsimp only at hSw); go_simp⟩) (by assumption) ?_
                try simp only [List.getElem_toArray, List.getElem_cons_zero, List.getElem_cons_succ, Act.put, List.setIfInBounds_toArray, List.set_cons_zero, List.set_cons_succ]
                refine wpAnyH_done (by kernel_rfl) ?_ _
                refine NoPanic.normal ?_
                clear hHeld
                clear hg hg2 hg3 hcn hov hSz hzb hzb5 hzb4 hzw
                have HTx := hid (tn_trans HTr.out (tn_kept k0))
                have HAx := hid (at_kept HAr.out k0)
                have HKx := hid (kept_tn HKa0.out (F := fun k => k = Z) (fun k hk => by rw [hk, HG.out.1]; exact Nat.le_refl _) HTx.out)
                have HYx := hid (at_tn HYa.out HTx.out (by have := HG.out; omega))
                have HZx := hid (at_tn HZa.out HTx.out (by have := HG.out; omega))
                clear k0 HS1
                have HRoom2 : Hid (room c (lenR r) ⟨woK s.L r.key, s.fl, s.ev⟩ = ⟨M.take n, f, ev⟩) := hid (by
                  rw [Hb.out, ← HMm.out, ← HRoom.out]
                  exact room_stop HOv.out)
                have HNew : Hid (putS c s r now = ⟨r :: M.take n, f, ev⟩ ∧ putB c s r now = true ∧ putE c s r now = 0) := hid (by
                  obtain ⟨h1, h2, h3⟩ := put_100 HPK.out
                  refine ⟨?_, h1, h2⟩
                  rw [h3]
                  unfold newer
                  rw [HRoom2.out])
                have HLdY := hid (load42 HYx.out rfl)
                obtain ⟨w4, hw4⟩ : ∃ w4, w3.alloc (.cells #[.string r.key, .int .u64 r.s.p, .int .u32 r.s.l, .int .u8 r.s.n, .int .u8 r.kind, .int .u32 r.flags, .int .u64 r.exp, .string r.body] 42) = w4 := ⟨_, rfl⟩
                obtain ⟨G, hG⟩ : ∃ G, w3.heap.size = G := ⟨_, rfl⟩
                have K4 := kept_alloc (kept_refl w3) (.cells #[.string r.key, .int .u64 r.s.p, .int .u32 r.s.l, .int .u8 r.s.n, .int .u8 r.kind, .int .u32 r.flags, .int .u64 r.exp, .string r.body] 42)
                have A4 := at_new w3 #[.string r.key, .int .u64 r.s.p, .int .u32 r.s.l, .int .u8 r.s.n, .int .u8 r.kind, .int .u32 r.flags, .int .u64 r.exp, .string r.body] 42
                rw [hw4] at K4 A4
                rw [hG] at A4
                have HGx : Hid (Z < G ∧ Zr < G ∧ Y < G) := hid (by
                  have h1 := at_lt HAx.out
                  have h2 := at_lt HZx.out
                  have h3 := at_lt HYx.out
                  omega)
                have HO4 := hid (own_one (B := G) A4 (Nat.le_refl _))
                have HS4 := hid (src_rdr (rdl_take (HRa.out _ (tn_trans HTx.out (tn_kept K4))) hn).1)
                have HB4 : Hid (G ≤ w4.heap.size) := hid (by rw [← hG]; exact K4.2)
                have HGl : Hid (w3.heap.size ≤ G) := hid (Nat.le_of_eq hG)
                have Hl4 : Hid ([r].length + (M.take n).length ≤ 4096) := hid (by have := HN1.out; simp; omega)
                have HK4 := hid K4
                have c4 := (at_cell (at_kept HAx.out K4) 0).trans HSr.out.row
                clear A4 K4 HOv
                go_wp2_with (first | (refine wpList_load42 rfl _ rfl Y rfl #[.string r.key, .int .u64 r.s.p, .int .u32 r.s.l, .int .u8 r.s.n, .int .u8 r.kind, .int .u32 r.flags, .int .u64 r.exp, .string r.body] HLdY.out ?_) | (at_builtin; refine wpList_app rfl _ _ rfl G _ _ [r] (M.take n) rfl HO4.out rfl HS4.out Hl4.out HB4.out ?_; intro v5 w5 hown hgrow; obtain ⟨g5, n5, p5, rfl, H5⟩ := own_as hown; have HK5 := hid (kept_own HO4.out HK4.out HGl.out hgrow); have HO5 := hid hown; clear hown hgrow; obtain ⟨c5, f5⟩ : (w5.cell? ⟨Z, 0, none⟩ = some (.slice A n p6)) ∧ ∀ o, w5.frozen? ⟨Z, o, none⟩ = false := ⟨(at_cell (at_kept HAx.out HK5.out) 0).trans HSr.out.row, at_frozen (at_kept HAx.out HK5.out)⟩; obtain ⟨w8, hw8⟩ : ∃ w8, w5.setCell ⟨Z, 0, none⟩ (.slice (some ⟨g5, 0, none⟩) n5 p5) = w8 := ⟨_, rfl⟩))
                have HT8 : Hid (Tn (fun k => k = Z) w5 w8) := hid (by rw [← hw8]; exact tn_set (F := fun k => k = Z) tn_refl (.inl rfl) _ _)
                obtain ⟨c8, hc8⟩ : ∃ c8, cr.setIfInBounds 0 (.slice (some ⟨g5, 0, none⟩) n5 p5) = c8 := ⟨_, rfl⟩
                have HS8 := hid (sv_row HSr.out (.slice (some ⟨g5, 0, none⟩) n5 p5) rfl)
                rw [hc8] at HS8
                have A8 : At w8 Z c8 36 := by rw [← hw8, ← hc8]; exact at_set (at_kept HAx.out HK5.out) 0 _
                have K8 : Kept w w8 := kept_tn (kept_trans HKx.out HK5.out) (F := fun k => k = Z) (fun k hk => by rw [hk, HG.out.1]; exact Nat.le_refl _) HT8.out
                have B8 : At w8 Zr zs 36 := at_tn (at_kept HZx.out HK5.out) HT8.out (by have := HG.out; omega)
                have HF := hid (ret_facts K8 A8 B8 HZs.out HS8.out (by have := HG.out; omega) (by have := HG.out; omega))
                have HO8 : Hid (Own (w8.drew.setRow Zr c8) G (.slice (some ⟨g5, 0, none⟩) n5 p5) ([r] ++ M.take n)) := hid (own_tnL (F := fun k => k = Z ∨ k = Zr) HO5.out (tn_setRow (F := fun k => k = Z ∨ k = Zr) (tn_drew (tn_mono HT8.out (fun k hk => Or.inl hk))) (Or.inl (Or.inr rfl)) _) (fun k hk => by have := HGx.out; omega))
                have HEnd : Hid (PutR c s cs r now w (.returned (.tuple #[.bool true, .int .i64 0, .agg c8])) (w8.drew.setRow Zr c8)) := hid ⟨c8, by rw [HNew.out.2.1, HNew.out.2.2], HF.out.2.2.2.1, by rw [HNew.out.1]; exact ⟨_, HS8.out, rdl_own HO8.out⟩, row_new HS8.out HO8.out (by have := HGx.out; have := HG.out; omega)⟩
                clear A8 K8 B8 hc8 c5 f5 hw8 hw4 c4 hG
                go_wp2_with fail
                refine wp_region_noPanic ?_
                refine wp_region_held_drew (S := (fun w' => At w' Z c8 36)) (by kernel_rfl) (HF.out.2.2.2.2) (fun hHeld => ?_)
                generalize w8.drew = wq3 at *
                refine wpAnyH_take (i := 0) (v := .agg c8) rfl (by kernel_rfl) (by kernel_rfl) (by kernel_rfl) (fun _ _ _ h => h) (Or.inl ⟨by rfl, fun w hSw => exec_load36 _ rfl rfl (load36 hSw HS8.out)⟩) (by assumption) ?_
                try simp only [List.getElem_toArray, List.getElem_cons_zero, List.getElem_cons_succ, Act.put, List.setIfInBounds_toArray, List.set_cons_zero, List.set_cons_succ]
                refine wpAnyH_take (i := 1) (v := .bool true) rfl (by kernel_rfl) (by kernel_rfl) (by kernel_rfl) (fun _ _ _ h => h) (Or.inl ⟨by rfl, fun w hSw => by (try dsimp only at hSw); go_simp⟩) (by assumption) ?_
                try simp only [List.getElem_toArray, List.getElem_cons_zero, List.getElem_cons_succ, Act.put, List.setIfInBounds_toArray, List.set_cons_zero, List.set_cons_succ]
                refine wpAnyH_take (i := 2) (v := .int .i64 0) rfl (by kernel_rfl) (by kernel_rfl) (by kernel_rfl) (fun _ _ _ h => h) (Or.inl ⟨by rfl, fun w hSw => by (try dsimp only at hSw); go_simp⟩) (by assumption) ?_
                try simp only [List.getElem_toArray, List.getElem_cons_zero, List.getElem_cons_succ, Act.put, List.setIfInBounds_toArray, List.set_cons_zero, List.set_cons_succ]
                refine wpAnyH_ready (rs := [3]) (by kernel_rfl) (by simp) ?_
                refine AllReadyH.cons (i := 3) rfl (fun K hK => ?_) AllReadyH.nil
                rw [if_pos (by rfl)]
                refine wp_store36 _ _ rfl Zr rfl c8 rfl (wq3.setRow Zr c8) HF.out.1 ?_
                clear hHeld
                refine hK.out _ _ (HF.out.2.2.1) (fun hHeld => ?_)
                clear hK K
                try simp only [List.getElem_toArray, List.getElem_cons_zero, List.getElem_cons_succ, Act.put, List.setIfInBounds_toArray, List.set_cons_zero, List.set_cons_succ]
                refine wpAnyH_done (by kernel_rfl) ?_ _
                refine NoPanic.normal ?_
                clear hHeld
                go_wp2_with fail
                exact bodyPost_ret (resP Tryz.results15 _ rfl rfl rfl HF.out.2.1) rfl HEnd.out
end Go.Proofs.YthgbdaladngpdaaGreat
