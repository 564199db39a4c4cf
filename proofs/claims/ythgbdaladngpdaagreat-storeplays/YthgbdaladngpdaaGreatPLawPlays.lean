/- The law that any row of calls of a store of any bounds is answered as the reference answers it, walked: it answers true and turns nothing that was there. -/
import Derived.Test.YthgbdaladngpdaaGreatP23
import Derived.Deep.CutBlock
import Derived.Deep.DeepCutAuto
namespace Go.Proofs.YthgbdaladngpdaaGreat
open Go.ChangeShapes Go.WideShapes Go.ChangeAt Go.RowKit
open Go.Proofs.YthgbdaladngpdaaGreat.Whl (Tn tn_kept tn_refl tn_trans tn_set tn_alloc at_tn kept_tn It)
set_option linter.unusedVariables false
set_option linter.unusedSimpArgs false
set_option maxRecDepth 100000

set_option maxHeartbeats 25600000 in
theorem plays_walk (cn cb ck : Int) (oa : Option Addr) (len cap b o : Nat) (S : Nat → Opx) (w : World) (wn : (Lit.int .i64 cn).wf = true) (wb : (Lit.int .i64 cb).wf = true) (wk : (Lit.int .i64 ck).wf = true) (hr : RowO w oa len cap b o S) :
    Calls Tryz.prog 3 #[.agg #[.int .i64 cn, .int .i64 cb, .int .i64 ck], .slice oa len cap] w fun e w' => e = .returned (.bool true) ∧ Kept w w' := by
  have hz := zero44
  have hz2 := zero27
  have hz3 := zero36
  have hsz := svn_size 0 0 0
  have HZz := hid sv_zero
  obtain ⟨zs, hzs⟩ : ∃ zs, svn 0 0 0 = zs := ⟨_, rfl⟩
  rw [hzs] at hsz HZz
  have hz4 : ∀ w : World, (zeroValue 36).run Tryz.prog w = .ok (.agg zs) w := fun w => by rw [← hzs]; exact zero36 w
  have HZe := hid hzs
  clear hz3 hzs
  have K0 := kept_alloc (kept_refl w) (.cells #[.int .i64 cn, .int .i64 cb, .int .i64 ck] 23)
  have A0 := at_new w #[.int .i64 cn, .int .i64 cb, .int .i64 ck] 23
  obtain ⟨w0, hw0⟩ : ∃ w0, w.alloc (.cells #[.int .i64 cn, .int .i64 cb, .int .i64 ck] 23) = w0 := ⟨_, rfl⟩
  obtain ⟨Z, hZ⟩ : ∃ Z, w.heap.size = Z := ⟨_, rfl⟩
  rw [hw0] at K0 A0
  rw [hZ] at A0
  have HK0 := hid K0
  have HA0 := hid A0
  have HR0 := hid (rowo_kept hr K0)
  have HZs := hid hsz
  obtain ⟨a0, a1, a2, _⟩ := at_cells3 A0
  clear K0 A0 hr hsz
  by_cases hcm : confMay cn cb ck
  · obtain ⟨c, hc, rfl, rfl, rfl⟩ := plays_conf hcm
    clear hcm wn wb wk
    have hsn := sv_new c
    go_enter Tryz.func3, Tryz.ntmps3
    go_wp2_with fail
    refine (snew_any c hc _).mono ?_
    rintro e w1 ⟨X, F, rfl, k1, hF, h1⟩
    have HF1 := hid hF
    have HK1 := hid k1
    have HS1 := hid h1
    clear k1 hF h1 a0 a1 a2 hw0
    obtain ⟨a0, a1, a2, _⟩ := at_cells3 (at_kept HA0.out HK1.out)
    go_wp2_with fail
    refine (refnew_any c hc _).mono ?_
    rintro e w1b ⟨rfl, k1b⟩
    have hrs0 := rs_new w1b c
    obtain ⟨cs0, hcs0⟩ : ∃ cs0, svn (c.n : Int) (c.B : Int) (c.K : Int) = cs0 := ⟨_, rfl⟩
    rw [hcs0] at hsn hrs0
    rw [hcs0]
    clear hcs0
    have HK1b := hid (kept_trans HK1.out k1b)
    have HS1b := hid (st_kept HS1.out k1b)
    obtain ⟨wc, hwc⟩ : ∃ wc, w1b.alloc (.cells zs 36) = wc := ⟨_, rfl⟩
    obtain ⟨Zm, hZm⟩ : ∃ Zm, w1b.heap.size = Zm := ⟨_, rfl⟩
    have Kc := kept_alloc (kept_refl w1b) (.cells zs 36)
    have Ac := at_new w1b zs 36
    rw [hwc] at Kc Ac
    rw [hZm] at Ac
    have HSt := hid (store36 (cs := cs0) Ac HZs.out hsn)
    have HP1 : Hid (Pl w0 (wc.setRow Zm cs0) F X Zm cs0 c MS0 MS0) := hid (by
      have hnF : ¬ F Zm := fun hf => by have := st_low HS1b.out _ hf; omega
      have hrow : ∀ q n cap, cs0[0]? = some (.slice (some ⟨q, 0, none⟩) n cap) → 0 < MS0.L.length → ¬ F q ∧ q ≠ Zm ∧ q < (wc.setRow Zm cs0).heap.size := fun q n cap _ l => absurd l (by simp [MS0])
      refine ⟨st_tn (st_kept HS1b.out Kc) (tn_setRow (F := fun k => k = Zm) tn_refl (Or.inl rfl) cs0) (fun j hj e => hnF (e ▸ hj)), ⟨at_setRow Ac, ?_, hnF, hrow⟩, HF1.out, kept_setRow (kept_trans HK1b.out Kc) (by rw [← hZm]; exact HK1b.out.2) cs0, by rw [← hZm]; exact HK1b.out.2⟩
      obtain ⟨v, hv, hr⟩ := hrs0
      exact ⟨v, hv, rdl_tn (rdl_kept hr Kc) (tn_setRow (F := fun k => k = Zm) tn_refl (Or.inl rfl) cs0) (fun q n cap _ l => absurd l (by simp [MS0]))⟩)
    generalize wc.setRow Zm cs0 = w2 at HSt HP1
    clear Kc Ac k1b HK1b HS1b HF1 HK1 HS1 hsn hrs0 a0 a1 a2
    go_wp2_with (refine wpList_store36 rfl _ _ rfl Zm rfl cs0 rfl w2 HSt.out ?_)
    refine (fixed_any _).mono ?_
    rintro e w3 ⟨rfl, k3⟩
    have HP3 := hid (pl_kept HP1.out k3)
    clear k3 HP1 HSt hwc hZm
    go_wp2_with fail
    refine (cut_any oa len cap b o S _ (rowo_kept HR0.out HP3.out.kept)).mono ?_
    rintro e w4 ⟨n, rfl, hn1, hn2, hn3, k4⟩
    have HP4 := hid (pl_kept HP3.out k4)
    have HR := hid (rowo_less HR0.out hn1)
    have HN := hid hn3
    clear k4 HP3 HR0 hn1 hn3 hz4 HZz HZs HZe
    go_wp2_with fail
    go_loopw [9, 65] (fun t i wr => ∃ (j : Nat) (tn : Nat) (F : Nat → Prop) (s : MS) (cs : Array Value), j ≤ n ∧ i = .int .i64 (j : Int) ∧ t = .int .u64 (tn : Int) ∧ tn ≤ j * 255 ∧ s.ev + s.L.length ≤ j ∧ Hid (Pl w0 wr F X Zm cs c s s) ∧ Hid (Fit c s)) (fun _ i _ => n - (intOf i).toNat)
    case atStart => exact ⟨0, 0, F, MS0, cs0, Nat.zero_le _, rfl, rfl, by omega, by simp [MS0], HP4, hid fit_new⟩
    case round =>
      clear HP4
      obtain ⟨j, tn, F, s, cs, hj, rfl, rfl, ht, hcnt, HP, HFit⟩ := hrel
      by_cases hlt : j < n
      · obtain ⟨rfl, hb⟩ := HR.out.2.2.2.1 (by omega)
        obtain ⟨xok, c0, c1, c2, c3, c4, c5, c6, c7, c8, c9⟩ := (rowo_kept HR.out HP.out.kept).2.2.2.2 j hlt
        have hxs := HN.out j hlt
        obtain ⟨x, hx⟩ : ∃ x, S j = x := ⟨_, rfl⟩
        rw [hx] at xok c0 c1 c2 c3 c4 c5 c6 c7 c8 c9 hxs
        have hp0 := xok.2.2.1
        have hp1 := xok.2.2.2
        obtain ⟨pn, hpn⟩ : ∃ pn : Nat, x.pass = (pn : Int) := ⟨x.pass.toNat, by omega⟩
        have HXok := hid xok.2.1
        clear xok hx
        rw [hpn] at c9 hp0 hp1
        have hkm : x.r.key.size ≤ maxLen := by unfold maxLen; omega
        have K4 := kept_alloc (kept_refl wr) (.cells #[.int .i64 x.kind, .string x.r.key, .int .u64 x.r.s.p, .int .u32 x.r.s.l, .int .u8 x.r.s.n, .int .u8 x.r.kind, .int .u32 x.r.flags, .int .u64 x.r.exp, .string x.r.body, .int .u8 (pn : Int)] 44)
        obtain ⟨w5, hw5⟩ : ∃ w5, wr.alloc (.cells #[.int .i64 x.kind, .string x.r.key, .int .u64 x.r.s.p, .int .u32 x.r.s.l, .int .u8 x.r.s.n, .int .u8 x.r.kind, .int .u32 x.r.flags, .int .u64 x.r.exp, .string x.r.body, .int .u8 (pn : Int)] 44) = w5 := ⟨_, rfl⟩
        have A4 := at_new wr #[.int .i64 x.kind, .string x.r.key, .int .u64 x.r.s.p, .int .u32 x.r.s.l, .int .u8 x.r.s.n, .int .u8 x.r.kind, .int .u32 x.r.flags, .int .u64 x.r.exp, .string x.r.body, .int .u8 (pn : Int)] 44
        obtain ⟨Y, hY⟩ : ∃ Y, wr.heap.size = Y := ⟨_, rfl⟩
        have HnF : Hid (¬ F Y ∧ Y ≠ Zm) := hid ⟨fun hf => by have := st_low HP.out.st _ hf; omega, fun e => by have := at_lt HP.out.rk.here; omega⟩
        rw [hw5] at K4 A4
        rw [hY] at A4
        obtain ⟨d0, d1, d2, d3, d4, d5, d6, d7, d8, d9⟩ := at_c10 A4
        have HA5 := hid A4
        have HP5 := hid (pl_kept HP.out K4)
        obtain ⟨t2, ht2⟩ : ∃ t2, tn + pn = t2 := ⟨_, rfl⟩
        have htt : (tn : Int) + (pn : Int) = (t2 : Int) := by omega
        have htn : t2 ≤ (j + 1) * 255 := by omega
        have hw2 : IntKind.u64.wrap (t2 : Int) = (t2 : Int) := by rw [IntKind.wrap_u64]; omega
        have hRg := refrange_any x.r.key hkm w5
        obtain ⟨kk, hkk⟩ : ∃ kk, rg x.r.key = kk := ⟨_, rfl⟩
        have hk64 : kk < 64 := by rw [← hkk]; exact rg_lt _
        rw [hkk] at hRg
        have hnn : n ≤ 81 := hn2
        have HHj := hid (And.intro hcnt (And.intro ht2 htn))
        clear K4 A4 HP ht2 hkk
        go_wp2_with fail
        refine hRg.mono ?_
        rintro e w5b ⟨rfl, e5⟩
        rw [e5]
        clear e5 w5b
        clear hRg c0 c1 c2 c3 c4 c5 c6 c7 c8 c9 hw5 hY
        go_upto_block 2 with fail
        go_cut [13, 14, 15, 16, 17, 18, 19, 20, 21, 22, 23, 24, 65] (fun _ _ _ _ _ _ _ _ _ _ _ _ i wx => i = .int .i64 (j : Int) ∧ ∃ (Fz : Nat → Prop) (sz : MS) (cz : Array Value), sz.ev + sz.L.length ≤ j + 1 ∧ Hid (Pl w0 wx Fz X Zm cz c sz sz) ∧ Hid (Fit c sz))
        case rest =>
          obtain ⟨rfl, Fz, sz, cz, hcz, HPz, HFz⟩ := hcut
          clear HP5 HA5 HFit HnF HXok d0 d1 d2 d3 d4 d5 d6 d7 d8 d9
          as_aux_lemma =>
            obtain ⟨a, cap36, hrow, hcell⟩ := pl_cells HPz.out hk64
            have hLl : sz.L.length ≤ 81 := by omega
            have hFn : ∀ u, Kept wc u → Calls Tryz.prog 26 #[.pointer (some ⟨X, 0, none⟩), .int .i64 (kk : Int)] u fun e w' => e = .returned (.agg #[.int .u64 (sz.fl kk).p, .int .u32 (sz.fl kk).l, .int .u8 (sz.fl kk).n]) ∧ Kept u w' := fun u ku => floor_st kk hk64 u (st_kept HPz.out.st ku)
            have hLn : ∀ u, Kept wc u → Calls Tryz.prog 22 #[.pointer (some ⟨X, 0, none⟩)] u fun e w' => e = .returned (.int .i64 (sz.L.length : Int)) ∧ w' = u := fun u ku => len_st u (st_kept HPz.out.st ku)
            have hSi : ∀ u, Kept wc u → Calls Tryz.prog 23 #[.pointer (some ⟨X, 0, none⟩)] u fun e w' => e = .returned (.int .i64 (sizeL sz.L : Int)) ∧ w' = u := fun u ku => size_st u (st_kept HPz.out.st ku)
            have hSr : ∀ u, Kept wc u → Calls Tryz.prog 24 #[.agg cz] u fun e w' => e = .returned (.int .i64 (sizeL sz.L : Int)) ∧ Kept u w' := fun u ku => refsize_any (by omega) (by have h1 := HFz.out.size; have h2 := hc.2.2.2.1; omega) u (rs_kept HPz.out.rk.rs ku)
            have hEv : ∀ u, Kept wc u → Calls Tryz.prog 25 #[.pointer (some ⟨X, 0, none⟩)] u fun e w' => e = .returned (.int .i64 (sz.ev : Int)) ∧ w' = u := fun u ku => ev_st u (st_kept HPz.out.st ku)
            have hDs : ∀ u, Kept wc u → Calls Tryz.prog 27 #[.pointer (some ⟨X, 0, none⟩), .int .i64 (kk : Int)] u fun e w' => e = .returned (.int .u64 (digL kk sz.L : Int)) ∧ w' = u := fun u ku => dig_st kk hk64 u (st_kept HPz.out.st ku)
            have hDr : ∀ u, Kept wc u → Calls Tryz.prog 28 #[.agg cz, .int .i64 (kk : Int)] u fun e w' => e = .returned (.int .u64 (digL kk sz.L : Int)) ∧ Kept u w' := fun u ku => refdig_any (by omega) HFz.out.may HFz.out.keys kk u (rs_kept HPz.out.rk.rs ku)
            have hRs : ∀ u, Kept wc u → Calls Tryz.prog 30 #[.pointer (some ⟨X, 0, none⟩), .int .i64 (kk : Int)] u (RangeC (rangeL (kk : Int) sz.L) u) := fun u ku => range_st hc (kk : Int) (by omega) u (st_kept HPz.out.st ku)
            have hRr : ∀ u, Kept wc u → Calls Tryz.prog 31 #[.agg cz, .int .i64 (kk : Int)] u (RangeC (rangeL (kk : Int) sz.L) u) := fun u ku => refrangeL_any (by omega) HFz.out.may (kk : Int) u (rs_kept HPz.out.rk.rs ku)
            have HTl : Hid ((rangeL (kk : Int) sz.L).length ≤ 1000) := hid (by have := range_len HFz.out.keys (kk : Int); omega)
            generalize rangeL (kk : Int) sz.L = T at *
            generalize digL kk sz.L = dg at *
            generalize sizeL sz.L = zl at *
            generalize sz.fl kk = fq at *
            have HS1 := hid hcell
            have HCn := hid hcz
            clear hcell hcz hrow
            have Hl81 := hid hLl
            generalize sz.L.length = N at HS1 hLn hLl
            generalize sz.ev = E at HS1 hEv
            have hidx := idxF Zm kk (by omega)
            have hEq := eq_st fq
            have k0 : Kept wc wc.drew := kept_refl wc
            go_wp2_with fail
            refine wp_region_noPanic ?_
            refine wp_region_held_drew (S := (fun w' => (w'.cell? ⟨Zm, 0, none⟩ = some (.slice a N cap36)) ∧ (w'.cell? ⟨Zm, 196, none⟩ = some (.int .i64 (E : Int))) ∧ (w'.cell? ⟨Zm, 1 + kk * 3, none⟩ = some (.int .u64 fq.p) ∧ w'.cell? ⟨Zm, 1 + kk * 3 + 1, none⟩ = some (.int .u32 fq.l) ∧ w'.cell? ⟨Zm, 1 + kk * 3 + 2, none⟩ = some (.int .u8 fq.n)) ∧ (Hid ((loadVar 36 ⟨Zm, 0, none⟩).run Tryz.prog w' = .ok (.agg cz) w')))) (by kernel_rfl) (HS1.out _ k0) (fun hHeld => ?_)
            generalize wc.drew = wq at *
            refine wpAnyH_take (i := 0) (v := .pointer (some ⟨X, 0, none⟩)) rfl (by kernel_rfl) (by kernel_rfl) (by kernel_rfl) (fun _ _ _ h => h) (Or.inl ⟨by rfl, fun w hSw => by (try dsimp only at hSw); go_simp⟩) (by assumption) ?_
            try simp only [List.getElem_toArray, List.getElem_cons_zero, List.getElem_cons_succ, Act.put, List.setIfInBounds_toArray, List.set_cons_zero, List.set_cons_succ]
            refine wpAnyH_take (i := 2) (v := .pointer (some ⟨Zm, 0, none⟩)) rfl (by kernel_rfl) (by kernel_rfl) (by kernel_rfl) (fun _ _ _ h => h) (Or.inl ⟨by rfl, fun w hSw => by (try dsimp only at hSw); go_simp⟩) (by assumption) ?_
            try simp only [List.getElem_toArray, List.getElem_cons_zero, List.getElem_cons_succ, Act.put, List.setIfInBounds_toArray, List.set_cons_zero, List.set_cons_succ]
            refine wpAnyH_take (i := 3) (v := .slice a N cap36) rfl (by kernel_rfl) (by kernel_rfl) (by kernel_rfl) (fun _ _ _ h => h) (Or.inl ⟨by rfl, fun w hSw => by (try dsimp only at hSw); go_simp⟩) (by assumption) ?_
            try simp only [List.getElem_toArray, List.getElem_cons_zero, List.getElem_cons_succ, Act.put, List.setIfInBounds_toArray, List.set_cons_zero, List.set_cons_succ]
            refine wpAnyH_take (i := 4) (v := .int .i64 (N : Int)) rfl (by kernel_rfl) (by kernel_rfl) (by kernel_rfl) (fun _ _ _ h => h) (Or.inl ⟨by rfl, fun w hSw => by (try dsimp only at hSw); go_simp⟩) (by assumption) ?_
            try simp only [List.getElem_toArray, List.getElem_cons_zero, List.getElem_cons_succ, Act.put, List.setIfInBounds_toArray, List.set_cons_zero, List.set_cons_succ]
            refine wpAnyH_ready (rs := [1]) (by kernel_rfl) (by simp) ?_
            refine AllReadyH.cons (i := 1) rfl (fun K hK => ?_) AllReadyH.nil
            go_simp
            refine (hLn _ k0).mono ?_
            rintro e w3 ⟨rfl, rfl⟩
            clear hHeld
            show K _ _
            refine hK.out _ _ (HS1.out _ k0) (fun hHeld => ?_)
            clear hK K
            try simp only [List.getElem_toArray, List.getElem_cons_zero, List.getElem_cons_succ, Act.put, List.setIfInBounds_toArray, List.set_cons_zero, List.set_cons_succ]
            refine wpAnyH_take (i := 5) (v := .bool false) rfl (by kernel_rfl) (by kernel_rfl) (by kernel_rfl) (fun _ _ _ h => h) (Or.inl ⟨by rfl, fun w hSw => by (try dsimp only at hSw); go_simp⟩) (by assumption) ?_
            try simp only [List.getElem_toArray, List.getElem_cons_zero, List.getElem_cons_succ, Act.put, List.setIfInBounds_toArray, List.set_cons_zero, List.set_cons_succ]
            refine wpAnyH_take (i := 6) (v := .bool false) rfl (by kernel_rfl) (by kernel_rfl) (by kernel_rfl) (fun _ _ _ h => h) (Or.inl ⟨by rfl, fun w hSw => by (try dsimp only at hSw); go_simp⟩) (by assumption) ?_
            try simp only [List.getElem_toArray, List.getElem_cons_zero, List.getElem_cons_succ, Act.put, List.setIfInBounds_toArray, List.set_cons_zero, List.set_cons_succ]
            refine wpAnyH_take (i := 7) (v := .pointer (some ⟨X, 0, none⟩)) rfl (by kernel_rfl) (by kernel_rfl) (by kernel_rfl) (fun _ _ _ h => h) (Or.inl ⟨by rfl, fun w hSw => by (try dsimp only at hSw); go_simp⟩) (by assumption) ?_
            try simp only [List.getElem_toArray, List.getElem_cons_zero, List.getElem_cons_succ, Act.put, List.setIfInBounds_toArray, List.set_cons_zero, List.set_cons_succ]
            refine wpAnyH_take (i := 9) (v := .agg cz) rfl (by kernel_rfl) (by kernel_rfl) (by kernel_rfl) (fun _ _ _ h => h) (Or.inl ⟨by rfl, fun w hSw => exec_load36 _ rfl rfl hSw.2.2.2.out⟩) (by assumption) ?_
            try simp only [List.getElem_toArray, List.getElem_cons_zero, List.getElem_cons_succ, Act.put, List.setIfInBounds_toArray, List.set_cons_zero, List.set_cons_succ]
            refine wpAnyH_ready (rs := [8]) (by kernel_rfl) (by simp) ?_
            refine AllReadyH.cons (i := 8) rfl (fun K hK => ?_) AllReadyH.nil
            go_simp
            refine (hSi _ k0).mono ?_
            rintro e w3 ⟨rfl, rfl⟩
            clear hHeld
            show K _ _
            refine hK.out _ _ (HS1.out _ k0) (fun hHeld => ?_)
            clear hK K
            try simp only [List.getElem_toArray, List.getElem_cons_zero, List.getElem_cons_succ, Act.put, List.setIfInBounds_toArray, List.set_cons_zero, List.set_cons_succ]
            refine wpAnyH_ready (rs := [10]) (by kernel_rfl) (by simp) ?_
            refine AllReadyH.cons (i := 10) rfl (fun K hK => ?_) AllReadyH.nil
            go_simp
            refine (hSr _ k0).mono ?_
            rintro e wv ⟨rfl, h3⟩
            replace k0 := kept_trans k0 h3
            clear h3
            clear hHeld
            show K _ _
            refine hK.out _ _ (HS1.out _ k0) (fun hHeld => ?_)
            clear hK K
            try simp only [List.getElem_toArray, List.getElem_cons_zero, List.getElem_cons_succ, Act.put, List.setIfInBounds_toArray, List.set_cons_zero, List.set_cons_succ]
            refine wpAnyH_take (i := 11) (v := .bool false) rfl (by kernel_rfl) (by kernel_rfl) (by kernel_rfl) (fun _ _ _ h => h) (Or.inl ⟨by rfl, fun w hSw => by (try dsimp only at hSw); go_simp⟩) (by assumption) ?_
            try simp only [List.getElem_toArray, List.getElem_cons_zero, List.getElem_cons_succ, Act.put, List.setIfInBounds_toArray, List.set_cons_zero, List.set_cons_succ]
            refine wpAnyH_take (i := 12) (v := .bool false) rfl (by kernel_rfl) (by kernel_rfl) (by kernel_rfl) (fun _ _ _ h => h) (Or.inl ⟨by rfl, fun w hSw => by (try dsimp only at hSw); go_simp⟩) (by assumption) ?_
            try simp only [List.getElem_toArray, List.getElem_cons_zero, List.getElem_cons_succ, Act.put, List.setIfInBounds_toArray, List.set_cons_zero, List.set_cons_succ]
            refine wpAnyH_take (i := 13) (v := .bool false) rfl (by kernel_rfl) (by kernel_rfl) (by kernel_rfl) (fun _ _ _ h => h) (Or.inl ⟨by rfl, fun w hSw => by (try dsimp only at hSw); go_simp⟩) (by assumption) ?_
            try simp only [List.getElem_toArray, List.getElem_cons_zero, List.getElem_cons_succ, Act.put, List.setIfInBounds_toArray, List.set_cons_zero, List.set_cons_succ]
            refine wpAnyH_take (i := 14) (v := .pointer (some ⟨X, 0, none⟩)) rfl (by kernel_rfl) (by kernel_rfl) (by kernel_rfl) (fun _ _ _ h => h) (Or.inl ⟨by rfl, fun w hSw => by (try dsimp only at hSw); go_simp⟩) (by assumption) ?_
            try simp only [List.getElem_toArray, List.getElem_cons_zero, List.getElem_cons_succ, Act.put, List.setIfInBounds_toArray, List.set_cons_zero, List.set_cons_succ]
            refine wpAnyH_take (i := 16) (v := .pointer (some ⟨Zm, 196, none⟩)) rfl (by kernel_rfl) (by kernel_rfl) (by kernel_rfl) (fun _ _ _ h => h) (Or.inl ⟨by rfl, fun w hSw => by (try dsimp only at hSw); go_simp⟩) (by assumption) ?_
            try simp only [List.getElem_toArray, List.getElem_cons_zero, List.getElem_cons_succ, Act.put, List.setIfInBounds_toArray, List.set_cons_zero, List.set_cons_succ]
            refine wpAnyH_take (i := 17) (v := .int .i64 (E : Int)) rfl (by kernel_rfl) (by kernel_rfl) (by kernel_rfl) (fun _ _ _ h => h) (Or.inl ⟨by rfl, fun w hSw => by (try dsimp only at hSw); go_simp⟩) (by assumption) ?_
            try simp only [List.getElem_toArray, List.getElem_cons_zero, List.getElem_cons_succ, Act.put, List.setIfInBounds_toArray, List.set_cons_zero, List.set_cons_succ]
            refine wpAnyH_ready (rs := [15]) (by kernel_rfl) (by simp) ?_
            refine AllReadyH.cons (i := 15) rfl (fun K hK => ?_) AllReadyH.nil
            go_simp
            refine (hEv _ k0).mono ?_
            rintro e w3 ⟨rfl, rfl⟩
            clear hHeld
            show K _ _
            refine hK.out _ _ (HS1.out _ k0) (fun hHeld => ?_)
            clear hK K
            try simp only [List.getElem_toArray, List.getElem_cons_zero, List.getElem_cons_succ, Act.put, List.setIfInBounds_toArray, List.set_cons_zero, List.set_cons_succ]
            refine wpAnyH_take (i := 18) (v := .bool false) rfl (by kernel_rfl) (by kernel_rfl) (by kernel_rfl) (fun _ _ _ h => h) (Or.inl ⟨by rfl, fun w hSw => by (try dsimp only at hSw); go_simp⟩) (by assumption) ?_
            try simp only [List.getElem_toArray, List.getElem_cons_zero, List.getElem_cons_succ, Act.put, List.setIfInBounds_toArray, List.set_cons_zero, List.set_cons_succ]
            refine wpAnyH_take (i := 19) (v := .bool false) rfl (by kernel_rfl) (by kernel_rfl) (by kernel_rfl) (fun _ _ _ h => h) (Or.inl ⟨by rfl, fun w hSw => by (try dsimp only at hSw); go_simp⟩) (by assumption) ?_
            try simp only [List.getElem_toArray, List.getElem_cons_zero, List.getElem_cons_succ, Act.put, List.setIfInBounds_toArray, List.set_cons_zero, List.set_cons_succ]
            refine wpAnyH_take (i := 20) (v := .bool false) rfl (by kernel_rfl) (by kernel_rfl) (by kernel_rfl) (fun _ _ _ h => h) (Or.inl ⟨by rfl, fun w hSw => by (try dsimp only at hSw); go_simp⟩) (by assumption) ?_
            try simp only [List.getElem_toArray, List.getElem_cons_zero, List.getElem_cons_succ, Act.put, List.setIfInBounds_toArray, List.set_cons_zero, List.set_cons_succ]
            refine wpAnyH_take (i := 21) (v := .pointer (some ⟨X, 0, none⟩)) rfl (by kernel_rfl) (by kernel_rfl) (by kernel_rfl) (fun _ _ _ h => h) (Or.inl ⟨by rfl, fun w hSw => by (try dsimp only at hSw); go_simp⟩) (by assumption) ?_
            try simp only [List.getElem_toArray, List.getElem_cons_zero, List.getElem_cons_succ, Act.put, List.setIfInBounds_toArray, List.set_cons_zero, List.set_cons_succ]
            refine wpAnyH_take (i := 22) (v := .int .i64 (kk : Int)) rfl (by kernel_rfl) (by kernel_rfl) (by kernel_rfl) (fun _ _ _ h => h) (Or.inl ⟨by rfl, fun w hSw => by (try dsimp only at hSw); go_simp⟩) (by assumption) ?_
            try simp only [List.getElem_toArray, List.getElem_cons_zero, List.getElem_cons_succ, Act.put, List.setIfInBounds_toArray, List.set_cons_zero, List.set_cons_succ]
            refine wpAnyH_take (i := 24) (v := .int .i64 (kk : Int)) rfl (by kernel_rfl) (by kernel_rfl) (by kernel_rfl) (fun _ _ _ h => h) (Or.inl ⟨by rfl, fun w hSw => by (try dsimp only at hSw); go_simp⟩) (by assumption) ?_
            try simp only [List.getElem_toArray, List.getElem_cons_zero, List.getElem_cons_succ, Act.put, List.setIfInBounds_toArray, List.set_cons_zero, List.set_cons_succ]
            refine wpAnyH_take (i := 25) (v := .pointer (some ⟨Zm, 1, none⟩)) rfl (by kernel_rfl) (by kernel_rfl) (by kernel_rfl) (fun _ _ _ h => h) (Or.inl ⟨by rfl, fun w hSw => by (try dsimp only at hSw); go_simp⟩) (by assumption) ?_
            try simp only [List.getElem_toArray, List.getElem_cons_zero, List.getElem_cons_succ, Act.put, List.setIfInBounds_toArray, List.set_cons_zero, List.set_cons_succ]
            refine wpAnyH_take (i := 26) (v := .pointer (some ⟨Zm, 1 + kk * 3, none⟩)) rfl (by kernel_rfl) (by kernel_rfl) (by kernel_rfl) (fun _ _ _ h => h) (Or.inl ⟨by rfl, fun w hSw => by (try dsimp only at hSw); go_simp⟩) (by assumption) ?_
            try simp only [List.getElem_toArray, List.getElem_cons_zero, List.getElem_cons_succ, Act.put, List.setIfInBounds_toArray, List.set_cons_zero, List.set_cons_succ]
            refine wpAnyH_take (i := 27) (v := .agg #[.int .u64 fq.p, .int .u32 fq.l, .int .u8 fq.n]) rfl (by kernel_rfl) (by kernel_rfl) (by kernel_rfl) (fun _ _ _ h => h) (Or.inl ⟨by rfl, fun w hSw => by (try dsimp only at hSw); go_simp⟩) (by assumption) ?_
            try simp only [List.getElem_toArray, List.getElem_cons_zero, List.getElem_cons_succ, Act.put, List.setIfInBounds_toArray, List.set_cons_zero, List.set_cons_succ]
            refine wpAnyH_ready (rs := [23]) (by kernel_rfl) (by simp) ?_
            refine AllReadyH.cons (i := 23) rfl (fun K hK => ?_) AllReadyH.nil
            go_simp
            refine (hFn _ k0).mono ?_
            rintro e wv ⟨rfl, h3⟩
            replace k0 := kept_trans k0 h3
            clear h3
            clear hHeld
            show K _ _
            refine hK.out _ _ (HS1.out _ k0) (fun hHeld => ?_)
            clear hK K
            try simp only [List.getElem_toArray, List.getElem_cons_zero, List.getElem_cons_succ, Act.put, List.setIfInBounds_toArray, List.set_cons_zero, List.set_cons_succ]
            refine wpAnyH_take (i := 28) (v := .bool false) rfl (by kernel_rfl) (by kernel_rfl) (by kernel_rfl) (fun _ _ _ h => h) (Or.inl ⟨by rfl, fun w hSw => by (try dsimp only at hSw); go_simp⟩) (by assumption) ?_
            try simp only [List.getElem_toArray, List.getElem_cons_zero, List.getElem_cons_succ, Act.put, List.setIfInBounds_toArray, List.set_cons_zero, List.set_cons_succ]
            refine wpAnyH_take (i := 29) (v := .bool false) rfl (by kernel_rfl) (by kernel_rfl) (by kernel_rfl) (fun _ _ _ h => h) (Or.inl ⟨by rfl, fun w hSw => by (try dsimp only at hSw); go_simp⟩) (by assumption) ?_
            try simp only [List.getElem_toArray, List.getElem_cons_zero, List.getElem_cons_succ, Act.put, List.setIfInBounds_toArray, List.set_cons_zero, List.set_cons_succ]
            refine wpAnyH_take (i := 30) (v := .bool false) rfl (by kernel_rfl) (by kernel_rfl) (by kernel_rfl) (fun _ _ _ h => h) (Or.inl ⟨by rfl, fun w hSw => by (try dsimp only at hSw); go_simp⟩) (by assumption) ?_
            try simp only [List.getElem_toArray, List.getElem_cons_zero, List.getElem_cons_succ, Act.put, List.setIfInBounds_toArray, List.set_cons_zero, List.set_cons_succ]
            refine wpAnyH_take (i := 31) (v := .pointer (some ⟨X, 0, none⟩)) rfl (by kernel_rfl) (by kernel_rfl) (by kernel_rfl) (fun _ _ _ h => h) (Or.inl ⟨by rfl, fun w hSw => by (try dsimp only at hSw); go_simp⟩) (by assumption) ?_
            try simp only [List.getElem_toArray, List.getElem_cons_zero, List.getElem_cons_succ, Act.put, List.setIfInBounds_toArray, List.set_cons_zero, List.set_cons_succ]
            refine wpAnyH_take (i := 32) (v := .int .i64 (kk : Int)) rfl (by kernel_rfl) (by kernel_rfl) (by kernel_rfl) (fun _ _ _ h => h) (Or.inl ⟨by rfl, fun w hSw => by (try dsimp only at hSw); go_simp⟩) (by assumption) ?_
            try simp only [List.getElem_toArray, List.getElem_cons_zero, List.getElem_cons_succ, Act.put, List.setIfInBounds_toArray, List.set_cons_zero, List.set_cons_succ]
            refine wpAnyH_take (i := 34) (v := .agg cz) rfl (by kernel_rfl) (by kernel_rfl) (by kernel_rfl) (fun _ _ _ h => h) (Or.inl ⟨by rfl, fun w hSw => exec_load36 _ rfl rfl hSw.2.2.2.out⟩) (by assumption) ?_
            try simp only [List.getElem_toArray, List.getElem_cons_zero, List.getElem_cons_succ, Act.put, List.setIfInBounds_toArray, List.set_cons_zero, List.set_cons_succ]
            refine wpAnyH_take (i := 35) (v := .int .i64 (kk : Int)) rfl (by kernel_rfl) (by kernel_rfl) (by kernel_rfl) (fun _ _ _ h => h) (Or.inl ⟨by rfl, fun w hSw => by (try dsimp only at hSw); go_simp⟩) (by assumption) ?_
            try simp only [List.getElem_toArray, List.getElem_cons_zero, List.getElem_cons_succ, Act.put, List.setIfInBounds_toArray, List.set_cons_zero, List.set_cons_succ]
            refine wpAnyH_ready (rs := [33]) (by kernel_rfl) (by simp) ?_
            refine AllReadyH.cons (i := 33) rfl (fun K hK => ?_) AllReadyH.nil
            go_simp
            refine (hDs _ k0).mono ?_
            rintro e w3 ⟨rfl, rfl⟩
            clear hHeld
            show K _ _
            refine hK.out _ _ (HS1.out _ k0) (fun hHeld => ?_)
            clear hK K
            try simp only [List.getElem_toArray, List.getElem_cons_zero, List.getElem_cons_succ, Act.put, List.setIfInBounds_toArray, List.set_cons_zero, List.set_cons_succ]
            refine wpAnyH_ready (rs := [36]) (by kernel_rfl) (by simp) ?_
            refine AllReadyH.cons (i := 36) rfl (fun K hK => ?_) AllReadyH.nil
            go_simp
            refine (hDr _ k0).mono ?_
            rintro e wv ⟨rfl, h3⟩
            replace k0 := kept_trans k0 h3
            clear h3
            clear hHeld
            show K _ _
            refine hK.out _ _ (HS1.out _ k0) (fun hHeld => ?_)
            clear hK K
            try simp only [List.getElem_toArray, List.getElem_cons_zero, List.getElem_cons_succ, Act.put, List.setIfInBounds_toArray, List.set_cons_zero, List.set_cons_succ]
            refine wpAnyH_take (i := 37) (v := .bool false) rfl (by kernel_rfl) (by kernel_rfl) (by kernel_rfl) (fun _ _ _ h => h) (Or.inl ⟨by rfl, fun w hSw => by (try dsimp only at hSw); go_simp⟩) (by assumption) ?_
            try simp only [List.getElem_toArray, List.getElem_cons_zero, List.getElem_cons_succ, Act.put, List.setIfInBounds_toArray, List.set_cons_zero, List.set_cons_succ]
            refine wpAnyH_take (i := 38) (v := .bool false) rfl (by kernel_rfl) (by kernel_rfl) (by kernel_rfl) (fun _ _ _ h => h) (Or.inl ⟨by rfl, fun w hSw => by (try dsimp only at hSw); go_simp⟩) (by assumption) ?_
            try simp only [List.getElem_toArray, List.getElem_cons_zero, List.getElem_cons_succ, Act.put, List.setIfInBounds_toArray, List.set_cons_zero, List.set_cons_succ]
            refine wpAnyH_take (i := 39) (v := .bool false) rfl (by kernel_rfl) (by kernel_rfl) (by kernel_rfl) (fun _ _ _ h => h) (Or.inl ⟨by rfl, fun w hSw => by (try dsimp only at hSw); go_simp⟩) (by assumption) ?_
            try simp only [List.getElem_toArray, List.getElem_cons_zero, List.getElem_cons_succ, Act.put, List.setIfInBounds_toArray, List.set_cons_zero, List.set_cons_succ]
            refine wpAnyH_take (i := 40) (v := .pointer (some ⟨X, 0, none⟩)) rfl (by kernel_rfl) (by kernel_rfl) (by kernel_rfl) (fun _ _ _ h => h) (Or.inl ⟨by rfl, fun w hSw => by (try dsimp only at hSw); go_simp⟩) (by assumption) ?_
            try simp only [List.getElem_toArray, List.getElem_cons_zero, List.getElem_cons_succ, Act.put, List.setIfInBounds_toArray, List.set_cons_zero, List.set_cons_succ]
            refine wpAnyH_take (i := 41) (v := .int .i64 (kk : Int)) rfl (by kernel_rfl) (by kernel_rfl) (by kernel_rfl) (fun _ _ _ h => h) (Or.inl ⟨by rfl, fun w hSw => by (try dsimp only at hSw); go_simp⟩) (by assumption) ?_
            try simp only [List.getElem_toArray, List.getElem_cons_zero, List.getElem_cons_succ, Act.put, List.setIfInBounds_toArray, List.set_cons_zero, List.set_cons_succ]
            refine wpAnyH_take (i := 43) (v := .agg cz) rfl (by kernel_rfl) (by kernel_rfl) (by kernel_rfl) (fun _ _ _ h => h) (Or.inl ⟨by rfl, fun w hSw => exec_load36 _ rfl rfl hSw.2.2.2.out⟩) (by assumption) ?_
            try simp only [List.getElem_toArray, List.getElem_cons_zero, List.getElem_cons_succ, Act.put, List.setIfInBounds_toArray, List.set_cons_zero, List.set_cons_succ]
            refine wpAnyH_take (i := 44) (v := .int .i64 (kk : Int)) rfl (by kernel_rfl) (by kernel_rfl) (by kernel_rfl) (fun _ _ _ h => h) (Or.inl ⟨by rfl, fun w hSw => by (try dsimp only at hSw); go_simp⟩) (by assumption) ?_
            try simp only [List.getElem_toArray, List.getElem_cons_zero, List.getElem_cons_succ, Act.put, List.setIfInBounds_toArray, List.set_cons_zero, List.set_cons_succ]
            refine wpAnyH_ready (rs := [42]) (by kernel_rfl) (by simp) ?_
            refine AllReadyH.cons (i := 42) rfl (fun K hK => ?_) AllReadyH.nil
            go_simp
            refine (hRs _ k0).mono ?_
            rintro e wv1 ⟨v1, rfl, h3, hv1⟩
            have HV1 := hid hv1
            clear hv1
            replace k0 := kept_trans k0 h3
            clear h3
            clear hHeld
            show K _ _
            refine hK.out _ _ (HS1.out _ k0) (fun hHeld => ?_)
            clear hK K
            try simp only [List.getElem_toArray, List.getElem_cons_zero, List.getElem_cons_succ, Act.put, List.setIfInBounds_toArray, List.set_cons_zero, List.set_cons_succ]
            refine wpAnyH_ready (rs := [45]) (by kernel_rfl) (by simp) ?_
            refine AllReadyH.cons (i := 45) rfl (fun K hK => ?_) AllReadyH.nil
            go_simp
            refine (hRr _ k0).mono ?_
            rintro e wv2 ⟨v2, rfl, h3, hv2⟩
            have HV1b := hid (rdr_kept HV1.out h3)
            have HV2 := hid hv2
            clear hv2 HV1
            replace k0 := kept_trans k0 h3
            clear h3
            clear hHeld
            show K _ _
            refine hK.out _ _ (HS1.out _ k0) (fun hHeld => ?_)
            clear hK K
            try simp only [List.getElem_toArray, List.getElem_cons_zero, List.getElem_cons_succ, Act.put, List.setIfInBounds_toArray, List.set_cons_zero, List.set_cons_succ]
            refine wpAnyH_ready (rs := [46]) (by kernel_rfl) (by simp) ?_
            refine AllReadyH.cons (i := 46) rfl (fun K hK => ?_) AllReadyH.nil
            go_simp
            refine (same_any T HTl.out v1 v2 _ HV1b.out HV2.out).mono ?_
            rintro e wv3 ⟨rfl, h3⟩
            clear HV1b HV2
            replace k0 := kept_trans k0 h3
            clear h3
            clear hHeld
            show K _ _
            refine hK.out _ _ (HS1.out _ k0) (fun hHeld => ?_)
            clear hK K
            try simp only [List.getElem_toArray, List.getElem_cons_zero, List.getElem_cons_succ, Act.put, List.setIfInBounds_toArray, List.set_cons_zero, List.set_cons_succ]
            refine wpAnyH_take (i := 47) (v := .bool false) rfl (by kernel_rfl) (by kernel_rfl) (by kernel_rfl) (fun _ _ _ h => h) (Or.inl ⟨by rfl, fun w hSw => by (try dsimp only at hSw); go_simp⟩) (by assumption) ?_
            try simp only [List.getElem_toArray, List.getElem_cons_zero, List.getElem_cons_succ, Act.put, List.setIfInBounds_toArray, List.set_cons_zero, List.set_cons_succ]
            refine wpAnyH_take (i := 48) (v := .bool false) rfl (by kernel_rfl) (by kernel_rfl) (by kernel_rfl) (fun _ _ _ h => h) (Or.inl ⟨by rfl, fun w hSw => by (try dsimp only at hSw); go_simp⟩) (by assumption) ?_
            try simp only [List.getElem_toArray, List.getElem_cons_zero, List.getElem_cons_succ, Act.put, List.setIfInBounds_toArray, List.set_cons_zero, List.set_cons_succ]
            refine wpAnyH_done (by kernel_rfl) ?_ _
            refine NoPanic.normal ?_
            clear hHeld
            have HPe := hid (pl_kept HPz.out k0)
            clear k0 HS1 hFn hLn hSi hSr hEv hDs hDr hRs hRr hidx hEq HPz
            go_wp2_with fail
            go_roundw
            case rel => exact ⟨j + 1, t2, Fz, sz, cz, by omega, by go_num, rfl, HHj.out.2.2, HCn.out, HPe, HFz⟩
            case measure => simp [intOf]; omega

        by_cases e0 : x.kind = 0
        · have f0 : (x.kind == 0) = true := by simpa using e0
          clear e0
          as_aux_lemma =>
            have hPut := put_any hc x.r hxs.1 hxs.2 HXok.out (t2 : Int) (by omega) (by omega) w5 HP5.out.st
            have HFp := hid (fit_put (now := (t2 : Int)) hc HFit.out HXok.out)
            have HCz : Hid ((putS c s x.r (t2 : Int)).ev + (putS c s x.r (t2 : Int)).L.length ≤ j + 1) := hid (by have := plays_put hc s x.r (t2 : Int); omega)
            go_wp2_with fail
            refine hPut.mono ?_
            rintro e w6 ⟨rfl, F6, t6, h6⟩
            have HP6 := hid (pl_st HP5.out t6 h6)
            have HA6 := hid (at_tn HA5.out t6.1 HnF.out.1)
            have HLd6 := hid (pl_load HP6.out)
            have hRef := refput_any hc HFit.out (by omega) (by omega) x.r hxs.1 hxs.2 HXok.out (t2 : Int) w6 HP6.out.rk.rs
            clear hPut t6 h6 HP5 HA5 d0 d1 d2 d3 d4 d5 d6 d7 d8 d9
            obtain ⟨d0, d1, d2, d3, d4, d5, d6, d7, d8, d9⟩ := at_c10 HA6.out
            go_wp2_with (refine wpList_load36 rfl _ rfl Zm rfl cs HLd6.out ?_)
            refine hRef.mono ?_
            rintro e w7 ⟨cs', rfl, k7, r7, n7⟩
            have HSt7 := hid (pl_store HP6.out k7 r7)
            have HP8 := hid (pl_ref HP6.out k7 r7 n7)
            clear hRef HLd6 k7 r7 n7 HP6 HA6 d0 d1 d2 d3 d4 d5 d6 d7 d8 d9
            generalize w7.setRow Zm cs' = w8 at HSt7 HP8
            generalize putB c s x.r (t2 : Int) = tb
            generalize putE c s x.r (t2 : Int) = te
            have htb : (tb != tb) = false := by simp
            have hte : (te != te) = false := by simp
            go_wp2_with (refine wpList_store36 rfl _ _ rfl Zm rfl cs' rfl w8 HSt7.out ?_)
            clear HSt7 htb hte
            go_meet
            case rel => exact ⟨rfl, F6, putS c s x.r (t2 : Int), cs', HCz.out, HP8, HFp⟩
        · have f0 : (x.kind == 0) = false := by simpa using e0
          clear e0
          by_cases e1 : x.kind = 1
          · have f1 : (x.kind == 1) = true := by simpa using e1
            clear e1
            as_aux_lemma =>
              have hGet := get_any hc x.r.key (by omega) w5 HP5.out.st
              have HFg := hid (fit_get HFit.out x.r.key)
              have HCz : Hid ((getS s x.r.key).ev + (getS s x.r.key).L.length ≤ j + 1) := hid (by have := plays_get HFit.out.keys x.r.key; omega)
              obtain ⟨pz, hpz⟩ : ∃ pz, pk s x.r.key = pz := ⟨_, rfl⟩
              rw [hpz] at hGet
              have HPz0 : Hid ((findK s.L x.r.key).getD zeroR = pz) := hid hpz
              clear hpz
              go_wp2_with fail
              refine hGet.mono ?_
              rintro e w6 ⟨rfl, t6, h6⟩
              have HP6 := hid (pl_tn HP5.out t6 h6)
              have HA6 := hid (at_tn HA5.out t6 HnF.out.1)
              clear hGet t6 h6 HP5 HA5 d0 d1 d2 d3 d4 d5 d6 d7 d8 d9
              obtain ⟨wa, hwa⟩ : ∃ wa, w6.alloc (.cells #[.string ⟨#[]⟩, .int .u64 0, .int .u32 0, .int .u8 0, .int .u8 0, .int .u32 0, .int .u64 0, .string ⟨#[]⟩] 42) = wa := ⟨_, rfl⟩
              obtain ⟨Y17, hY17⟩ : ∃ Y17, w6.heap.size = Y17 := ⟨_, rfl⟩
              have Ka := kept_alloc (kept_refl w6) (.cells #[.string ⟨#[]⟩, .int .u64 0, .int .u32 0, .int .u8 0, .int .u8 0, .int .u32 0, .int .u64 0, .string ⟨#[]⟩] 42)
              have Aa := at_new w6 #[.string ⟨#[]⟩, .int .u64 0, .int .u32 0, .int .u8 0, .int .u8 0, .int .u32 0, .int .u64 0, .string ⟨#[]⟩] 42
              rw [hwa] at Ka Aa
              rw [hY17] at Aa
              have HSta := hid (store42 (rx := #[.string pz.key, .int .u64 pz.s.p, .int .u32 pz.s.l, .int .u8 pz.s.n, .int .u8 pz.kind, .int .u32 pz.flags, .int .u64 pz.exp, .string pz.body]) Aa rfl rfl (allR _ _ _ _ _ _ _ _))
              have Kb := kept_setRow Ka (Nat.le_of_eq hY17) #[.string pz.key, .int .u64 pz.s.p, .int .u32 pz.s.l, .int .u8 pz.s.n, .int .u8 pz.kind, .int .u32 pz.flags, .int .u64 pz.exp, .string pz.body]
              have Ab := at_setRow (cs := #[.string pz.key, .int .u64 pz.s.p, .int .u32 pz.s.l, .int .u8 pz.s.n, .int .u8 pz.kind, .int .u32 pz.flags, .int .u64 pz.exp, .string pz.body]) Aa
              generalize wa.setRow Y17 #[.string pz.key, .int .u64 pz.s.p, .int .u32 pz.s.l, .int .u8 pz.s.n, .int .u8 pz.kind, .int .u32 pz.flags, .int .u64 pz.exp, .string pz.body] = wb at HSta Kb Ab
              obtain ⟨wc, hwc⟩ : ∃ wc, wb.alloc (.cells #[.string ⟨#[]⟩, .int .u64 0, .int .u32 0, .int .u8 0, .int .u8 0, .int .u32 0, .int .u64 0, .string ⟨#[]⟩] 42) = wc := ⟨_, rfl⟩
              obtain ⟨Y19, hY19⟩ : ∃ Y19, wb.heap.size = Y19 := ⟨_, rfl⟩
              have Kc := kept_alloc (kept_refl wb) (.cells #[.string ⟨#[]⟩, .int .u64 0, .int .u32 0, .int .u8 0, .int .u8 0, .int .u32 0, .int .u64 0, .string ⟨#[]⟩] 42)
              have Ac := at_new wb #[.string ⟨#[]⟩, .int .u64 0, .int .u32 0, .int .u8 0, .int .u8 0, .int .u32 0, .int .u64 0, .string ⟨#[]⟩] 42
              rw [hwc] at Kc Ac
              rw [hY19] at Ac
              have HAb := hid (at_kept Ab Kc)
              have HAc := hid Ac
              have HPc := hid (pl_kept HP6.out (kept_trans Kb Kc))
              have HYs : Hid (Y17 ≠ Y19 ∧ Y17 ≠ Zm ∧ Y19 ≠ Zm ∧ w6.heap.size ≤ Y19) := hid (by
                have h1 := at_lt Ab
                have h2 := at_lt HP6.out.rk.here
                have h3 := Kb.2
                refine ⟨by omega, by omega, by omega, by omega⟩)
              have HLdc := hid (pl_load HPc.out)
              obtain ⟨d0, d1, d2, d3, d4, d5, d6, d7, d8, d9⟩ := at_c10 HA6.out
              obtain ⟨m0, m1, m2, m3, m4, m5, m6, m7, m8, m9⟩ := at_c10 (at_kept HA6.out (kept_trans Kb Kc))
              have hRef := refget_any (by omega) HFit.out.keys x.r.key wc HPc.out.rk.rs
              have HKc : Hid (Kept w6 wc) := hid (kept_trans Kb Kc)
              clear Ka Aa Kb Ab Kc Ac
              go_wp2_with (first | (refine wpList_store42 rfl _ _ rfl Y17 rfl #[.string pz.key, .int .u64 pz.s.p, .int .u32 pz.s.l, .int .u8 pz.s.n, .int .u8 pz.kind, .int .u32 pz.flags, .int .u64 pz.exp, .string pz.body] rfl wb HSta.out ?_) | (refine wpList_load36 rfl _ rfl Zm rfl cs HLdc.out ?_))
              refine hRef.mono ?_
              rintro e w7 ⟨cs', r', rfl, er, k7, r7, n7⟩
              rw [HPz0.out] at er
              subst er
              have A7b := at_kept HAb.out k7
              have A7c := at_kept HAc.out k7
              have HS19 := hid (store42 (rx := #[.string r'.key, .int .u64 r'.s.p, .int .u32 r'.s.l, .int .u8 r'.s.n, .int .u8 r'.kind, .int .u32 r'.flags, .int .u64 r'.exp, .string r'.body]) A7c rfl rfl (allR _ _ _ _ _ _ _ _))
              have HS36 : Hid ((storeVar 36 ⟨Zm, 0, none⟩ (.agg cs')).run Tryz.prog (w7.setRow Y19 #[.string r'.key, .int .u64 r'.s.p, .int .u32 r'.s.l, .int .u8 r'.s.n, .int .u8 r'.kind, .int .u32 r'.flags, .int .u64 r'.exp, .string r'.body]) = .ok () ((w7.setRow Y19 #[.string r'.key, .int .u64 r'.s.p, .int .u32 r'.s.l, .int .u8 r'.s.n, .int .u8 r'.kind, .int .u32 r'.flags, .int .u64 r'.exp, .string r'.body]).setRow Zm cs')) := hid (by
                obtain ⟨v8, hs8, _⟩ := r7
                obtain ⟨v9, hs9, _⟩ := HPc.out.rk.rs
                exact store36 (at_setRow_other (at_kept HPc.out.rk.here k7) (Ne.symm HYs.out.2.2.1)) hs9.size hs8)
              have HP8 : Hid (Pl w0 ((w7.setRow Y19 #[.string r'.key, .int .u64 r'.s.p, .int .u32 r'.s.l, .int .u8 r'.s.n, .int .u8 r'.kind, .int .u32 r'.flags, .int .u64 r'.exp, .string r'.body]).setRow Zm cs') F X Zm cs' c (getS s x.r.key) (getS s x.r.key)) := hid (by
                have hKd : Kept w6 (w7.setRow Y19 #[.string r'.key, .int .u64 r'.s.p, .int .u32 r'.s.l, .int .u8 r'.s.n, .int .u8 r'.kind, .int .u32 r'.flags, .int .u64 r'.exp, .string r'.body]) := kept_setRow (kept_trans HKc.out k7) HYs.out.2.2.2 _
                refine pl_ref HP6.out hKd ?_ ?_
                · obtain ⟨v8, hs8, hr8⟩ := r7
                  refine ⟨v8, hs8, rdl_tn hr8 (tn_setRow (F := fun k => k = Y19) tn_refl (Or.inl rfl) _) (fun q n cap e l e2 => ?_)⟩
                  rcases n7 with e3 | h3
                  · rw [e3] at hs8
                    obtain ⟨v9, hs9, hr9⟩ := HP6.out.rk.rs
                    have e4 : v9 = v8 := by
                      have h9 := hs9.row
                      rw [hs8.row] at h9
                      injection h9 with h9
                      exact h9.symm
                    obtain ⟨_, a4, c4, e5, _⟩ := hr8
                    obtain ⟨_, a6, c6, e6, _⟩ := hr9
                    rw [e4, e5] at e6
                    injection e6 with e7 e8 e9
                    have h4 := (HP6.out.rk.row q n cap (by rw [hs8.row, e]) (by omega)).2.2
                    have h5 := HYs.out.2.2.2
                    omega
                  · have h4 := h3 q n cap (by rw [hs8.row, e])
                    have h5 := at_lt HAc.out
                    omega
                · rcases n7 with e3 | h3
                  · exact Or.inl e3
                  · exact Or.inr (fun q n cap e => Nat.le_trans HKc.out.2 (h3 q n cap e)))
              have HX17 : Hid (At ((w7.setRow Y19 #[.string r'.key, .int .u64 r'.s.p, .int .u32 r'.s.l, .int .u8 r'.s.n, .int .u8 r'.kind, .int .u32 r'.flags, .int .u64 r'.exp, .string r'.body]).setRow Zm cs') Y17 #[.string r'.key, .int .u64 r'.s.p, .int .u32 r'.s.l, .int .u8 r'.s.n, .int .u8 r'.kind, .int .u32 r'.flags, .int .u64 r'.exp, .string r'.body] 42 ∧ At ((w7.setRow Y19 #[.string r'.key, .int .u64 r'.s.p, .int .u32 r'.s.l, .int .u8 r'.s.n, .int .u8 r'.kind, .int .u32 r'.flags, .int .u64 r'.exp, .string r'.body]).setRow Zm cs') Y19 #[.string r'.key, .int .u64 r'.s.p, .int .u32 r'.s.l, .int .u8 r'.s.n, .int .u8 r'.kind, .int .u32 r'.flags, .int .u64 r'.exp, .string r'.body] 42) := hid ⟨at_setRow_other (at_setRow_other A7b HYs.out.1) HYs.out.2.1, at_setRow_other (at_setRow A7c) HYs.out.2.2.1⟩
              generalize w7.setRow Y19 #[.string r'.key, .int .u64 r'.s.p, .int .u32 r'.s.l, .int .u8 r'.s.n, .int .u8 r'.kind, .int .u32 r'.flags, .int .u64 r'.exp, .string r'.body] = w7b at HS19 HS36 HP8 HX17
              generalize w7b.setRow Zm cs' = w8 at HS36 HP8 HX17
              have HL17 := hid (load42 HX17.out.1 rfl)
              have HL19 := hid (load42 HX17.out.2 rfl)
              have hEs := eq_self r'
              generalize (findK s.L x.r.key).isSome = tb
              have htb : (tb != tb) = false := by simp
              clear A7b A7c k7 r7 n7 hRef d0 d1 d2 d3 d4 d5 d6 d7 d8 d9 m0 m1 m2 m3 m4 m5 m6 m7 m8 m9 hwa hwc hY17 hY19 HSta HLdc
              go_wp2_with (first | (refine wpList_store42 rfl _ _ rfl Y19 rfl #[.string r'.key, .int .u64 r'.s.p, .int .u32 r'.s.l, .int .u8 r'.s.n, .int .u8 r'.kind, .int .u32 r'.flags, .int .u64 r'.exp, .string r'.body] rfl w7b HS19.out ?_) | (refine wpList_store36 rfl _ _ rfl Zm rfl cs' rfl w8 HS36.out ?_) | (refine wpList_load42 rfl _ rfl Y17 rfl #[.string r'.key, .int .u64 r'.s.p, .int .u32 r'.s.l, .int .u8 r'.s.n, .int .u8 r'.kind, .int .u32 r'.flags, .int .u64 r'.exp, .string r'.body] HL17.out ?_) | (refine wpList_load42 rfl _ rfl Y19 rfl #[.string r'.key, .int .u64 r'.s.p, .int .u32 r'.s.l, .int .u8 r'.s.n, .int .u8 r'.kind, .int .u32 r'.flags, .int .u64 r'.exp, .string r'.body] HL19.out ?_))
              clear hEs htb HS19 HS36 HL17 HL19 HX17 HAb HAc HPc HP6 HA6
              go_meet
              case rel => exact ⟨rfl, F, getS s x.r.key, cs', HCz.out, HP8, HFg⟩
          · have f1 : (x.kind == 1) = false := by simpa using e1
            clear e1
            by_cases e2 : x.kind = 2
            · have f2 : (x.kind == 2) = true := by simpa using e2
              clear e2
              have HCz : Hid (s.ev + s.L.length ≤ j + 1) := hid (by omega)
              have HKy := hid HFit.out.keys
              cases hf : findK s.L x.r.key with
              | none =>
                as_aux_lemma =>
                  have hPk := peek_none x.r.key (by omega) hf w5 HP5.out.st
                  simp only [zeroR, zero] at hPk
                  have Hf := hid hf
                  clear hf
                  go_wp2_with fail
                  refine hPk.mono ?_
                  rintro e w6 ⟨rfl, k6⟩
                  obtain ⟨wa, hwa⟩ : ∃ wa, w6.alloc (.cells #[.string ⟨#[]⟩, .int .u64 0, .int .u32 0, .int .u8 0, .int .u8 0, .int .u32 0, .int .u64 0, .string ⟨#[]⟩] 42) = wa := ⟨_, rfl⟩
                  obtain ⟨Y21, hY21⟩ : ∃ Y21, w6.heap.size = Y21 := ⟨_, rfl⟩
                  have Ka := kept_alloc (kept_refl w6) (.cells #[.string ⟨#[]⟩, .int .u64 0, .int .u32 0, .int .u8 0, .int .u8 0, .int .u32 0, .int .u64 0, .string ⟨#[]⟩] 42)
                  have Aa := at_new w6 #[.string ⟨#[]⟩, .int .u64 0, .int .u32 0, .int .u8 0, .int .u8 0, .int .u32 0, .int .u64 0, .string ⟨#[]⟩] 42
                  rw [hwa] at Ka Aa
                  rw [hY21] at Aa
                  have HSta := hid (store42 (rx := #[.string ⟨#[]⟩, .int .u64 0, .int .u32 0, .int .u8 0, .int .u8 0, .int .u32 0, .int .u64 0, .string ⟨#[]⟩]) Aa rfl rfl (allR _ _ _ _ _ _ _ _))
                  have Kb := kept_setRow Ka (Nat.le_of_eq hY21) #[.string ⟨#[]⟩, .int .u64 0, .int .u32 0, .int .u8 0, .int .u8 0, .int .u32 0, .int .u64 0, .string ⟨#[]⟩]
                  have Ab := at_setRow (cs := #[.string ⟨#[]⟩, .int .u64 0, .int .u32 0, .int .u8 0, .int .u8 0, .int .u32 0, .int .u64 0, .string ⟨#[]⟩]) Aa
                  generalize wa.setRow Y21 #[.string ⟨#[]⟩, .int .u64 0, .int .u32 0, .int .u8 0, .int .u8 0, .int .u32 0, .int .u64 0, .string ⟨#[]⟩] = wb at HSta Kb Ab
                  have HPb := hid (pl_kept HP5.out (kept_trans k6 Kb))
                  have HAb := hid Ab
                  have HLdb := hid (pl_load HPb.out)
                  have hRef := refat_any (by omega) x.r.key wb HPb.out.rk.rs
                  obtain ⟨m0, m1, m2, m3, m4, m5, m6, m7, m8, m9⟩ := at_c10 (at_kept HA5.out (kept_trans k6 Kb))
                  obtain ⟨d0', d1', d2', d3', d4', d5', d6', d7', d8', d9'⟩ := at_c10 (at_kept HA5.out k6)
                  clear Ka Aa Kb Ab k6 hPk d0 d1 d2 d3 d4 d5 d6 d7 d8 d9
                  go_wp2_with (first | (refine wpList_store42 rfl _ _ rfl Y21 rfl #[.string ⟨#[]⟩, .int .u64 0, .int .u32 0, .int .u8 0, .int .u8 0, .int .u32 0, .int .u64 0, .string ⟨#[]⟩] rfl wb HSta.out ?_) | (refine wpList_load36 rfl _ rfl Zm rfl cs HLdb.out ?_))
                  refine hRef.mono ?_
                  rintro e w7 ⟨z, rfl, k7, hat⟩
                  rcases hat with ⟨rfl, _⟩ | ⟨i, rfl, hi, q, hq, hqk⟩
                  · have HP7 := hid (pl_kept HPb.out k7)
                    have hE0 := eq_self zeroR
                    simp only [zeroR, zero] at hE0
                    obtain ⟨g0, g1, g2, g3, g4, g5, g6, g7, _⟩ := at_cells8 (at_kept HAb.out k7)
                    clear hRef k7 HSta hwa hY21 HLdb m0 m1 m2 m3 m4 m5 m6 m7 m8 m9 d0' d1' d2' d3' d4' d5' d6' d7' d8' d9'
                    go_wp2_with fail
                    go_quiet (fail)
                    have HP8 := hid (pl_kept HP7.out (kept_drewN (kept_refl w7) nq))
                    clear g0 g1 g2 g3 g4 g5 g6 g7 hE0
                    generalize w7.drewN nq = w8 at *
                    go_wp2_with fail
                    go_meet
                    case rel => exact ⟨rfl, F, s, cs, HCz.out, HP8, HFit⟩
                  · exact absurd (find_none.1 Hf.out q (List.mem_of_getElem? hq)) (by rw [hqk]; simp)
              | some q =>
                as_aux_lemma =>
                  have hPk := peek_some hc x.r.key (by omega) q hf w5 HP5.out.st
                  have Hf := hid hf
                  clear hf
                  go_wp2_with fail
                  refine hPk.mono ?_
                  rintro e w6 ⟨rfl, k6⟩
                  obtain ⟨wa, hwa⟩ : ∃ wa, w6.alloc (.cells #[.string ⟨#[]⟩, .int .u64 0, .int .u32 0, .int .u8 0, .int .u8 0, .int .u32 0, .int .u64 0, .string ⟨#[]⟩] 42) = wa := ⟨_, rfl⟩
                  obtain ⟨Y21, hY21⟩ : ∃ Y21, w6.heap.size = Y21 := ⟨_, rfl⟩
                  have Ka := kept_alloc (kept_refl w6) (.cells #[.string ⟨#[]⟩, .int .u64 0, .int .u32 0, .int .u8 0, .int .u8 0, .int .u32 0, .int .u64 0, .string ⟨#[]⟩] 42)
                  have Aa := at_new w6 #[.string ⟨#[]⟩, .int .u64 0, .int .u32 0, .int .u8 0, .int .u8 0, .int .u32 0, .int .u64 0, .string ⟨#[]⟩] 42
                  rw [hwa] at Ka Aa
                  rw [hY21] at Aa
                  have HSta := hid (store42 (rx := #[.string q.key, .int .u64 q.s.p, .int .u32 q.s.l, .int .u8 q.s.n, .int .u8 q.kind, .int .u32 q.flags, .int .u64 q.exp, .string q.body]) Aa rfl rfl (allR _ _ _ _ _ _ _ _))
                  have Kb := kept_setRow Ka (Nat.le_of_eq hY21) #[.string q.key, .int .u64 q.s.p, .int .u32 q.s.l, .int .u8 q.s.n, .int .u8 q.kind, .int .u32 q.flags, .int .u64 q.exp, .string q.body]
                  have Ab := at_setRow (cs := #[.string q.key, .int .u64 q.s.p, .int .u32 q.s.l, .int .u8 q.s.n, .int .u8 q.kind, .int .u32 q.flags, .int .u64 q.exp, .string q.body]) Aa
                  generalize wa.setRow Y21 #[.string q.key, .int .u64 q.s.p, .int .u32 q.s.l, .int .u8 q.s.n, .int .u8 q.kind, .int .u32 q.flags, .int .u64 q.exp, .string q.body] = wb at HSta Kb Ab
                  have HPb := hid (pl_kept HP5.out (kept_trans k6 Kb))
                  have HAb := hid Ab
                  have HLdb := hid (pl_load HPb.out)
                  have hRef := refat_any (by omega) x.r.key wb HPb.out.rk.rs
                  obtain ⟨m0, m1, m2, m3, m4, m5, m6, m7, m8, m9⟩ := at_c10 (at_kept HA5.out (kept_trans k6 Kb))
                  obtain ⟨d0', d1', d2', d3', d4', d5', d6', d7', d8', d9'⟩ := at_c10 (at_kept HA5.out k6)
                  clear Ka Aa Kb Ab k6 hPk d0 d1 d2 d3 d4 d5 d6 d7 d8 d9
                  go_wp2_with (first | (refine wpList_store42 rfl _ _ rfl Y21 rfl #[.string q.key, .int .u64 q.s.p, .int .u32 q.s.l, .int .u8 q.s.n, .int .u8 q.kind, .int .u32 q.flags, .int .u64 q.exp, .string q.body] rfl wb HSta.out ?_) | (refine wpList_load36 rfl _ rfl Zm rfl cs HLdb.out ?_))
                  refine hRef.mono ?_
                  rintro e w7 ⟨z, rfl, k7, hat⟩
                  rcases hat with ⟨rfl, hno⟩ | ⟨i, rfl, hi, q', hq, hqk⟩
                  · exact absurd (hno.symm.trans Hf.out) (by simp)
                  · have hge : decide ((0 : Int) ≤ (i : Int)) = true := decide_eq_true (by omega)
                    have eqq : q' = q := keys_eq HKy.out (List.mem_of_getElem? hq) (find_some Hf.out).1 (by rw [hqk, (find_some Hf.out).2])
                    subst eqq
                    have HP7 := hid (pl_kept HPb.out k7)
                    have hE0 := eq_self q'
                    obtain ⟨g0, g1, g2, g3, g4, g5, g6, g7⟩ := at_cells8' (at_kept HAb.out k7)
                    obtain ⟨v, hs, hrd, a, cap7, rfl, _⟩ := HP7.out.rk.rs
                    have cZ := (at_cell HP7.out.rk.here 0).trans hs.row
                    obtain ⟨Q, rfl, q2, hq2, r0, r1, r2, r3, r4, r5, r6, r7⟩ := (rdr_at hrd).2 i hi
                    rw [hq] at hq2
                    injection hq2 with hq2
                    subst hq2
                    have hix := idxR Q s.L.length cap7 i hi (by omega)
                    clear hRef k7 HSta hwa hY21 HLdb m0 m1 m2 m3 m4 m5 m6 m7 m8 m9 d0' d1' d2' d3' d4' d5' d6' d7' d8' d9' hq hqk hs hrd
                    go_wp2_with fail
                    go_quiet (fail)
                    have HP8 := hid (pl_kept HP7.out (kept_drewN (kept_refl w7) nq))
                    clear g0 g1 g2 g3 g4 g5 g6 g7 hE0 r0 r1 r2 r3 r4 r5 r6 r7 hix cZ
                    generalize w7.drewN nq = w8 at *
                    go_wp2_with fail
                    go_meet
                    case rel => exact ⟨rfl, F, s, cs, HCz.out, HP8, HFit⟩
            · have f2 : (x.kind == 2) = false := by simpa using e2
              clear e2
              as_aux_lemma =>
                have HFu := hid (fit_purge HFit.out (t2 : Int))
                have HCz : Hid ((purgeS c s (t2 : Int)).ev + (purgeS c s (t2 : Int)).L.length ≤ j + 1) := hid (by have := plays_purge c s (t2 : Int); omega)
                have HLd5 := hid (pl_load HP5.out)
                have hRef := refpurge_any hc (by omega) HFit.out.may HFit.out.ok (t2 : Int) w5 HP5.out.rk.rs
                go_wp2_with (refine wpList_load36 rfl _ rfl Zm rfl cs HLd5.out ?_)
                refine hRef.mono ?_
                rintro e w6 ⟨cs', rfl, k6, r6, n6⟩
                have HSt6 := hid (pl_store HP5.out k6 r6)
                have HP6 := hid (pl_ref HP5.out k6 r6 n6)
                generalize w6.setRow Zm cs' = w7 at HSt6 HP6
                have hPu := purge_any hc (t2 : Int) (by omega) w7 HP6.out.st
                clear hRef k6 r6 n6 HLd5 HP5 HA5 d0 d1 d2 d3 d4 d5 d6 d7 d8 d9
                unfold PurC at hPu
                generalize ((s.L.length - (purgeS c s (t2 : Int)).L.length : Nat) : Int) = pc at hPu ⊢
                go_wp2_with (refine wpList_store36 rfl _ _ rfl Zm rfl cs' rfl w7 HSt6.out ?_)
                refine hPu.mono ?_
                rintro e w8 ⟨e8, t8, h8⟩
                have HP8 := hid (pl_tn HP6.out t8 h8)
                clear t8 h8 hPu HSt6 HP6
                subst e8
                have hpc : (pc != pc) = false := by simp
                go_wp2_with fail
                clear hpc
                go_meet
                case rel => exact ⟨rfl, F, purgeS c s (t2 : Int), cs', HCz.out, HP8, HFu⟩
      · clear HR HN
        as_aux_lemma =>
          have hl81 : s.L.length ≤ 81 := by omega
          obtain ⟨wl, hwl⟩ : ∃ wl, wr = wl := ⟨_, rfl⟩
          rw [hwl] at HP
          rw [hwl]
          clear hwl
          have HRs : Hid (∀ (k : Int) (u : World), Kept wl u → Calls Tryz.prog 30 #[.pointer (some ⟨X, 0, none⟩), .int .i64 k] u (RangeC (rangeL k s.L) u)) := hid (fun k u ku => range_st hc k (by omega) u (st_kept HP.out.st ku))
          have HRr : Hid (∀ (k : Int) (u : World), Kept wl u → Calls Tryz.prog 31 #[.agg cs, .int .i64 k] u (RangeC (rangeL k s.L) u)) := hid (fun k u ku => refrangeL_any (by omega) HFit.out.may k u (rs_kept HP.out.rk.rs ku))
          have HTl : Hid (∀ k, (rangeL k s.L).length ≤ 1000) := hid (fun k => by have := range_len HFit.out.keys k; omega)
          have HS1 : Hid (∀ u, Kept wl u → Hid ((loadVar 36 ⟨Zm, 0, none⟩).run Tryz.prog u = .ok (.agg cs) u)) := hid (fun u ku => hid (pl_load (pl_kept HP.out ku)))
          have HKw := hid (kept_trans HK0.out HP.out.kept)
          clear HP HFit HK0 hl81 hcnt ht
          go_wp2_with fail
          go_loopw [25] (fun t wr => ∃ k : Int, -1 ≤ k ∧ k ≤ 65 ∧ t = .int .i64 k ∧ Hid (Kept wl wr)) (fun t _ => (65 - intOf t).toNat)
          case atStart => exact ⟨-1, by omega, by omega, rfl, hid (kept_refl wl)⟩
          case round =>
            obtain ⟨k, hk1, hk2, rfl, HK9⟩ := hrel
            by_cases hk : k ≤ 64
            · have hd : decide (k ≤ 64) = true := decide_eq_true hk
              have k0 : Kept wl wr.drew := HK9.out
              go_wp2_with fail
              refine wp_region_noPanic ?_
              refine wp_region_held_drew (S := (fun w' => Hid ((loadVar 36 ⟨Zm, 0, none⟩).run Tryz.prog w' = .ok (.agg cs) w'))) (by kernel_rfl) (HS1.out _ k0) (fun hHeld => ?_)
              generalize wr.drew = wq at *
              refine wpAnyH_take (i := 0) (v := .pointer (some ⟨X, 0, none⟩)) rfl (by kernel_rfl) (by kernel_rfl) (by kernel_rfl) (fun _ _ _ h => h) (Or.inl ⟨by rfl, fun w hSw => by (try dsimp only at hSw); go_simp⟩) (by assumption) ?_
              try simp only [List.getElem_toArray, List.getElem_cons_zero, List.getElem_cons_succ, Act.put, List.setIfInBounds_toArray, List.set_cons_zero, List.set_cons_succ]
              refine wpAnyH_take (i := 1) (v := .int .i64 k) rfl (by kernel_rfl) (by kernel_rfl) (by kernel_rfl) (fun _ _ _ h => h) (Or.inl ⟨by rfl, fun w hSw => by (try dsimp only at hSw); go_simp⟩) (by assumption) ?_
              try simp only [List.getElem_toArray, List.getElem_cons_zero, List.getElem_cons_succ, Act.put, List.setIfInBounds_toArray, List.set_cons_zero, List.set_cons_succ]
              refine wpAnyH_take (i := 3) (v := .agg cs) rfl (by kernel_rfl) (by kernel_rfl) (by kernel_rfl) (fun _ _ _ h => h) (Or.inl ⟨by rfl, fun w hSw => exec_load36 _ rfl rfl hSw.out⟩) (by assumption) ?_
              try simp only [List.getElem_toArray, List.getElem_cons_zero, List.getElem_cons_succ, Act.put, List.setIfInBounds_toArray, List.set_cons_zero, List.set_cons_succ]
              refine wpAnyH_take (i := 4) (v := .int .i64 k) rfl (by kernel_rfl) (by kernel_rfl) (by kernel_rfl) (fun _ _ _ h => h) (Or.inl ⟨by rfl, fun w hSw => by (try dsimp only at hSw); go_simp⟩) (by assumption) ?_
              try simp only [List.getElem_toArray, List.getElem_cons_zero, List.getElem_cons_succ, Act.put, List.setIfInBounds_toArray, List.set_cons_zero, List.set_cons_succ]
              refine wpAnyH_ready (rs := [2]) (by kernel_rfl) (by simp) ?_
              refine AllReadyH.cons (i := 2) rfl (fun K hK => ?_) AllReadyH.nil
              go_simp
              refine (HRs.out k _ k0).mono ?_
              rintro e wv1 ⟨v1, rfl, h3, hv1⟩
              have HV1 := hid hv1
              clear hv1
              replace k0 := kept_trans k0 h3
              clear h3
              clear hHeld
              show K _ _
              refine hK.out _ _ (HS1.out _ k0) (fun hHeld => ?_)
              clear hK K
              try simp only [List.getElem_toArray, List.getElem_cons_zero, List.getElem_cons_succ, Act.put, List.setIfInBounds_toArray, List.set_cons_zero, List.set_cons_succ]
              refine wpAnyH_ready (rs := [5]) (by kernel_rfl) (by simp) ?_
              refine AllReadyH.cons (i := 5) rfl (fun K hK => ?_) AllReadyH.nil
              go_simp
              refine (HRr.out k _ k0).mono ?_
              rintro e wv2 ⟨v2, rfl, h3, hv2⟩
              have HV1b := hid (rdr_kept HV1.out h3)
              have HV2 := hid hv2
              clear hv2 HV1
              replace k0 := kept_trans k0 h3
              clear h3
              clear hHeld
              show K _ _
              refine hK.out _ _ (HS1.out _ k0) (fun hHeld => ?_)
              clear hK K
              try simp only [List.getElem_toArray, List.getElem_cons_zero, List.getElem_cons_succ, Act.put, List.setIfInBounds_toArray, List.set_cons_zero, List.set_cons_succ]
              refine wpAnyH_ready (rs := [6]) (by kernel_rfl) (by simp) ?_
              refine AllReadyH.cons (i := 6) rfl (fun K hK => ?_) AllReadyH.nil
              go_simp
              refine (same_any (rangeL k s.L) (HTl.out k) v1 v2 _ HV1b.out HV2.out).mono ?_
              rintro e wv3 ⟨rfl, h3⟩
              clear HV1b HV2
              replace k0 := kept_trans k0 h3
              clear h3
              clear hHeld
              show K _ _
              refine hK.out _ _ (HS1.out _ k0) (fun hHeld => ?_)
              clear hK K
              try simp only [List.getElem_toArray, List.getElem_cons_zero, List.getElem_cons_succ, Act.put, List.setIfInBounds_toArray, List.set_cons_zero, List.set_cons_succ]
              refine wpAnyH_take (i := 7) (v := .bool false) rfl (by kernel_rfl) (by kernel_rfl) (by kernel_rfl) (fun _ _ _ h => h) (Or.inl ⟨by rfl, fun w hSw => by (try dsimp only at hSw); go_simp⟩) (by assumption) ?_
              try simp only [List.getElem_toArray, List.getElem_cons_zero, List.getElem_cons_succ, Act.put, List.setIfInBounds_toArray, List.set_cons_zero, List.set_cons_succ]
              refine wpAnyH_done (by kernel_rfl) ?_ _
              refine NoPanic.normal ?_
              clear hHeld
              have HKe := hid k0
              clear k0
              go_wp2_with fail
              go_roundw
              case rel => exact ⟨k + 1, by omega, by omega, by go_num, HKe⟩
              case measure => simp [intOf]; omega
            · have hd : decide (k ≤ 64) = false := decide_eq_false hk
              go_wp2_with fail
              go_ret
              exact ⟨rfl, kept_trans HKw.out HK9.out⟩
  · clear wn wb wk
    as_aux_lemma =>
      go_enter Tryz.func3, Tryz.ntmps3
      go_wp2_with fail
      refine (snew_bad cn cb ck hcm _).mono ?_
      rintro e w1 ⟨rfl, rfl⟩
      go_wp2_with fail
      have hRf := refnew_bad cn cb ck hcm w1
      rw [HZe.out] at hRf
      refine hRf.mono ?_
      rintro e w2 ⟨rfl, k2⟩
      clear hRf hw0 a0 a1 a2
      obtain ⟨wc, hwc⟩ : ∃ wc, w2.alloc (.cells zs 36) = wc := ⟨_, rfl⟩
      obtain ⟨Zm, hZm⟩ : ∃ Zm, w2.heap.size = Zm := ⟨_, rfl⟩
      have Kc := kept_alloc (kept_refl w2) (.cells zs 36)
      have Ac := at_new w2 zs 36
      rw [hwc] at Kc Ac
      rw [hZm] at Ac
      have HSt := hid (store36 (cs := zs) Ac HZs.out HZz.out)
      have HKd := hid (kept_trans (kept_trans HK0.out k2) (kept_setRow Kc (Nat.le_of_eq hZm) zs))
      generalize wc.setRow Zm zs = wd at HSt HKd
      clear Kc Ac k2
      go_wp2_with (refine wpList_store36 rfl _ _ rfl Zm rfl zs rfl wd HSt.out ?_)
      refine (fixed_any _).mono ?_
      rintro e w3 ⟨rfl, k3⟩
      go_wp2_with fail
      go_ret
      exact ⟨rfl, kept_trans HKd.out k3⟩
end Go.Proofs.YthgbdaladngpdaaGreat
