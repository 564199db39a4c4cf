/- The law that a store never goes backwards, walked: it answers true and turns nothing that was there. -/
import Derived.Test.YthgbdaladngpdaaGreatM20
import Derived.Test.YthgbdaladngpdaaGreatMLawBounded
import Derived.Test.YthgbdaladngpdaaGreatMLawPeeks
namespace Go.Proofs.YthgbdaladngpdaaGreat
open Go.ChangeShapes Go.WideShapes Go.ChangeAt Go.RowKit
open Go.Proofs.YthgbdaladngpdaaGreat.Whl (Tn tn_kept tn_refl tn_trans tn_set tn_alloc at_tn kept_tn It)
set_option linter.unusedVariables false
set_option linter.unusedSimpArgs false
set_option maxRecDepth 100000

theorem get_count {s : MS} (hk : Keys s.L) (k : ByteArray) : (getS s k).ev + (getS s k).L.length = s.ev + s.L.length := by
  unfold getS
  split
  · rename_i q hq
    obtain ⟨h1, rfl⟩ := find_some hq
    have := (woK_perm hk h1).length_eq
    simp at this ⊢
    omega
  · rfl
theorem purge_count (c : Cf) (s : MS) (now : Int) : (purgeS c s now).ev + (purgeS c s now).L.length ≤ s.ev + s.L.length := by
  unfold purgeS
  have := List.length_filter_le (fun r : R => decide (now < r.s.p + (c.K : Int))) s.L
  simp only
  omega
set_option maxHeartbeats 12800000 in
theorem forward_walk (cn cb ck : Int) (oa : Option Addr) (len cap b o : Nat) (S : Nat → Opx) (w : World) (wn : (Lit.int .i64 cn).wf = true) (wb : (Lit.int .i64 cb).wf = true) (wk : (Lit.int .i64 ck).wf = true) (hr : RowO w oa len cap b o S) :
    Calls Tryz.prog 4 #[.agg #[.int .i64 cn, .int .i64 cb, .int .i64 ck], .slice oa len cap] w fun e w' => e = .returned (.bool true) ∧ Kept w w' := by
  have hz := zero44
  have hz2 := zero27
  have hmm := @run_makeMap Tryz.prog
  have K0 := kept_alloc (kept_refl w) (.cells #[.int .i64 cn, .int .i64 cb, .int .i64 ck] 23)
  have A0 := at_new w #[.int .i64 cn, .int .i64 cb, .int .i64 ck] 23
  obtain ⟨w0, hw0⟩ : ∃ w0, w.alloc (.cells #[.int .i64 cn, .int .i64 cb, .int .i64 ck] 23) = w0 := ⟨_, rfl⟩
  obtain ⟨Z, hZ⟩ : ∃ Z, w.heap.size = Z := ⟨_, rfl⟩
  rw [hw0] at K0 A0
  rw [hZ] at A0
  have HK0 := hid K0
  have HR0 := hid (rowo_kept hr K0)
  obtain ⟨a0, a1, a2, _⟩ := at_cells3 A0
  clear K0 A0 hr
  by_cases hcm : confMay cn cb ck
  · obtain ⟨c, hc, rfl, rfl, rfl⟩ := conf_nat hcm
    clear hcm wn wb wk
    go_enter Tryz.func4, Tryz.ntmps4
    go_wp2_with fail
    refine (snew_any c hc _).mono ?_
    rintro e w1 ⟨X, F, rfl, k1, hF, h1⟩
    have HF1 := hid hF
    have HK1 := hid k1
    have HS1 := hid h1
    clear k1 hF h1 a0 a1 a2 hw0
    go_wp2_with fail
    refine (fixed_any _).mono ?_
    rintro e w2 ⟨rfl, k2⟩
    have HS2 := hid (st_kept HS1.out (kept_alloc k2 (.map #[] 0)))
    have HK2 := hid (kept_trans HK1.out (kept_alloc k2 (.map #[] 0)))
    have HH2 := hid (had_made w2)
    have HnM2 : Hid (¬ F w2.heap.size) := hid (fun hf => by have := st_low (st_kept HS1.out k2) _ hf; omega)
    have HMb : Hid (w0.heap.size ≤ w2.heap.size) := hid (kept_trans HK1.out k2).2
    clear k2 HK1 HS1
    go_wp2_with fail
    clear hmm
    generalize w2.alloc (.map #[] 0) = w2b at *
    generalize w2.heap.size = mb at *
    refine (cut_any oa len cap b o S _ (rowo_kept HR0.out HK2.out)).mono ?_
    rintro e w3 ⟨n, rfl, hn1, hn2, hn3, k3⟩
    have HK3 := hid (kept_trans HK2.out k3)
    have HS3 := hid (st_kept HS2.out k3)
    have HH3 := hid (had_kept HH2.out k3)
    have HR := hid (rowo_less HR0.out hn1)
    have HN := hid hn3
    clear k3 HK2 HS2 HH2 HR0 hn1 hn3
    go_wp2_with fail
    go_loopw [8, 40] (fun t i wr => ∃ (j : Nat) (tn : Nat) (F : Nat → Prop) (s : MS) (g : ByteArray → Option R) (cc : Nat), j ≤ n ∧ i = .int .i64 (j : Int) ∧ t = .int .u64 (tn : Int) ∧ tn ≤ j * 255 ∧ s.ev + s.L.length ≤ j ∧ cc ≤ j ∧ Hid (St wr F X c s) ∧ Hid (∀ k, F k → w0.heap.size ≤ k) ∧ Hid (¬ F mb) ∧ Hid (Kept w0 wr) ∧ Hid (Had wr mb g cc) ∧ Hid (∀ k q, g k = some q → q.key = k ∧ q.body.size ≤ maxLen ∧ Past c s (tn : Int) q) ∧ Hid (Fit c s)) (fun _ i _ => n - (intOf i).toNat)
    case atStart => exact ⟨0, 0, F, MS0, fun _ => none, 0, Nat.zero_le _, rfl, rfl, by omega, by simp [MS0], by omega, HS3, HF1, HnM2, HK3, HH3, hid (fun k q hq => by cases hq), hid fit_new⟩
    case round =>
      clear HS3 HF1 HK3 HH3 HnM2
      obtain ⟨j, tn, F, s, g, cc, hj, rfl, rfl, ht, hcnt, hcc, HS, HF, HnM, HK, HH, HP, HFit⟩ := hrel
      by_cases hlt : j < n
      · obtain ⟨rfl, hb⟩ := HR.out.2.2.2.1 (by omega)
        obtain ⟨xok, c0, c1, c2, c3, c4, c5, c6, c7, c8, c9⟩ := (rowo_kept HR.out HK.out).2.2.2.2 j hlt
        have hxs := HN.out j hlt
        obtain ⟨x, hx⟩ : ∃ x, S j = x := ⟨_, rfl⟩
        rw [hx] at xok c0 c1 c2 c3 c4 c5 c6 c7 c8 c9 hxs
        have hp0 := xok.2.2.1
        have hp1 := xok.2.2.2
        obtain ⟨pn, hpn⟩ : ∃ pn : Nat, x.pass = (pn : Int) := ⟨x.pass.toNat, by omega⟩
        have HXok := hid xok.2.1
        clear xok hx
        rw [hpn] at c9 hp0 hp1
        have hkm : x.r.key.size ≤ maxLen := by unfold maxLen; omega
        have HBb : Hid (∀ k q, g k = some q → q.body.size ≤ maxLen) := hid (fun k q hq => (HP.out k q hq).2.1)
        have K4 := kept_alloc (kept_refl wr) (.cells #[.int .i64 x.kind, .string x.r.key, .int .u64 x.r.s.p, .int .u32 x.r.s.l, .int .u8 x.r.s.n, .int .u8 x.r.kind, .int .u32 x.r.flags, .int .u64 x.r.exp, .string x.r.body, .int .u8 (pn : Int)] 44)
        obtain ⟨w4, hw4⟩ : ∃ w4, wr.alloc (.cells #[.int .i64 x.kind, .string x.r.key, .int .u64 x.r.s.p, .int .u32 x.r.s.l, .int .u8 x.r.s.n, .int .u8 x.r.kind, .int .u32 x.r.flags, .int .u64 x.r.exp, .string x.r.body, .int .u8 (pn : Int)] 44) = w4 := ⟨_, rfl⟩
        have A4 := at_new wr #[.int .i64 x.kind, .string x.r.key, .int .u64 x.r.s.p, .int .u32 x.r.s.l, .int .u8 x.r.s.n, .int .u8 x.r.kind, .int .u32 x.r.flags, .int .u64 x.r.exp, .string x.r.body, .int .u8 (pn : Int)] 44
        obtain ⟨Y, hY⟩ : ∃ Y, wr.heap.size = Y := ⟨_, rfl⟩
        have HnF : Hid (¬ F Y) := hid (fun hf => by have := st_low HS.out _ hf; omega)
        rw [hw4] at K4 A4
        rw [hY] at A4
        obtain ⟨d0, d1, d2, d3, d4, d5, d6, d7, d8, d9⟩ := at_cells10 A4
        have HA4 := hid A4
        have HS4 := hid (st_kept HS.out K4)
        have HH4 := hid (had_kept HH.out K4)
        have HK4 := hid (kept_trans HK.out K4)
        obtain ⟨t2, ht2⟩ : ∃ t2, tn + pn = t2 := ⟨_, rfl⟩
        have htt : (tn : Int) + (pn : Int) = (t2 : Int) := by omega
        have htn : t2 ≤ (j + 1) * 255 := by omega
        have hw2 : IntKind.u64.wrap (t2 : Int) = (t2 : Int) := by rw [IntKind.wrap_u64]; omega
        clear K4 A4 HS HK HH
        by_cases e0 : x.kind = 0
        · have f0 : (x.kind == 0) = true := by simpa using e0
          clear e0
          have hPut := put_any hc x.r hxs.1 hxs.2 HXok.out (t2 : Int) (by omega) (by omega) w4 HS4.out
          have HCnt := hid (put_count hc s x.r (t2 : Int))
          have HFit5 := hid (fit_put (now := (t2 : Int)) hc HFit.out HXok.out)
          have HP5 : Hid (∀ k q, g k = some q → q.key = k ∧ q.body.size ≤ maxLen ∧ Past c (putS c s x.r (t2 : Int)) (t2 : Int) q) := hid (fun k q hq => ⟨(HP.out k q hq).1, (HP.out k q hq).2.1, past_put hc HFit.out.keys (past_now (HP.out k q hq).2.2 (by omega))⟩)
          go_wp2_with fail
          refine hPut.mono ?_
          rintro e w5 ⟨rfl, F5, t5, h5⟩
          generalize putS c s x.r (t2 : Int) = s5 at *
          have hcnt5 : s5.ev + s5.L.length ≤ j + 1 := by have := HCnt.out; omega
          clear hPut HCnt HP HFit
          have HS5 := hid h5
          have HK5 := hid (kept_tn HK4.out HF.out t5.1)
          have HF5 := hid (stp_low t5 HF.out HK4.out)
          have HnM5 : Hid (¬ F5 mb) := hid (fun hf => by
            rcases t5.2 mb hf with z | z
            · exact HnM.out z
            · have := had_lt HH4.out; omega)
          have HH5 := hid (had_tn HH4.out t5.1 HnM.out)
          have HA5 := hid (at_tn HA4.out t5.1 HnF.out)
          clear t5 h5 HS4 HK4 HA4 HF HnM HH4 d0 d1 d2 d3 d4 d5 d6 d7 d8 d9
          obtain ⟨d0, d1, d2, d3, d4, d5, d6, d7, d8, d9⟩ := at_cells10 HA5.out
          have hPk := peek_any hc x.r.key (by omega) w5 HS5.out
          cases hf : findK s5.L x.r.key with
          | none =>
            obtain ⟨pz, hpz⟩ : ∃ pz, pk s5 x.r.key = pz := ⟨_, rfl⟩
            rw [hf, hpz] at hPk
            clear hpz
            have HFn := hid hf
            clear hf
            go_wp2_with fail
            refine hPk.mono ?_
            rintro e w6 ⟨rfl, k6⟩
            have HK6 := hid (kept_alloc (kept_trans HK5.out k6) (.cells #[.string pz.key, .int .u64 pz.s.p, .int .u32 pz.s.l, .int .u8 pz.s.n, .int .u8 pz.kind, .int .u32 pz.flags, .int .u64 pz.exp, .string pz.body] 42))
            have HS6 := hid (st_kept HS5.out (kept_alloc k6 (.cells #[.string pz.key, .int .u64 pz.s.p, .int .u32 pz.s.l, .int .u8 pz.s.n, .int .u8 pz.kind, .int .u32 pz.flags, .int .u64 pz.exp, .string pz.body] 42)))
            have HH6 := hid (had_kept HH5.out (kept_alloc k6 (.cells #[.string pz.key, .int .u64 pz.s.p, .int .u32 pz.s.l, .int .u8 pz.s.n, .int .u8 pz.kind, .int .u32 pz.flags, .int .u64 pz.exp, .string pz.body] 42)))
            clear k6 hPk d0 d1 d2 d3 d4 d5 d6 d7 d8 d9 HS5 HK5 HA5 HH5
            go_wp2_with fail
            go_roundw
            case rel => exact ⟨j + 1, t2, F5, s5, g, cc, by omega, by go_num, rfl, htn, hcnt5, by omega, HS6, HF5, HnM5, HK6, HH6, HP5, HFit5⟩
            case measure => simp [intOf]; omega
          | some r =>
            have hpz : pk s5 x.r.key = r := by unfold pk; rw [hf]; rfl
            rw [hf, hpz] at hPk
            obtain ⟨hrm, hrk⟩ := find_some hf
            have hrb : r.body.size ≤ maxLen := (HFit5.out.ok r hrm).2.2.2.2.2
            have HPn : Hid (∀ k q, updG g x.r.key r k = some q → q.key = k ∧ q.body.size ≤ maxLen ∧ Past c s5 (t2 : Int) q) := hid (fun k q hq => by
              unfold updG at hq
              by_cases e : k = x.r.key
              · rw [if_pos e] at hq
                injection hq with hq
                rw [← hq]
                exact ⟨hrk.trans e.symm, hrb, past_here HFit5.out.keys hrm⟩
              · rw [if_neg e] at hq
                exact HP5.out k q hq)
            have hnk := bytes_eq hrk
            clear hpz
            have HLs : Hid (∀ q, g x.r.key = some q → lessR r q = false) := hid (fun q hq => by
              obtain ⟨h1, _, h2⟩ := HP5.out _ q hq
              have h3 := h2.1 r hrm (hrk.trans h1.symm)
              have h4 := good_rec.neg q r
              unfold lessR
              rw [decide_eq_false]
              omega)
            clear hf hrk
            go_wp2_with fail
            refine hPk.mono ?_
            rintro e w6 ⟨rfl, k6⟩
            have K7 := kept_alloc k6 (.cells #[.string r.key, .int .u64 r.s.p, .int .u32 r.s.l, .int .u8 r.s.n, .int .u8 r.kind, .int .u32 r.flags, .int .u64 r.exp, .string r.body] 42)
            have A7 := at_new w6 #[.string r.key, .int .u64 r.s.p, .int .u32 r.s.l, .int .u8 r.s.n, .int .u8 r.kind, .int .u32 r.flags, .int .u64 r.exp, .string r.body] 42
            obtain ⟨w7, hw7⟩ : ∃ w7, w6.alloc (.cells #[.string r.key, .int .u64 r.s.p, .int .u32 r.s.l, .int .u8 r.s.n, .int .u8 r.kind, .int .u32 r.flags, .int .u64 r.exp, .string r.body] 42) = w7 := ⟨_, rfl⟩
            obtain ⟨Yr, hYr⟩ : ∃ Yr, w6.heap.size = Yr := ⟨_, rfl⟩
            rw [hw7] at K7 A7
            rw [hYr] at A7
            have HK7 := hid (kept_trans HK5.out K7)
            have HS7 := hid (st_kept HS5.out K7)
            have HH7 := hid (had_kept HH5.out K7)
            have HA7 := hid (at_kept HA5.out K7)
            have HR7 := hid A7
            clear k6 hPk d0 d1 d2 d3 d4 d5 d6 d7 d8 d9 HS5 HK5 HA5 HH5 K7 A7
            obtain ⟨d0, d1, d2, d3, d4, d5, d6, d7, d8, d9⟩ := at_cells10 HA7.out
            have hlook := had_look HH7.out x.r.key hkm
            cases hg : g x.r.key with
            | none =>
              obtain ⟨z, hzz⟩ : ∃ z, (g x.r.key).getD zeroR = z := ⟨_, rfl⟩
              rw [hzz, hg] at hlook
              have hlook2 : (Instr.lookup 63 (.map (some mb)) (.string x.r.key) true).run Tryz.prog w7 = .ok (.tuple #[.agg #[.string z.key, .int .u64 z.s.p, .int .u32 z.s.l, .int .u8 z.s.n, .int .u8 z.kind, .int .u32 z.flags, .int .u64 z.exp, .string z.body], .bool false]) w7 := hlook
              clear hlook hzz
              have K8 := kept_alloc (kept_refl w7) (.cells #[.string z.key, .int .u64 z.s.p, .int .u32 z.s.l, .int .u8 z.s.n, .int .u8 z.kind, .int .u32 z.flags, .int .u64 z.exp, .string z.body] 42)
              have A8 := at_new w7 #[.string z.key, .int .u64 z.s.p, .int .u32 z.s.l, .int .u8 z.s.n, .int .u8 z.kind, .int .u32 z.flags, .int .u64 z.exp, .string z.body] 42
              obtain ⟨w8, hw8⟩ : ∃ w8, w7.alloc (.cells #[.string z.key, .int .u64 z.s.p, .int .u32 z.s.l, .int .u8 z.s.n, .int .u8 z.kind, .int .u32 z.flags, .int .u64 z.exp, .string z.body] 42) = w8 := ⟨_, rfl⟩
              obtain ⟨Yz, hYz⟩ : ∃ Yz, w7.heap.size = Yz := ⟨_, rfl⟩
              rw [hw8] at K8 A8
              rw [hYz] at A8
              have HK8 := hid (kept_trans HK7.out K8)
              have HS8 := hid (st_kept HS7.out K8)
              have HH8 := hid (had_kept HH7.out K8)
              have HA8 := hid (at_kept HA7.out K8)
              have HR8 := hid (at_kept HR7.out K8)
              have HZ8 := hid A8
              clear HK7 HS7 HH7 HA7 HR7 K8 A8
              obtain ⟨w9, hw9⟩ : ∃ w9, w8 = w9 := ⟨_, rfl⟩
              have HK9 := HK8
              have HS9 := HS8
              have HH9 := HH8
              have HA9 := HA8
              have HR9 := HR8
              subst hw9
              clear HK8 HS8 HH8 HA8 HR8 HZ8
              obtain ⟨r0, r1, r2, r3, r4, r5, r6, r7⟩ := at_cells8' HR9.out
              obtain ⟨m0, m1, m2, m3, m4, m5, m6, m7, m8, m9⟩ := at_cells10 HA9.out
              obtain ⟨w10, hup, ⟨cc2, hcc2, hh10⟩, tm⟩ := had_put HH9.out (by omega) x.r.key hkm r
              have HH10 := hid hh10
              have HS10 := hid (st_tn HS9.out (tn_map tm) (fun k hk e => HnM5.out (by rw [← e]; exact hk)))
              have HK10 := hid (kept_tn HK9.out (fun k hk => by rw [hk]; exact HMb.out) (tn_map tm))
              clear hh10 tm HH9 HS9 HK9 HA9 HR9
              go_wp2_with fail
              go_roundw
              case rel => exact ⟨j + 1, t2, F5, s5, updG g x.r.key r, cc2, by omega, by go_num, rfl, htn, hcnt5, by omega, HS10, HF5, HnM5, HK10, HH10, HPn, HFit5⟩
              case measure => simp [intOf]; omega
            | some q =>
              obtain ⟨z, hzz⟩ : ∃ z, (g x.r.key).getD zeroR = z := ⟨_, rfl⟩
              rw [hzz, hg] at hlook
              have hlf := HLs.out q hg
              have hzq : z = q := by rw [← hzz, hg]; rfl
              subst hzq
              have hzb : z.body.size ≤ maxLen := HBb.out _ z hg
              have hlook2 : (Instr.lookup 63 (.map (some mb)) (.string x.r.key) true).run Tryz.prog w7 = .ok (.tuple #[.agg #[.string z.key, .int .u64 z.s.p, .int .u32 z.s.l, .int .u8 z.s.n, .int .u8 z.kind, .int .u32 z.flags, .int .u64 z.exp, .string z.body], .bool true]) w7 := hlook
              clear hlook hzz
              have K8 := kept_alloc (kept_refl w7) (.cells #[.string z.key, .int .u64 z.s.p, .int .u32 z.s.l, .int .u8 z.s.n, .int .u8 z.kind, .int .u32 z.flags, .int .u64 z.exp, .string z.body] 42)
              have A8 := at_new w7 #[.string z.key, .int .u64 z.s.p, .int .u32 z.s.l, .int .u8 z.s.n, .int .u8 z.kind, .int .u32 z.flags, .int .u64 z.exp, .string z.body] 42
              obtain ⟨w8, hw8⟩ : ∃ w8, w7.alloc (.cells #[.string z.key, .int .u64 z.s.p, .int .u32 z.s.l, .int .u8 z.s.n, .int .u8 z.kind, .int .u32 z.flags, .int .u64 z.exp, .string z.body] 42) = w8 := ⟨_, rfl⟩
              obtain ⟨Yz, hYz⟩ : ∃ Yz, w7.heap.size = Yz := ⟨_, rfl⟩
              rw [hw8] at K8 A8
              rw [hYz] at A8
              have HK8 := hid (kept_trans HK7.out K8)
              have HS8 := hid (st_kept HS7.out K8)
              have HH8 := hid (had_kept HH7.out K8)
              have HA8 := hid (at_kept HA7.out K8)
              have HR8 := hid (at_kept HR7.out K8)
              have HZ8 := hid A8
              clear HK7 HS7 HH7 HA7 HR7 K8 A8
              obtain ⟨r0, r1, r2, r3, r4, r5, r6, r7⟩ := at_cells8' HR8.out
              obtain ⟨z0, z1, z2, z3, z4, z5, z6, z7⟩ := at_cells8' HZ8.out
              have hless := refLess_any r z hrb hzb w8
              rw [hlf] at hless
              go_wp2_with fail
              refine hless.mono ?_
              rintro e w9 ⟨rfl, k9⟩
              have HK9 := hid (kept_trans HK8.out k9)
              have HS9 := hid (st_kept HS8.out k9)
              have HH9 := hid (had_kept HH8.out k9)
              have HA9 := hid (at_kept HA8.out k9)
              have HR9 := hid (at_kept HR8.out k9)
              clear k9 hless HK8 HS8 HH8 HA8 HR8 HZ8 r0 r1 r2 r3 r4 r5 r6 r7 z0 z1 z2 z3 z4 z5 z6 z7 d0 d1 d2 d3 d4 d5 d6 d7 d8 d9 hw7 hw8 hlook2
              obtain ⟨r0, r1, r2, r3, r4, r5, r6, r7⟩ := at_cells8' HR9.out
              obtain ⟨d0, d1, d2, d3, d4, d5, d6, d7, d8, d9⟩ := at_cells10 HA9.out
              obtain ⟨w10, hup, ⟨cc2, hcc2, hh10⟩, tm⟩ := had_put HH9.out (by omega) x.r.key hkm r
              have HH10 := hid hh10
              have HS10 := hid (st_tn HS9.out (tn_map tm) (fun k hk e => HnM5.out (by rw [← e]; exact hk)))
              have HK10 := hid (kept_tn HK9.out (fun k hk => by rw [hk]; exact HMb.out) (tn_map tm))
              clear hh10 tm HH9 HS9 HK9 HA9 HR9
              go_wp2_with fail
              go_roundw
              case rel => exact ⟨j + 1, t2, F5, s5, updG g x.r.key r, cc2, by omega, by go_num, rfl, htn, hcnt5, by omega, HS10, HF5, HnM5, HK10, HH10, HPn, HFit5⟩
              case measure => simp [intOf]; omega
        · have f0 : (x.kind == 0) = false := by simpa using e0
          by_cases e1 : x.kind = 1
          · have f1 : (x.kind == 1) = true := by simpa using e1
            clear e0 e1
            have hGet := get_any hc x.r.key (by omega) w4 HS4.out
            have HFit5 := hid (fit_get HFit.out x.r.key)
            have HP5 : Hid (∀ k q, g k = some q → q.key = k ∧ q.body.size ≤ maxLen ∧ Past c (getS s x.r.key) (t2 : Int) q) := hid (fun k q hq => ⟨(HP.out k q hq).1, (HP.out k q hq).2.1, past_get HFit.out.keys x.r.key (past_now (HP.out k q hq).2.2 (by omega))⟩)
            have HCnt := hid (get_count HFit.out.keys x.r.key)
            go_wp2_with fail
            refine hGet.mono ?_
            rintro e w5 ⟨rfl, t5', h5⟩
            have t5 := Whl.stp_tn t5'
            obtain ⟨F5, hF5⟩ : ∃ F5, F = F5 := ⟨_, rfl⟩
            have h5' := h5
            have t5'' : Whl.Stp F F5 w4 w5 := by rw [← hF5]; exact t5
            rw [hF5] at h5'
            clear t5 h5 t5'
            have t5 := t5''
            have h5 := h5'
            clear t5'' h5' hF5
            generalize getS s x.r.key = s5 at *
            have hcnt5 : s5.ev + s5.L.length ≤ j + 1 := by have := HCnt.out; omega
            clear hGet HCnt HP HFit
            have HS5 := hid h5
            have HK5 := hid (kept_tn HK4.out HF.out t5.1)
            have HF5 := hid (stp_low t5 HF.out HK4.out)
            have HnM5 : Hid (¬ F5 mb) := hid (fun hf => by
              rcases t5.2 mb hf with z | z
              · exact HnM.out z
              · have := had_lt HH4.out; omega)
            have HH5 := hid (had_tn HH4.out t5.1 HnM.out)
            have HA5 := hid (at_tn HA4.out t5.1 HnF.out)
            clear t5 h5 HS4 HK4 HA4 HF HnM HH4 d0 d1 d2 d3 d4 d5 d6 d7 d8 d9
            obtain ⟨d0, d1, d2, d3, d4, d5, d6, d7, d8, d9⟩ := at_cells10 HA5.out
            have hPk := peek_any hc x.r.key (by omega) w5 HS5.out
            cases hf : findK s5.L x.r.key with
            | none =>
              obtain ⟨pz, hpz⟩ : ∃ pz, pk s5 x.r.key = pz := ⟨_, rfl⟩
              rw [hf, hpz] at hPk
              clear hpz
              have HFn := hid hf
              clear hf
              go_wp2_with fail
              refine hPk.mono ?_
              rintro e w6 ⟨rfl, k6⟩
              have HK6 := hid (kept_alloc (kept_trans HK5.out k6) (.cells #[.string pz.key, .int .u64 pz.s.p, .int .u32 pz.s.l, .int .u8 pz.s.n, .int .u8 pz.kind, .int .u32 pz.flags, .int .u64 pz.exp, .string pz.body] 42))
              have HS6 := hid (st_kept HS5.out (kept_alloc k6 (.cells #[.string pz.key, .int .u64 pz.s.p, .int .u32 pz.s.l, .int .u8 pz.s.n, .int .u8 pz.kind, .int .u32 pz.flags, .int .u64 pz.exp, .string pz.body] 42)))
              have HH6 := hid (had_kept HH5.out (kept_alloc k6 (.cells #[.string pz.key, .int .u64 pz.s.p, .int .u32 pz.s.l, .int .u8 pz.s.n, .int .u8 pz.kind, .int .u32 pz.flags, .int .u64 pz.exp, .string pz.body] 42)))
              clear k6 hPk d0 d1 d2 d3 d4 d5 d6 d7 d8 d9 HS5 HK5 HA5 HH5
              go_wp2_with fail
              go_roundw
              case rel => exact ⟨j + 1, t2, F5, s5, g, cc, by omega, by go_num, rfl, htn, hcnt5, by omega, HS6, HF5, HnM5, HK6, HH6, HP5, HFit5⟩
              case measure => simp [intOf]; omega
            | some r =>
              have hpz : pk s5 x.r.key = r := by unfold pk; rw [hf]; rfl
              rw [hf, hpz] at hPk
              obtain ⟨hrm, hrk⟩ := find_some hf
              have hrb : r.body.size ≤ maxLen := (HFit5.out.ok r hrm).2.2.2.2.2
              have HPn : Hid (∀ k q, updG g x.r.key r k = some q → q.key = k ∧ q.body.size ≤ maxLen ∧ Past c s5 (t2 : Int) q) := hid (fun k q hq => by
                unfold updG at hq
                by_cases e : k = x.r.key
                · rw [if_pos e] at hq
                  injection hq with hq
                  rw [← hq]
                  exact ⟨hrk.trans e.symm, hrb, past_here HFit5.out.keys hrm⟩
                · rw [if_neg e] at hq
                  exact HP5.out k q hq)
              have hnk := bytes_eq hrk
              clear hpz
              have HLs : Hid (∀ q, g x.r.key = some q → lessR r q = false) := hid (fun q hq => by
                obtain ⟨h1, _, h2⟩ := HP5.out _ q hq
                have h3 := h2.1 r hrm (hrk.trans h1.symm)
                have h4 := good_rec.neg q r
                unfold lessR
                rw [decide_eq_false]
                omega)
              clear hf hrk
              go_wp2_with fail
              refine hPk.mono ?_
              rintro e w6 ⟨rfl, k6⟩
              have K7 := kept_alloc k6 (.cells #[.string r.key, .int .u64 r.s.p, .int .u32 r.s.l, .int .u8 r.s.n, .int .u8 r.kind, .int .u32 r.flags, .int .u64 r.exp, .string r.body] 42)
              have A7 := at_new w6 #[.string r.key, .int .u64 r.s.p, .int .u32 r.s.l, .int .u8 r.s.n, .int .u8 r.kind, .int .u32 r.flags, .int .u64 r.exp, .string r.body] 42
              obtain ⟨w7, hw7⟩ : ∃ w7, w6.alloc (.cells #[.string r.key, .int .u64 r.s.p, .int .u32 r.s.l, .int .u8 r.s.n, .int .u8 r.kind, .int .u32 r.flags, .int .u64 r.exp, .string r.body] 42) = w7 := ⟨_, rfl⟩
              obtain ⟨Yr, hYr⟩ : ∃ Yr, w6.heap.size = Yr := ⟨_, rfl⟩
              rw [hw7] at K7 A7
              rw [hYr] at A7
              have HK7 := hid (kept_trans HK5.out K7)
              have HS7 := hid (st_kept HS5.out K7)
              have HH7 := hid (had_kept HH5.out K7)
              have HA7 := hid (at_kept HA5.out K7)
              have HR7 := hid A7
              clear k6 hPk d0 d1 d2 d3 d4 d5 d6 d7 d8 d9 HS5 HK5 HA5 HH5 K7 A7
              obtain ⟨d0, d1, d2, d3, d4, d5, d6, d7, d8, d9⟩ := at_cells10 HA7.out
              have hlook := had_look HH7.out x.r.key hkm
              cases hg : g x.r.key with
              | none =>
                obtain ⟨z, hzz⟩ : ∃ z, (g x.r.key).getD zeroR = z := ⟨_, rfl⟩
                rw [hzz, hg] at hlook
                have hlook2 : (Instr.lookup 63 (.map (some mb)) (.string x.r.key) true).run Tryz.prog w7 = .ok (.tuple #[.agg #[.string z.key, .int .u64 z.s.p, .int .u32 z.s.l, .int .u8 z.s.n, .int .u8 z.kind, .int .u32 z.flags, .int .u64 z.exp, .string z.body], .bool false]) w7 := hlook
                clear hlook hzz
                have K8 := kept_alloc (kept_refl w7) (.cells #[.string z.key, .int .u64 z.s.p, .int .u32 z.s.l, .int .u8 z.s.n, .int .u8 z.kind, .int .u32 z.flags, .int .u64 z.exp, .string z.body] 42)
                have A8 := at_new w7 #[.string z.key, .int .u64 z.s.p, .int .u32 z.s.l, .int .u8 z.s.n, .int .u8 z.kind, .int .u32 z.flags, .int .u64 z.exp, .string z.body] 42
                obtain ⟨w8, hw8⟩ : ∃ w8, w7.alloc (.cells #[.string z.key, .int .u64 z.s.p, .int .u32 z.s.l, .int .u8 z.s.n, .int .u8 z.kind, .int .u32 z.flags, .int .u64 z.exp, .string z.body] 42) = w8 := ⟨_, rfl⟩
                obtain ⟨Yz, hYz⟩ : ∃ Yz, w7.heap.size = Yz := ⟨_, rfl⟩
                rw [hw8] at K8 A8
                rw [hYz] at A8
                have HK8 := hid (kept_trans HK7.out K8)
                have HS8 := hid (st_kept HS7.out K8)
                have HH8 := hid (had_kept HH7.out K8)
                have HA8 := hid (at_kept HA7.out K8)
                have HR8 := hid (at_kept HR7.out K8)
                have HZ8 := hid A8
                clear HK7 HS7 HH7 HA7 HR7 K8 A8
                obtain ⟨w9, hw9⟩ : ∃ w9, w8 = w9 := ⟨_, rfl⟩
                have HK9 := HK8
                have HS9 := HS8
                have HH9 := HH8
                have HA9 := HA8
                have HR9 := HR8
                subst hw9
                clear HK8 HS8 HH8 HA8 HR8 HZ8
                obtain ⟨r0, r1, r2, r3, r4, r5, r6, r7⟩ := at_cells8' HR9.out
                obtain ⟨m0, m1, m2, m3, m4, m5, m6, m7, m8, m9⟩ := at_cells10 HA9.out
                obtain ⟨w10, hup, ⟨cc2, hcc2, hh10⟩, tm⟩ := had_put HH9.out (by omega) x.r.key hkm r
                have HH10 := hid hh10
                have HS10 := hid (st_tn HS9.out (tn_map tm) (fun k hk e => HnM5.out (by rw [← e]; exact hk)))
                have HK10 := hid (kept_tn HK9.out (fun k hk => by rw [hk]; exact HMb.out) (tn_map tm))
                clear hh10 tm HH9 HS9 HK9 HA9 HR9
                go_wp2_with fail
                go_roundw
                case rel => exact ⟨j + 1, t2, F5, s5, updG g x.r.key r, cc2, by omega, by go_num, rfl, htn, hcnt5, by omega, HS10, HF5, HnM5, HK10, HH10, HPn, HFit5⟩
                case measure => simp [intOf]; omega
              | some q =>
                obtain ⟨z, hzz⟩ : ∃ z, (g x.r.key).getD zeroR = z := ⟨_, rfl⟩
                rw [hzz, hg] at hlook
                have hlf := HLs.out q hg
                have hzq : z = q := by rw [← hzz, hg]; rfl
                subst hzq
                have hzb : z.body.size ≤ maxLen := HBb.out _ z hg
                have hlook2 : (Instr.lookup 63 (.map (some mb)) (.string x.r.key) true).run Tryz.prog w7 = .ok (.tuple #[.agg #[.string z.key, .int .u64 z.s.p, .int .u32 z.s.l, .int .u8 z.s.n, .int .u8 z.kind, .int .u32 z.flags, .int .u64 z.exp, .string z.body], .bool true]) w7 := hlook
                clear hlook hzz
                have K8 := kept_alloc (kept_refl w7) (.cells #[.string z.key, .int .u64 z.s.p, .int .u32 z.s.l, .int .u8 z.s.n, .int .u8 z.kind, .int .u32 z.flags, .int .u64 z.exp, .string z.body] 42)
                have A8 := at_new w7 #[.string z.key, .int .u64 z.s.p, .int .u32 z.s.l, .int .u8 z.s.n, .int .u8 z.kind, .int .u32 z.flags, .int .u64 z.exp, .string z.body] 42
                obtain ⟨w8, hw8⟩ : ∃ w8, w7.alloc (.cells #[.string z.key, .int .u64 z.s.p, .int .u32 z.s.l, .int .u8 z.s.n, .int .u8 z.kind, .int .u32 z.flags, .int .u64 z.exp, .string z.body] 42) = w8 := ⟨_, rfl⟩
                obtain ⟨Yz, hYz⟩ : ∃ Yz, w7.heap.size = Yz := ⟨_, rfl⟩
                rw [hw8] at K8 A8
                rw [hYz] at A8
                have HK8 := hid (kept_trans HK7.out K8)
                have HS8 := hid (st_kept HS7.out K8)
                have HH8 := hid (had_kept HH7.out K8)
                have HA8 := hid (at_kept HA7.out K8)
                have HR8 := hid (at_kept HR7.out K8)
                have HZ8 := hid A8
                clear HK7 HS7 HH7 HA7 HR7 K8 A8
                obtain ⟨r0, r1, r2, r3, r4, r5, r6, r7⟩ := at_cells8' HR8.out
                obtain ⟨z0, z1, z2, z3, z4, z5, z6, z7⟩ := at_cells8' HZ8.out
                have hless := refLess_any r z hrb hzb w8
                rw [hlf] at hless
                go_wp2_with fail
                refine hless.mono ?_
                rintro e w9 ⟨rfl, k9⟩
                have HK9 := hid (kept_trans HK8.out k9)
                have HS9 := hid (st_kept HS8.out k9)
                have HH9 := hid (had_kept HH8.out k9)
                have HA9 := hid (at_kept HA8.out k9)
                have HR9 := hid (at_kept HR8.out k9)
                clear k9 hless HK8 HS8 HH8 HA8 HR8 HZ8 r0 r1 r2 r3 r4 r5 r6 r7 z0 z1 z2 z3 z4 z5 z6 z7 d0 d1 d2 d3 d4 d5 d6 d7 d8 d9 hw7 hw8 hlook2
                obtain ⟨r0, r1, r2, r3, r4, r5, r6, r7⟩ := at_cells8' HR9.out
                obtain ⟨d0, d1, d2, d3, d4, d5, d6, d7, d8, d9⟩ := at_cells10 HA9.out
                obtain ⟨w10, hup, ⟨cc2, hcc2, hh10⟩, tm⟩ := had_put HH9.out (by omega) x.r.key hkm r
                have HH10 := hid hh10
                have HS10 := hid (st_tn HS9.out (tn_map tm) (fun k hk e => HnM5.out (by rw [← e]; exact hk)))
                have HK10 := hid (kept_tn HK9.out (fun k hk => by rw [hk]; exact HMb.out) (tn_map tm))
                clear hh10 tm HH9 HS9 HK9 HA9 HR9
                go_wp2_with fail
                go_roundw
                case rel => exact ⟨j + 1, t2, F5, s5, updG g x.r.key r, cc2, by omega, by go_num, rfl, htn, hcnt5, by omega, HS10, HF5, HnM5, HK10, HH10, HPn, HFit5⟩
                case measure => simp [intOf]; omega
          · have f1 : (x.kind == 1) = false := by simpa using e1
            by_cases e2 : x.kind = 2
            · have f2 : (x.kind == 2) = true := by simpa using e2
              clear e0 e1 e2
              have hGet := get_any hc x.r.key (by omega) w4 HS4.out
              have HFit5 := hid (fit_get HFit.out x.r.key)
              have HP5 : Hid (∀ k q, g k = some q → q.key = k ∧ q.body.size ≤ maxLen ∧ Past c (getS s x.r.key) (t2 : Int) q) := hid (fun k q hq => ⟨(HP.out k q hq).1, (HP.out k q hq).2.1, past_get HFit.out.keys x.r.key (past_now (HP.out k q hq).2.2 (by omega))⟩)
              have HCnt := hid (get_count HFit.out.keys x.r.key)
              go_wp2_with fail
              refine hGet.mono ?_
              rintro e w5 ⟨rfl, t5', h5⟩
              have t5 := Whl.stp_tn t5'
              obtain ⟨F5, hF5⟩ : ∃ F5, F = F5 := ⟨_, rfl⟩
              have h5' := h5
              have t5'' : Whl.Stp F F5 w4 w5 := by rw [← hF5]; exact t5
              rw [hF5] at h5'
              clear t5 h5 t5'
              have t5 := t5''
              have h5 := h5'
              clear t5'' h5' hF5
              generalize getS s x.r.key = s5 at *
              have hcnt5 : s5.ev + s5.L.length ≤ j + 1 := by have := HCnt.out; omega
              clear hGet HCnt HP HFit
              have HS5 := hid h5
              have HK5 := hid (kept_tn HK4.out HF.out t5.1)
              have HF5 := hid (stp_low t5 HF.out HK4.out)
              have HnM5 : Hid (¬ F5 mb) := hid (fun hf => by
                rcases t5.2 mb hf with z | z
                · exact HnM.out z
                · have := had_lt HH4.out; omega)
              have HH5 := hid (had_tn HH4.out t5.1 HnM.out)
              have HA5 := hid (at_tn HA4.out t5.1 HnF.out)
              clear t5 h5 HS4 HK4 HA4 HF HnM HH4 d0 d1 d2 d3 d4 d5 d6 d7 d8 d9
              obtain ⟨d0, d1, d2, d3, d4, d5, d6, d7, d8, d9⟩ := at_cells10 HA5.out
              have hPk := peek_any hc x.r.key (by omega) w5 HS5.out
              cases hf : findK s5.L x.r.key with
              | none =>
                obtain ⟨pz, hpz⟩ : ∃ pz, pk s5 x.r.key = pz := ⟨_, rfl⟩
                rw [hf, hpz] at hPk
                clear hpz
                have HFn := hid hf
                clear hf
                go_wp2_with fail
                refine hPk.mono ?_
                rintro e w6 ⟨rfl, k6⟩
                have HK6 := hid (kept_alloc (kept_trans HK5.out k6) (.cells #[.string pz.key, .int .u64 pz.s.p, .int .u32 pz.s.l, .int .u8 pz.s.n, .int .u8 pz.kind, .int .u32 pz.flags, .int .u64 pz.exp, .string pz.body] 42))
                have HS6 := hid (st_kept HS5.out (kept_alloc k6 (.cells #[.string pz.key, .int .u64 pz.s.p, .int .u32 pz.s.l, .int .u8 pz.s.n, .int .u8 pz.kind, .int .u32 pz.flags, .int .u64 pz.exp, .string pz.body] 42)))
                have HH6 := hid (had_kept HH5.out (kept_alloc k6 (.cells #[.string pz.key, .int .u64 pz.s.p, .int .u32 pz.s.l, .int .u8 pz.s.n, .int .u8 pz.kind, .int .u32 pz.flags, .int .u64 pz.exp, .string pz.body] 42)))
                clear k6 hPk d0 d1 d2 d3 d4 d5 d6 d7 d8 d9 HS5 HK5 HA5 HH5
                go_wp2_with fail
                go_roundw
                case rel => exact ⟨j + 1, t2, F5, s5, g, cc, by omega, by go_num, rfl, htn, hcnt5, by omega, HS6, HF5, HnM5, HK6, HH6, HP5, HFit5⟩
                case measure => simp [intOf]; omega
              | some r =>
                have hpz : pk s5 x.r.key = r := by unfold pk; rw [hf]; rfl
                rw [hf, hpz] at hPk
                obtain ⟨hrm, hrk⟩ := find_some hf
                have hrb : r.body.size ≤ maxLen := (HFit5.out.ok r hrm).2.2.2.2.2
                have HPn : Hid (∀ k q, updG g x.r.key r k = some q → q.key = k ∧ q.body.size ≤ maxLen ∧ Past c s5 (t2 : Int) q) := hid (fun k q hq => by
                  unfold updG at hq
                  by_cases e : k = x.r.key
                  · rw [if_pos e] at hq
                    injection hq with hq
                    rw [← hq]
                    exact ⟨hrk.trans e.symm, hrb, past_here HFit5.out.keys hrm⟩
                  · rw [if_neg e] at hq
                    exact HP5.out k q hq)
                have hnk := bytes_eq hrk
                clear hpz
                have HLs : Hid (∀ q, g x.r.key = some q → lessR r q = false) := hid (fun q hq => by
                  obtain ⟨h1, _, h2⟩ := HP5.out _ q hq
                  have h3 := h2.1 r hrm (hrk.trans h1.symm)
                  have h4 := good_rec.neg q r
                  unfold lessR
                  rw [decide_eq_false]
                  omega)
                clear hf hrk
                go_wp2_with fail
                refine hPk.mono ?_
                rintro e w6 ⟨rfl, k6⟩
                have K7 := kept_alloc k6 (.cells #[.string r.key, .int .u64 r.s.p, .int .u32 r.s.l, .int .u8 r.s.n, .int .u8 r.kind, .int .u32 r.flags, .int .u64 r.exp, .string r.body] 42)
                have A7 := at_new w6 #[.string r.key, .int .u64 r.s.p, .int .u32 r.s.l, .int .u8 r.s.n, .int .u8 r.kind, .int .u32 r.flags, .int .u64 r.exp, .string r.body] 42
                obtain ⟨w7, hw7⟩ : ∃ w7, w6.alloc (.cells #[.string r.key, .int .u64 r.s.p, .int .u32 r.s.l, .int .u8 r.s.n, .int .u8 r.kind, .int .u32 r.flags, .int .u64 r.exp, .string r.body] 42) = w7 := ⟨_, rfl⟩
                obtain ⟨Yr, hYr⟩ : ∃ Yr, w6.heap.size = Yr := ⟨_, rfl⟩
                rw [hw7] at K7 A7
                rw [hYr] at A7
                have HK7 := hid (kept_trans HK5.out K7)
                have HS7 := hid (st_kept HS5.out K7)
                have HH7 := hid (had_kept HH5.out K7)
                have HA7 := hid (at_kept HA5.out K7)
                have HR7 := hid A7
                clear k6 hPk d0 d1 d2 d3 d4 d5 d6 d7 d8 d9 HS5 HK5 HA5 HH5 K7 A7
                obtain ⟨d0, d1, d2, d3, d4, d5, d6, d7, d8, d9⟩ := at_cells10 HA7.out
                have hlook := had_look HH7.out x.r.key hkm
                cases hg : g x.r.key with
                | none =>
                  obtain ⟨z, hzz⟩ : ∃ z, (g x.r.key).getD zeroR = z := ⟨_, rfl⟩
                  rw [hzz, hg] at hlook
                  have hlook2 : (Instr.lookup 63 (.map (some mb)) (.string x.r.key) true).run Tryz.prog w7 = .ok (.tuple #[.agg #[.string z.key, .int .u64 z.s.p, .int .u32 z.s.l, .int .u8 z.s.n, .int .u8 z.kind, .int .u32 z.flags, .int .u64 z.exp, .string z.body], .bool false]) w7 := hlook
                  clear hlook hzz
                  have K8 := kept_alloc (kept_refl w7) (.cells #[.string z.key, .int .u64 z.s.p, .int .u32 z.s.l, .int .u8 z.s.n, .int .u8 z.kind, .int .u32 z.flags, .int .u64 z.exp, .string z.body] 42)
                  have A8 := at_new w7 #[.string z.key, .int .u64 z.s.p, .int .u32 z.s.l, .int .u8 z.s.n, .int .u8 z.kind, .int .u32 z.flags, .int .u64 z.exp, .string z.body] 42
                  obtain ⟨w8, hw8⟩ : ∃ w8, w7.alloc (.cells #[.string z.key, .int .u64 z.s.p, .int .u32 z.s.l, .int .u8 z.s.n, .int .u8 z.kind, .int .u32 z.flags, .int .u64 z.exp, .string z.body] 42) = w8 := ⟨_, rfl⟩
                  obtain ⟨Yz, hYz⟩ : ∃ Yz, w7.heap.size = Yz := ⟨_, rfl⟩
                  rw [hw8] at K8 A8
                  rw [hYz] at A8
                  have HK8 := hid (kept_trans HK7.out K8)
                  have HS8 := hid (st_kept HS7.out K8)
                  have HH8 := hid (had_kept HH7.out K8)
                  have HA8 := hid (at_kept HA7.out K8)
                  have HR8 := hid (at_kept HR7.out K8)
                  have HZ8 := hid A8
                  clear HK7 HS7 HH7 HA7 HR7 K8 A8
                  obtain ⟨w9, hw9⟩ : ∃ w9, w8 = w9 := ⟨_, rfl⟩
                  have HK9 := HK8
                  have HS9 := HS8
                  have HH9 := HH8
                  have HA9 := HA8
                  have HR9 := HR8
                  subst hw9
                  clear HK8 HS8 HH8 HA8 HR8 HZ8
                  obtain ⟨r0, r1, r2, r3, r4, r5, r6, r7⟩ := at_cells8' HR9.out
                  obtain ⟨m0, m1, m2, m3, m4, m5, m6, m7, m8, m9⟩ := at_cells10 HA9.out
                  obtain ⟨w10, hup, ⟨cc2, hcc2, hh10⟩, tm⟩ := had_put HH9.out (by omega) x.r.key hkm r
                  have HH10 := hid hh10
                  have HS10 := hid (st_tn HS9.out (tn_map tm) (fun k hk e => HnM5.out (by rw [← e]; exact hk)))
                  have HK10 := hid (kept_tn HK9.out (fun k hk => by rw [hk]; exact HMb.out) (tn_map tm))
                  clear hh10 tm HH9 HS9 HK9 HA9 HR9
                  go_wp2_with fail
                  go_roundw
                  case rel => exact ⟨j + 1, t2, F5, s5, updG g x.r.key r, cc2, by omega, by go_num, rfl, htn, hcnt5, by omega, HS10, HF5, HnM5, HK10, HH10, HPn, HFit5⟩
                  case measure => simp [intOf]; omega
                | some q =>
                  obtain ⟨z, hzz⟩ : ∃ z, (g x.r.key).getD zeroR = z := ⟨_, rfl⟩
                  rw [hzz, hg] at hlook
                  have hlf := HLs.out q hg
                  have hzq : z = q := by rw [← hzz, hg]; rfl
                  subst hzq
                  have hzb : z.body.size ≤ maxLen := HBb.out _ z hg
                  have hlook2 : (Instr.lookup 63 (.map (some mb)) (.string x.r.key) true).run Tryz.prog w7 = .ok (.tuple #[.agg #[.string z.key, .int .u64 z.s.p, .int .u32 z.s.l, .int .u8 z.s.n, .int .u8 z.kind, .int .u32 z.flags, .int .u64 z.exp, .string z.body], .bool true]) w7 := hlook
                  clear hlook hzz
                  have K8 := kept_alloc (kept_refl w7) (.cells #[.string z.key, .int .u64 z.s.p, .int .u32 z.s.l, .int .u8 z.s.n, .int .u8 z.kind, .int .u32 z.flags, .int .u64 z.exp, .string z.body] 42)
                  have A8 := at_new w7 #[.string z.key, .int .u64 z.s.p, .int .u32 z.s.l, .int .u8 z.s.n, .int .u8 z.kind, .int .u32 z.flags, .int .u64 z.exp, .string z.body] 42
                  obtain ⟨w8, hw8⟩ : ∃ w8, w7.alloc (.cells #[.string z.key, .int .u64 z.s.p, .int .u32 z.s.l, .int .u8 z.s.n, .int .u8 z.kind, .int .u32 z.flags, .int .u64 z.exp, .string z.body] 42) = w8 := ⟨_, rfl⟩
                  obtain ⟨Yz, hYz⟩ : ∃ Yz, w7.heap.size = Yz := ⟨_, rfl⟩
                  rw [hw8] at K8 A8
                  rw [hYz] at A8
                  have HK8 := hid (kept_trans HK7.out K8)
                  have HS8 := hid (st_kept HS7.out K8)
                  have HH8 := hid (had_kept HH7.out K8)
                  have HA8 := hid (at_kept HA7.out K8)
                  have HR8 := hid (at_kept HR7.out K8)
                  have HZ8 := hid A8
                  clear HK7 HS7 HH7 HA7 HR7 K8 A8
                  obtain ⟨r0, r1, r2, r3, r4, r5, r6, r7⟩ := at_cells8' HR8.out
                  obtain ⟨z0, z1, z2, z3, z4, z5, z6, z7⟩ := at_cells8' HZ8.out
                  have hless := refLess_any r z hrb hzb w8
                  rw [hlf] at hless
                  go_wp2_with fail
                  refine hless.mono ?_
                  rintro e w9 ⟨rfl, k9⟩
                  have HK9 := hid (kept_trans HK8.out k9)
                  have HS9 := hid (st_kept HS8.out k9)
                  have HH9 := hid (had_kept HH8.out k9)
                  have HA9 := hid (at_kept HA8.out k9)
                  have HR9 := hid (at_kept HR8.out k9)
                  clear k9 hless HK8 HS8 HH8 HA8 HR8 HZ8 r0 r1 r2 r3 r4 r5 r6 r7 z0 z1 z2 z3 z4 z5 z6 z7 d0 d1 d2 d3 d4 d5 d6 d7 d8 d9 hw7 hw8 hlook2
                  obtain ⟨r0, r1, r2, r3, r4, r5, r6, r7⟩ := at_cells8' HR9.out
                  obtain ⟨d0, d1, d2, d3, d4, d5, d6, d7, d8, d9⟩ := at_cells10 HA9.out
                  obtain ⟨w10, hup, ⟨cc2, hcc2, hh10⟩, tm⟩ := had_put HH9.out (by omega) x.r.key hkm r
                  have HH10 := hid hh10
                  have HS10 := hid (st_tn HS9.out (tn_map tm) (fun k hk e => HnM5.out (by rw [← e]; exact hk)))
                  have HK10 := hid (kept_tn HK9.out (fun k hk => by rw [hk]; exact HMb.out) (tn_map tm))
                  clear hh10 tm HH9 HS9 HK9 HA9 HR9
                  go_wp2_with fail
                  go_roundw
                  case rel => exact ⟨j + 1, t2, F5, s5, updG g x.r.key r, cc2, by omega, by go_num, rfl, htn, hcnt5, by omega, HS10, HF5, HnM5, HK10, HH10, HPn, HFit5⟩
                  case measure => simp [intOf]; omega
            · have f2 : (x.kind == 2) = false := by simpa using e2
              clear e0 e1 e2
              have hPur := purge_any hc (t2 : Int) (by omega) w4 HS4.out
              have HFit5 := hid (fit_purge HFit.out (t2 : Int))
              have HP5 : Hid (∀ k q, g k = some q → q.key = k ∧ q.body.size ≤ maxLen ∧ Past c (purgeS c s (t2 : Int)) (t2 : Int) q) := hid (fun k q hq => ⟨(HP.out k q hq).1, (HP.out k q hq).2.1, past_purge (past_now (HP.out k q hq).2.2 (by omega))⟩)
              have HCnt := hid (purge_count c s (t2 : Int))
              go_wp2_with fail
              refine hPur.mono ?_
              rintro e w5 ⟨rfl, t5', h5⟩
              have t5 := Whl.stp_tn t5'
              obtain ⟨F5, hF5⟩ : ∃ F5, F = F5 := ⟨_, rfl⟩
              have h5' := h5
              have t5'' : Whl.Stp F F5 w4 w5 := by rw [← hF5]; exact t5
              rw [hF5] at h5'
              clear t5 h5 t5'
              have t5 := t5''
              have h5 := h5'
              clear t5'' h5' hF5
              generalize purgeS c s (t2 : Int) = s5 at *
              have hcnt5 : s5.ev + s5.L.length ≤ j + 1 := by have := HCnt.out; omega
              clear hPur HCnt HP HFit
              have HS5 := hid h5
              have HK5 := hid (kept_tn HK4.out HF.out t5.1)
              have HF5 := hid (stp_low t5 HF.out HK4.out)
              have HnM5 : Hid (¬ F5 mb) := hid (fun hf => by
                rcases t5.2 mb hf with z | z
                · exact HnM.out z
                · have := had_lt HH4.out; omega)
              have HH5 := hid (had_tn HH4.out t5.1 HnM.out)
              have HA5 := hid (at_tn HA4.out t5.1 HnF.out)
              clear t5 h5 HS4 HK4 HA4 HF HnM HH4 d0 d1 d2 d3 d4 d5 d6 d7 d8 d9
              obtain ⟨d0, d1, d2, d3, d4, d5, d6, d7, d8, d9⟩ := at_cells10 HA5.out
              have hPk := peek_any hc x.r.key (by omega) w5 HS5.out
              cases hf : findK s5.L x.r.key with
              | none =>
                obtain ⟨pz, hpz⟩ : ∃ pz, pk s5 x.r.key = pz := ⟨_, rfl⟩
                rw [hf, hpz] at hPk
                clear hpz
                have HFn := hid hf
                clear hf
                go_wp2_with fail
                refine hPk.mono ?_
                rintro e w6 ⟨rfl, k6⟩
                have HK6 := hid (kept_alloc (kept_trans HK5.out k6) (.cells #[.string pz.key, .int .u64 pz.s.p, .int .u32 pz.s.l, .int .u8 pz.s.n, .int .u8 pz.kind, .int .u32 pz.flags, .int .u64 pz.exp, .string pz.body] 42))
                have HS6 := hid (st_kept HS5.out (kept_alloc k6 (.cells #[.string pz.key, .int .u64 pz.s.p, .int .u32 pz.s.l, .int .u8 pz.s.n, .int .u8 pz.kind, .int .u32 pz.flags, .int .u64 pz.exp, .string pz.body] 42)))
                have HH6 := hid (had_kept HH5.out (kept_alloc k6 (.cells #[.string pz.key, .int .u64 pz.s.p, .int .u32 pz.s.l, .int .u8 pz.s.n, .int .u8 pz.kind, .int .u32 pz.flags, .int .u64 pz.exp, .string pz.body] 42)))
                clear k6 hPk d0 d1 d2 d3 d4 d5 d6 d7 d8 d9 HS5 HK5 HA5 HH5
                go_wp2_with fail
                go_roundw
                case rel => exact ⟨j + 1, t2, F5, s5, g, cc, by omega, by go_num, rfl, htn, hcnt5, by omega, HS6, HF5, HnM5, HK6, HH6, HP5, HFit5⟩
                case measure => simp [intOf]; omega
              | some r =>
                have hpz : pk s5 x.r.key = r := by unfold pk; rw [hf]; rfl
                rw [hf, hpz] at hPk
                obtain ⟨hrm, hrk⟩ := find_some hf
                have hrb : r.body.size ≤ maxLen := (HFit5.out.ok r hrm).2.2.2.2.2
                have HPn : Hid (∀ k q, updG g x.r.key r k = some q → q.key = k ∧ q.body.size ≤ maxLen ∧ Past c s5 (t2 : Int) q) := hid (fun k q hq => by
                  unfold updG at hq
                  by_cases e : k = x.r.key
                  · rw [if_pos e] at hq
                    injection hq with hq
                    rw [← hq]
                    exact ⟨hrk.trans e.symm, hrb, past_here HFit5.out.keys hrm⟩
                  · rw [if_neg e] at hq
                    exact HP5.out k q hq)
                have hnk := bytes_eq hrk
                clear hpz
                have HLs : Hid (∀ q, g x.r.key = some q → lessR r q = false) := hid (fun q hq => by
                  obtain ⟨h1, _, h2⟩ := HP5.out _ q hq
                  have h3 := h2.1 r hrm (hrk.trans h1.symm)
                  have h4 := good_rec.neg q r
                  unfold lessR
                  rw [decide_eq_false]
                  omega)
                clear hf hrk
                go_wp2_with fail
                refine hPk.mono ?_
                rintro e w6 ⟨rfl, k6⟩
                have K7 := kept_alloc k6 (.cells #[.string r.key, .int .u64 r.s.p, .int .u32 r.s.l, .int .u8 r.s.n, .int .u8 r.kind, .int .u32 r.flags, .int .u64 r.exp, .string r.body] 42)
                have A7 := at_new w6 #[.string r.key, .int .u64 r.s.p, .int .u32 r.s.l, .int .u8 r.s.n, .int .u8 r.kind, .int .u32 r.flags, .int .u64 r.exp, .string r.body] 42
                obtain ⟨w7, hw7⟩ : ∃ w7, w6.alloc (.cells #[.string r.key, .int .u64 r.s.p, .int .u32 r.s.l, .int .u8 r.s.n, .int .u8 r.kind, .int .u32 r.flags, .int .u64 r.exp, .string r.body] 42) = w7 := ⟨_, rfl⟩
                obtain ⟨Yr, hYr⟩ : ∃ Yr, w6.heap.size = Yr := ⟨_, rfl⟩
                rw [hw7] at K7 A7
                rw [hYr] at A7
                have HK7 := hid (kept_trans HK5.out K7)
                have HS7 := hid (st_kept HS5.out K7)
                have HH7 := hid (had_kept HH5.out K7)
                have HA7 := hid (at_kept HA5.out K7)
                have HR7 := hid A7
                clear k6 hPk d0 d1 d2 d3 d4 d5 d6 d7 d8 d9 HS5 HK5 HA5 HH5 K7 A7
                obtain ⟨d0, d1, d2, d3, d4, d5, d6, d7, d8, d9⟩ := at_cells10 HA7.out
                have hlook := had_look HH7.out x.r.key hkm
                cases hg : g x.r.key with
                | none =>
                  obtain ⟨z, hzz⟩ : ∃ z, (g x.r.key).getD zeroR = z := ⟨_, rfl⟩
                  rw [hzz, hg] at hlook
                  have hlook2 : (Instr.lookup 63 (.map (some mb)) (.string x.r.key) true).run Tryz.prog w7 = .ok (.tuple #[.agg #[.string z.key, .int .u64 z.s.p, .int .u32 z.s.l, .int .u8 z.s.n, .int .u8 z.kind, .int .u32 z.flags, .int .u64 z.exp, .string z.body], .bool false]) w7 := hlook
                  clear hlook hzz
                  have K8 := kept_alloc (kept_refl w7) (.cells #[.string z.key, .int .u64 z.s.p, .int .u32 z.s.l, .int .u8 z.s.n, .int .u8 z.kind, .int .u32 z.flags, .int .u64 z.exp, .string z.body] 42)
                  have A8 := at_new w7 #[.string z.key, .int .u64 z.s.p, .int .u32 z.s.l, .int .u8 z.s.n, .int .u8 z.kind, .int .u32 z.flags, .int .u64 z.exp, .string z.body] 42
                  obtain ⟨w8, hw8⟩ : ∃ w8, w7.alloc (.cells #[.string z.key, .int .u64 z.s.p, .int .u32 z.s.l, .int .u8 z.s.n, .int .u8 z.kind, .int .u32 z.flags, .int .u64 z.exp, .string z.body] 42) = w8 := ⟨_, rfl⟩
                  obtain ⟨Yz, hYz⟩ : ∃ Yz, w7.heap.size = Yz := ⟨_, rfl⟩
                  rw [hw8] at K8 A8
                  rw [hYz] at A8
                  have HK8 := hid (kept_trans HK7.out K8)
                  have HS8 := hid (st_kept HS7.out K8)
                  have HH8 := hid (had_kept HH7.out K8)
                  have HA8 := hid (at_kept HA7.out K8)
                  have HR8 := hid (at_kept HR7.out K8)
                  have HZ8 := hid A8
                  clear HK7 HS7 HH7 HA7 HR7 K8 A8
                  obtain ⟨w9, hw9⟩ : ∃ w9, w8 = w9 := ⟨_, rfl⟩
                  have HK9 := HK8
                  have HS9 := HS8
                  have HH9 := HH8
                  have HA9 := HA8
                  have HR9 := HR8
                  subst hw9
                  clear HK8 HS8 HH8 HA8 HR8 HZ8
                  obtain ⟨r0, r1, r2, r3, r4, r5, r6, r7⟩ := at_cells8' HR9.out
                  obtain ⟨m0, m1, m2, m3, m4, m5, m6, m7, m8, m9⟩ := at_cells10 HA9.out
                  obtain ⟨w10, hup, ⟨cc2, hcc2, hh10⟩, tm⟩ := had_put HH9.out (by omega) x.r.key hkm r
                  have HH10 := hid hh10
                  have HS10 := hid (st_tn HS9.out (tn_map tm) (fun k hk e => HnM5.out (by rw [← e]; exact hk)))
                  have HK10 := hid (kept_tn HK9.out (fun k hk => by rw [hk]; exact HMb.out) (tn_map tm))
                  clear hh10 tm HH9 HS9 HK9 HA9 HR9
                  go_wp2_with fail
                  go_roundw
                  case rel => exact ⟨j + 1, t2, F5, s5, updG g x.r.key r, cc2, by omega, by go_num, rfl, htn, hcnt5, by omega, HS10, HF5, HnM5, HK10, HH10, HPn, HFit5⟩
                  case measure => simp [intOf]; omega
                | some q =>
                  obtain ⟨z, hzz⟩ : ∃ z, (g x.r.key).getD zeroR = z := ⟨_, rfl⟩
                  rw [hzz, hg] at hlook
                  have hlf := HLs.out q hg
                  have hzq : z = q := by rw [← hzz, hg]; rfl
                  subst hzq
                  have hzb : z.body.size ≤ maxLen := HBb.out _ z hg
                  have hlook2 : (Instr.lookup 63 (.map (some mb)) (.string x.r.key) true).run Tryz.prog w7 = .ok (.tuple #[.agg #[.string z.key, .int .u64 z.s.p, .int .u32 z.s.l, .int .u8 z.s.n, .int .u8 z.kind, .int .u32 z.flags, .int .u64 z.exp, .string z.body], .bool true]) w7 := hlook
                  clear hlook hzz
                  have K8 := kept_alloc (kept_refl w7) (.cells #[.string z.key, .int .u64 z.s.p, .int .u32 z.s.l, .int .u8 z.s.n, .int .u8 z.kind, .int .u32 z.flags, .int .u64 z.exp, .string z.body] 42)
                  have A8 := at_new w7 #[.string z.key, .int .u64 z.s.p, .int .u32 z.s.l, .int .u8 z.s.n, .int .u8 z.kind, .int .u32 z.flags, .int .u64 z.exp, .string z.body] 42
                  obtain ⟨w8, hw8⟩ : ∃ w8, w7.alloc (.cells #[.string z.key, .int .u64 z.s.p, .int .u32 z.s.l, .int .u8 z.s.n, .int .u8 z.kind, .int .u32 z.flags, .int .u64 z.exp, .string z.body] 42) = w8 := ⟨_, rfl⟩
                  obtain ⟨Yz, hYz⟩ : ∃ Yz, w7.heap.size = Yz := ⟨_, rfl⟩
                  rw [hw8] at K8 A8
                  rw [hYz] at A8
                  have HK8 := hid (kept_trans HK7.out K8)
                  have HS8 := hid (st_kept HS7.out K8)
                  have HH8 := hid (had_kept HH7.out K8)
                  have HA8 := hid (at_kept HA7.out K8)
                  have HR8 := hid (at_kept HR7.out K8)
                  have HZ8 := hid A8
                  clear HK7 HS7 HH7 HA7 HR7 K8 A8
                  obtain ⟨r0, r1, r2, r3, r4, r5, r6, r7⟩ := at_cells8' HR8.out
                  obtain ⟨z0, z1, z2, z3, z4, z5, z6, z7⟩ := at_cells8' HZ8.out
                  have hless := refLess_any r z hrb hzb w8
                  rw [hlf] at hless
                  go_wp2_with fail
                  refine hless.mono ?_
                  rintro e w9 ⟨rfl, k9⟩
                  have HK9 := hid (kept_trans HK8.out k9)
                  have HS9 := hid (st_kept HS8.out k9)
                  have HH9 := hid (had_kept HH8.out k9)
                  have HA9 := hid (at_kept HA8.out k9)
                  have HR9 := hid (at_kept HR8.out k9)
                  clear k9 hless HK8 HS8 HH8 HA8 HR8 HZ8 r0 r1 r2 r3 r4 r5 r6 r7 z0 z1 z2 z3 z4 z5 z6 z7 d0 d1 d2 d3 d4 d5 d6 d7 d8 d9 hw7 hw8 hlook2
                  obtain ⟨r0, r1, r2, r3, r4, r5, r6, r7⟩ := at_cells8' HR9.out
                  obtain ⟨d0, d1, d2, d3, d4, d5, d6, d7, d8, d9⟩ := at_cells10 HA9.out
                  obtain ⟨w10, hup, ⟨cc2, hcc2, hh10⟩, tm⟩ := had_put HH9.out (by omega) x.r.key hkm r
                  have HH10 := hid hh10
                  have HS10 := hid (st_tn HS9.out (tn_map tm) (fun k hk e => HnM5.out (by rw [← e]; exact hk)))
                  have HK10 := hid (kept_tn HK9.out (fun k hk => by rw [hk]; exact HMb.out) (tn_map tm))
                  clear hh10 tm HH9 HS9 HK9 HA9 HR9
                  go_wp2_with fail
                  go_roundw
                  case rel => exact ⟨j + 1, t2, F5, s5, updG g x.r.key r, cc2, by omega, by go_num, rfl, htn, hcnt5, by omega, HS10, HF5, HnM5, HK10, HH10, HPn, HFit5⟩
                  case measure => simp [intOf]; omega
      · go_wp2_with fail
        go_ret
        exact ⟨rfl, kept_trans HK0.out HK.out⟩
  · clear wn wb wk
    go_enter Tryz.func4, Tryz.ntmps4
    go_wp2_with fail
    refine (snew_bad cn cb ck hcm _).mono ?_
    rintro e w1 ⟨rfl, rfl⟩
    go_wp2_with fail
    refine (fixed_any _).mono ?_
    rintro e w2 ⟨rfl, k2⟩
    go_wp2_with fail
    go_ret
    exact ⟨rfl, kept_trans HK0.out k2⟩
end Go.Proofs.YthgbdaladngpdaaGreat
