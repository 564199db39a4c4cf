/- The law that whoever only peeks changes nothing, walked: it answers true and turns nothing that was there. -/
import Derived.Test.YthgbdaladngpdaaGreatM20
import Derived.Test.YthgbdaladngpdaaGreatMLawBounded
namespace Go.Proofs.YthgbdaladngpdaaGreat
open Go.ChangeShapes Go.WideShapes Go.ChangeAt Go.RowKit
open Go.Proofs.YthgbdaladngpdaaGreat.Whl (Tn tn_kept tn_refl tn_trans tn_set tn_alloc at_tn kept_tn It)
set_option linter.unusedVariables false
set_option linter.unusedSimpArgs false
set_option maxRecDepth 100000

theorem at_cells10 {w : World} {X T : Nat} {a0 a1 a2 a3 a4 a5 a6 a7 a8 a9 : Value} (h : At w X #[a0, a1, a2, a3, a4, a5, a6, a7, a8, a9] T) : w.cell? ⟨X, 0, none⟩ = some a0 ∧ w.cell? ⟨X, 1, none⟩ = some a1 ∧ w.cell? ⟨X, 2, none⟩ = some a2 ∧ w.cell? ⟨X, 3, none⟩ = some a3 ∧ w.cell? ⟨X, 4, none⟩ = some a4 ∧ w.cell? ⟨X, 5, none⟩ = some a5 ∧ w.cell? ⟨X, 6, none⟩ = some a6 ∧ w.cell? ⟨X, 7, none⟩ = some a7 ∧ w.cell? ⟨X, 8, none⟩ = some a8 ∧ w.cell? ⟨X, 9, none⟩ = some a9 :=
  ⟨at_cell h 0, at_cell h 1, at_cell h 2, at_cell h 3, at_cell h 4, at_cell h 5, at_cell h 6, at_cell h 7, at_cell h 8, at_cell h 9⟩
theorem two_put {F F' G : Nat → Prop} {w w' : World} (h : ∀ k, F k → ¬ G k) (t : Whl.Stp F F' w w') (hG : ∀ k, G k → k < w.heap.size) : ∀ k, F' k → ¬ G k := fun k hk hg => by
  rcases t.2 k hk with z | z
  · exact h k z hg
  · have := hG k hg; omega
theorem two_put2 {F G G' : Nat → Prop} {w w' : World} (h : ∀ k, F k → ¬ G k) (t : Whl.Stp G G' w w') (hF : ∀ k, F k → k < w.heap.size) : ∀ k, F k → ¬ G' k := fun k hk hg => by
  rcases t.2 k hg with z | z
  · exact h k hk z
  · have := hF k hk; omega
theorem rowx_kept {w w' : World} {oa : Option Addr} {len b o : Nat} {S : Nat → ByteArray} (h : RowX w oa len b o S) (k : Kept w w') : RowX w' oa len b o S :=
  ⟨h.1, fun hl => ⟨(h.2.1 hl).1, Nat.lt_of_lt_of_le (h.2.1 hl).2 k.2⟩, fun i hi => ⟨(h.2.2 i hi).1, (kept_cell k (h.2.1 (by omega)).2).trans (h.2.2 i hi).2⟩⟩
theorem eq_stampS (a : Stp) (w : World) : (Op.equalIn 10000 33 (.agg #[.int .u64 a.p, .int .u32 a.l, .int .u8 a.n]) (.agg #[.int .u64 a.p, .int .u32 a.l, .int .u8 a.n])).run Tryz.prog w = .ok true w := by
  have := eq_stamp a a w
  have e : same a a = true := by unfold same; simp
  rw [e] at this
  exact this
set_option maxHeartbeats 6400000 in
theorem peeks_walk (cn cb ck : Int) (oa : Option Addr) (len cap b o : Nat) (S : Nat → Opx) (ob : Option Addr) (lk capk bk okk : Nat) (Kk : Nat → ByteArray) (w : World) (wn : (Lit.int .i64 cn).wf = true) (wb : (Lit.int .i64 cb).wf = true) (wk : (Lit.int .i64 ck).wf = true) (hr : RowO w oa len cap b o S) (hx : RowX w ob lk bk okk Kk) :
    Calls Tryz.prog 8 #[.agg #[.int .i64 cn, .int .i64 cb, .int .i64 ck], .slice oa len cap, .slice ob lk capk] w fun e w' => e = .returned (.bool true) ∧ Kept w w' := by
  have hz := zero44
  have hz2 := zero27
  have hz3 := zero33
  have K0 := kept_alloc (kept_refl w) (.cells #[.int .i64 cn, .int .i64 cb, .int .i64 ck] 23)
  have A0 := at_new w #[.int .i64 cn, .int .i64 cb, .int .i64 ck] 23
  obtain ⟨w0, hw0⟩ : ∃ w0, w.alloc (.cells #[.int .i64 cn, .int .i64 cb, .int .i64 ck] 23) = w0 := ⟨_, rfl⟩
  obtain ⟨Z, hZ⟩ : ∃ Z, w.heap.size = Z := ⟨_, rfl⟩
  rw [hw0] at K0 A0
  rw [hZ] at A0
  have HK0 := hid K0
  have HA0 := hid A0
  have HR0 := hid (rowo_kept hr K0)
  have HX0 := hid (rowx_kept hx K0)
  have hlk := hx.1
  unfold maxLen at hlk
  obtain ⟨a0, a1, a2, _⟩ := at_cells3 A0
  clear K0 A0 hr hx
  by_cases hcm : confMay cn cb ck
  · obtain ⟨c, hc, rfl, rfl, rfl⟩ := conf_nat hcm
    clear hcm wn wb wk
    go_enter Tryz.func8, Tryz.ntmps8
    go_wp2_with fail
    refine (snew_any c hc _).mono ?_
    rintro e w1 ⟨X, F, rfl, k1, hF, h1⟩
    have HF1 := hid hF
    have HK1 := hid k1
    have HS1 := hid h1
    clear k1 hF h1 a0 a1 a2 hw0
    obtain ⟨a0, a1, a2, _⟩ := at_cells3 (at_kept HA0.out HK1.out)
    go_wp2_with fail
    refine (snew_any c hc _).mono ?_
    rintro e w1b ⟨X2, G, rfl, k1b, hG, h1b⟩
    have HG1 : Hid (∀ k, G k → w0.heap.size ≤ k) := hid (fun k hk => Nat.le_trans HK1.out.2 (hG k hk))
    have HD1 : Hid (∀ k, F k → ¬ G k) := hid (fun k hf hg => by have := st_low HS1.out k hf; have := hG k hg; omega)
    have HK1b := hid (kept_trans HK1.out k1b)
    have HS1b := hid (st_kept HS1.out k1b)
    have HT1b := hid h1b
    clear k1b hG h1b HK1 HS1 a0 a1 a2
    go_wp2_with fail
    refine (fixed_any _).mono ?_
    rintro e w2 ⟨rfl, k2⟩
    have HK2 := hid (kept_trans HK1b.out k2)
    have HS2 := hid (st_kept HS1b.out k2)
    have HT2 := hid (st_kept HT1b.out k2)
    clear k2 HK1b HS1b HT1b
    go_wp2_with fail
    refine (cut_any oa len cap b o S _ (rowo_kept HR0.out HK2.out)).mono ?_
    rintro e w3 ⟨n, rfl, hn1, hn2, hn3, k3⟩
    have HK3 := hid (kept_trans HK2.out k3)
    have HS3 := hid (st_kept HS2.out k3)
    have HT3 := hid (st_kept HT2.out k3)
    have HR := hid (rowo_less HR0.out hn1)
    have HN := hid hn3
    clear k3 HK2 HS2 HT2 HR0 hn1 hn3
    go_wp2_with fail
    go_loopw [11, 12, 57] (fun t _ i wr => ∃ (j : Nat) (tn : Nat) (F G : Nat → Prop) (s : MS), j ≤ n ∧ i = .int .i64 (j : Int) ∧ t = .int .u64 (tn : Int) ∧ tn ≤ j * 255 ∧ s.ev + s.L.length ≤ j ∧ Hid (St wr F X c s) ∧ Hid (St wr G X2 c s) ∧ Hid (∀ k, F k → w0.heap.size ≤ k) ∧ Hid (∀ k, G k → w0.heap.size ≤ k) ∧ Hid (∀ k, F k → ¬ G k) ∧ Hid (Kept w0 wr) ∧ Hid (Fit c s)) (fun _ _ i _ => n - (intOf i).toNat)
    case atStart => exact ⟨0, 0, F, G, MS0, Nat.zero_le _, rfl, rfl, by omega, by simp [MS0], HS3, HT3, HF1, HG1, HD1, HK3, hid fit_new⟩
    case round =>
      clear HS3 HT3 HF1 HG1 HD1 HK3
      obtain ⟨j, tn, F, G, s, hj, rfl, rfl, ht, hcnt, HS, HT, HF, HG, HD, HK, HFit⟩ := hrel
      by_cases hlt : j < n
      · obtain ⟨rfl, hb⟩ := HR.out.2.2.2.1 (by omega)
        obtain ⟨xok, c0, c1, c2, c3, c4, c5, c6, c7, c8, c9⟩ := (rowo_kept HR.out HK.out).2.2.2.2 j hlt
        have hxs := HN.out j hlt
        obtain ⟨x, hx⟩ : ∃ x, S j = x := ⟨_, rfl⟩
        rw [hx] at xok c0 c1 c2 c3 c4 c5 c6 c7 c8 c9 hxs
        have hp0 := xok.2.2.1
        have hp1 := xok.2.2.2
        obtain ⟨pn, hpn⟩ : ∃ pn : Nat, x.pass = (pn : Int) := ⟨x.pass.toNat, by omega⟩
        have HXok := hid xok.2.1
        clear xok hx
        rw [hpn] at c9 hp0 hp1
        have K4 := kept_alloc (kept_refl wr) (.cells #[.int .i64 x.kind, .string x.r.key, .int .u64 x.r.s.p, .int .u32 x.r.s.l, .int .u8 x.r.s.n, .int .u8 x.r.kind, .int .u32 x.r.flags, .int .u64 x.r.exp, .string x.r.body, .int .u8 (pn : Int)] 44)
        obtain ⟨w4, hw4⟩ : ∃ w4, wr.alloc (.cells #[.int .i64 x.kind, .string x.r.key, .int .u64 x.r.s.p, .int .u32 x.r.s.l, .int .u8 x.r.s.n, .int .u8 x.r.kind, .int .u32 x.r.flags, .int .u64 x.r.exp, .string x.r.body, .int .u8 (pn : Int)] 44) = w4 := ⟨_, rfl⟩
        have A4 := at_new wr #[.int .i64 x.kind, .string x.r.key, .int .u64 x.r.s.p, .int .u32 x.r.s.l, .int .u8 x.r.s.n, .int .u8 x.r.kind, .int .u32 x.r.flags, .int .u64 x.r.exp, .string x.r.body, .int .u8 (pn : Int)] 44
        obtain ⟨Y, hY⟩ : ∃ Y, wr.heap.size = Y := ⟨_, rfl⟩
        have HnF : Hid (¬ F Y) := hid (fun hf => by have := st_low HS.out _ hf; omega)
        have HnG : Hid (¬ G Y) := hid (fun hf => by have := st_low HT.out _ hf; omega)
        rw [hw4] at K4 A4
        rw [hY] at A4
        obtain ⟨d0, d1, d2, d3, d4, d5, d6, d7, d8, d9⟩ := at_cells10 A4
        have HA4 := hid A4
        have HS4 := hid (st_kept HS.out K4)
        have HT4 := hid (st_kept HT.out K4)
        have HK4 := hid (kept_trans HK.out K4)
        obtain ⟨t2, ht2⟩ : ∃ t2, tn + pn = t2 := ⟨_, rfl⟩
        have htt : (tn : Int) + (pn : Int) = (t2 : Int) := by omega
        have HCnt := hid (put_count hc s x.r (t2 : Int))
        have HFp := hid (fit_put (now := (t2 : Int)) hc HFit.out HXok.out)
        have htn : t2 ≤ (j + 1) * 255 := by omega
        have hw2 : IntKind.u64.wrap (t2 : Int) = (t2 : Int) := by rw [IntKind.wrap_u64]; omega
        clear K4 A4 ht2 HS HT HK
        by_cases hjk : j < lk
        · obtain ⟨rfl, hbk⟩ := HX0.out.2.1 (by omega)
          obtain ⟨kks, kc⟩ := (rowx_kept HX0.out HK4.out).2.2 j hjk
          unfold maxLen at kks
          obtain ⟨q, hq⟩ : ∃ q, Kk j = q := ⟨_, rfl⟩
          rw [hq] at kks kc
          have HQk := hid hq
          clear hq
          by_cases hqs : q.size < 1000
          · have hqs2 : (q.size : Int) < 1000 := by omega
            have hP := peek_any hc q (by omega) w4 HS4.out
            have hq3 : q.size ≤ maxLen := by unfold maxLen; omega
            go_wp2_with fail
            refine hP.mono ?_
            rintro e w4b ⟨rfl, k4b⟩
            have HS4b := hid (st_kept HS4.out k4b)
            have HT4b := hid (st_kept HT4.out k4b)
            have HK4b := hid (kept_trans HK4.out k4b)
            have HA4b := hid (at_kept HA4.out k4b)
            clear hP k4b HS4 HT4 HK4 HA4 d0 d1 d2 d3 d4 d5 d6 d7 d8 d9 c0 c1 c2 c3 c4 c5 c6 c7 c8 c9 hw4 kc
            obtain ⟨_, kc⟩ := (rowx_kept HX0.out HK4b.out).2.2 j hjk
            have kc2 : w4b.cell? ⟨bk, okk + j, none⟩ = some (.string q) := by rw [kc, HQk.out]
            clear kc
            go_wp2_with fail
            refine (refrange_any q hq3 _).mono ?_
            rintro e w4c ⟨rfl, rfl⟩
            go_wp2_with fail
            refine (range_st hc _ (by omega) _ HS4b.out).mono ?_
            rintro e w4d ⟨v, rfl, k4d, -⟩
            have HS4 := hid (st_kept HS4b.out k4d)
            have HT4 := hid (st_kept HT4b.out k4d)
            have HK4 := hid (kept_trans HK4b.out k4d)
            have HA4 := hid (at_kept HA4b.out k4d)
            clear k4d HS4b HT4b HK4b HA4b kc2
            obtain ⟨d0, d1, d2, d3, d4, d5, d6, d7, d8, d9⟩ := at_cells10 HA4.out
            have hPut := put_any hc x.r hxs.1 hxs.2 HXok.out (t2 : Int) (by omega) (by omega) w4d HS4.out
            go_wp2_with fail
            refine hPut.mono ?_
            rintro e w5 ⟨rfl, F5, t5, h5⟩
            have HS5 := hid h5
            have HT5 := hid (st_tn HT4.out t5.1 (fun k hk hf => HD.out k hf hk))
            have HK5 := hid (kept_tn HK4.out HF.out t5.1)
            have HF5 := hid (stp_low t5 HF.out HK4.out)
            have HD5 : Hid (∀ k, F5 k → ¬ G k) := hid (two_put HD.out t5 (st_low HT4.out))
            have HA5 := hid (at_tn HA4.out t5.1 HnF.out)
            have HnG5 := HnG
            clear t5 h5 HS4 HT4 HK4 HA4 HF HD hPut d0 d1 d2 d3 d4 d5 d6 d7 d8 d9
            obtain ⟨d0, d1, d2, d3, d4, d5, d6, d7, d8, d9⟩ := at_cells10 HA5.out
            have hPut := put_any hc x.r hxs.1 hxs.2 HXok.out (t2 : Int) (by omega) (by omega) w5 HT5.out
            go_wp2_with fail
            refine hPut.mono ?_
            rintro e w6 ⟨rfl, G6, t6, h6⟩
            have HT6 := hid h6
            have HS6 := hid (st_tn HS5.out t6.1 (fun k hk hg => HD5.out k hk hg))
            have HK6 := hid (kept_tn HK5.out HG.out t6.1)
            have HG6 := hid (stp_low t6 HG.out HK5.out)
            have HD6 : Hid (∀ k, F5 k → ¬ G6 k) := hid (two_put2 HD5.out t6 (st_low HS5.out))
            have hcnt6 : (putS c s x.r (t2 : Int)).ev + (putS c s x.r (t2 : Int)).L.length ≤ j + 1 := by have := HCnt.out; omega
            clear t6 h6 HS5 HT5 HK5 HA5 HG HD5 hPut d0 d1 d2 d3 d4 d5 d6 d7 d8 d9 HCnt
            generalize putS c s x.r (t2 : Int) = s6 at *
            go_wp2_with fail
            go_roundw
            case rel => exact ⟨j + 1, t2, F5, G6, s6, by omega, by go_num, rfl, htn, hcnt6, HS6, HT6, HF5, HG6, HD6, HK6, HFp⟩
            case measure => simp [intOf]; omega
          · have hqs2 : ¬ (q.size : Int) < 1000 := by omega
            clear hqs
            clear d0 d1 d2 d3 d4 d5 d6 d7 d8 d9
            obtain ⟨d0, d1, d2, d3, d4, d5, d6, d7, d8, d9⟩ := at_cells10 HA4.out
            have hPut := put_any hc x.r hxs.1 hxs.2 HXok.out (t2 : Int) (by omega) (by omega) w4 HS4.out
            go_wp2_with fail
            refine hPut.mono ?_
            rintro e w5 ⟨rfl, F5, t5, h5⟩
            have HS5 := hid h5
            have HT5 := hid (st_tn HT4.out t5.1 (fun k hk hf => HD.out k hf hk))
            have HK5 := hid (kept_tn HK4.out HF.out t5.1)
            have HF5 := hid (stp_low t5 HF.out HK4.out)
            have HD5 : Hid (∀ k, F5 k → ¬ G k) := hid (two_put HD.out t5 (st_low HT4.out))
            have HA5 := hid (at_tn HA4.out t5.1 HnF.out)
            have HnG5 := HnG
            clear t5 h5 HS4 HT4 HK4 HA4 HF HD hPut d0 d1 d2 d3 d4 d5 d6 d7 d8 d9
            obtain ⟨d0, d1, d2, d3, d4, d5, d6, d7, d8, d9⟩ := at_cells10 HA5.out
            have hPut := put_any hc x.r hxs.1 hxs.2 HXok.out (t2 : Int) (by omega) (by omega) w5 HT5.out
            go_wp2_with fail
            refine hPut.mono ?_
            rintro e w6 ⟨rfl, G6, t6, h6⟩
            have HT6 := hid h6
            have HS6 := hid (st_tn HS5.out t6.1 (fun k hk hg => HD5.out k hk hg))
            have HK6 := hid (kept_tn HK5.out HG.out t6.1)
            have HG6 := hid (stp_low t6 HG.out HK5.out)
            have HD6 : Hid (∀ k, F5 k → ¬ G6 k) := hid (two_put2 HD5.out t6 (st_low HS5.out))
            have hcnt6 : (putS c s x.r (t2 : Int)).ev + (putS c s x.r (t2 : Int)).L.length ≤ j + 1 := by have := HCnt.out; omega
            clear t6 h6 HS5 HT5 HK5 HA5 HG HD5 hPut d0 d1 d2 d3 d4 d5 d6 d7 d8 d9 HCnt
            generalize putS c s x.r (t2 : Int) = s6 at *
            go_wp2_with fail
            go_roundw
            case rel => exact ⟨j + 1, t2, F5, G6, s6, by omega, by go_num, rfl, htn, hcnt6, HS6, HT6, HF5, HG6, HD6, HK6, HFp⟩
            case measure => simp [intOf]; omega
        · have hjk2 : ¬ (j : Int) < (lk : Int) := by omega
          have hjk3 : decide ((j : Int) < (lk : Int)) = false := decide_eq_false hjk2
          have hjk4 : decide (j < lk) = false := decide_eq_false hjk
          clear d0 d1 d2 d3 d4 d5 d6 d7 d8 d9
          obtain ⟨d0, d1, d2, d3, d4, d5, d6, d7, d8, d9⟩ := at_cells10 HA4.out
          have hPut := put_any hc x.r hxs.1 hxs.2 HXok.out (t2 : Int) (by omega) (by omega) w4 HS4.out
          go_wp2_with fail
          refine hPut.mono ?_
          rintro e w5 ⟨rfl, F5, t5, h5⟩
          have HS5 := hid h5
          have HT5 := hid (st_tn HT4.out t5.1 (fun k hk hf => HD.out k hf hk))
          have HK5 := hid (kept_tn HK4.out HF.out t5.1)
          have HF5 := hid (stp_low t5 HF.out HK4.out)
          have HD5 : Hid (∀ k, F5 k → ¬ G k) := hid (two_put HD.out t5 (st_low HT4.out))
          have HA5 := hid (at_tn HA4.out t5.1 HnF.out)
          have HnG5 := HnG
          clear t5 h5 HS4 HT4 HK4 HA4 HF HD hPut d0 d1 d2 d3 d4 d5 d6 d7 d8 d9
          obtain ⟨d0, d1, d2, d3, d4, d5, d6, d7, d8, d9⟩ := at_cells10 HA5.out
          have hPut := put_any hc x.r hxs.1 hxs.2 HXok.out (t2 : Int) (by omega) (by omega) w5 HT5.out
          go_wp2_with fail
          refine hPut.mono ?_
          rintro e w6 ⟨rfl, G6, t6, h6⟩
          have HT6 := hid h6
          have HS6 := hid (st_tn HS5.out t6.1 (fun k hk hg => HD5.out k hk hg))
          have HK6 := hid (kept_tn HK5.out HG.out t6.1)
          have HG6 := hid (stp_low t6 HG.out HK5.out)
          have HD6 : Hid (∀ k, F5 k → ¬ G6 k) := hid (two_put2 HD5.out t6 (st_low HS5.out))
          have hcnt6 : (putS c s x.r (t2 : Int)).ev + (putS c s x.r (t2 : Int)).L.length ≤ j + 1 := by have := HCnt.out; omega
          clear t6 h6 HS5 HT5 HK5 HA5 HG HD5 hPut d0 d1 d2 d3 d4 d5 d6 d7 d8 d9 HCnt
          generalize putS c s x.r (t2 : Int) = s6 at *
          go_wp2_with fail
          go_roundw
          case rel => exact ⟨j + 1, t2, F5, G6, s6, by omega, by go_num, rfl, htn, hcnt6, HS6, HT6, HF5, HG6, HD6, HK6, HFp⟩
          case measure => simp [intOf]; omega
      · clear HX0 HR HN
        have hL5 : s.L.length ≤ 500 := by omega
        obtain ⟨wo, hwo⟩ : ∃ wo, wo = wr := ⟨_, rfl⟩
        rw [← hwo] at HS HT HK
        have HWo := hid hwo
        clear hwo
        go_wp2_with fail
        go_loopw [14, 103] (fun _ i wr2 => ∃ kk : Nat, kk ≤ 64 ∧ i = .int .i64 (kk : Int) ∧ Hid (Kept wo wr2)) (fun _ i _ => 64 - (intOf i).toNat)
        case atStart => exact ⟨0, by omega, rfl, hid (by rw [HWo.out]; exact kept_refl wr)⟩
        case round =>
          clear HWo
          obtain ⟨kk, hkk, rfl, HKk⟩ := hrel
          have HSk := hid (st_kept HS.out HKk.out)
          have HTk := hid (st_kept HT.out HKk.out)
          by_cases hk64 : kk < 64
          · go_wp2_with fail
            refine (range_st hc (kk : Int) hL5 _ HSk.out).mono ?_
            rintro e w6 ⟨v1, rfl, k6, r1⟩
            have HS6 := hid (st_kept HSk.out k6)
            have HT6 := hid (st_kept HTk.out k6)
            have HK6 := hid (kept_trans HKk.out k6)
            have HR6 := hid r1
            clear k6 r1 HSk HTk HKk
            go_wp2_with fail
            refine (range_st hc (kk : Int) hL5 _ HT6.out).mono ?_
            rintro e w7 ⟨v2, rfl, k7, r2⟩
            have hsame := same_any (rangeL (kk : Int) s.L) (by
              have h1 := (range_perm (k := (kk : Int)) HFit.out.keys).length_eq
              have h2 := List.length_filter_le (inR (kk : Int)) s.L
              omega) v1 v2 w7 (rdr_kept HR6.out k7) r2
            have HS7 := hid (st_kept HS6.out k7)
            have HT7 := hid (st_kept HT6.out k7)
            have HK7 := hid (kept_trans HK6.out k7)
            clear k7 r2 HS6 HT6 HK6 HR6
            go_wp2_with fail
            refine hsame.mono ?_
            rintro e w8 ⟨rfl, k8⟩
            have HS8 := hid (st_kept HS7.out k8)
            have HT8 := hid (st_kept HT7.out k8)
            have HK8 := hid (kept_trans HK7.out k8)
            clear k8 HS7 HT7 HK7 hsame
            go_wp2_with fail
            refine (floor_st kk hk64 _ HS8.out).mono ?_
            rintro e w9 ⟨rfl, k9⟩
            have HT9 := hid (st_kept HT8.out k9)
            have HK9 := hid (kept_trans HK8.out k9)
            clear k9 HS8 HT8 HK8
            go_wp2_with fail
            refine (floor_st kk hk64 _ HT9.out).mono ?_
            rintro e w10 ⟨rfl, k10⟩
            have HK10 := hid (kept_trans HK9.out k10)
            have heq := eq_stampS (s.fl kk)
            clear k10 HT9 HK9
            go_wp2_with fail
            go_roundw
            case rel => exact ⟨kk + 1, by omega, by go_num, HK10⟩
            case measure => simp [intOf]; omega
          · go_wp2_with fail
            refine (ev_st _ HSk.out).mono ?_
            rintro e w6 ⟨rfl, rfl⟩
            go_wp2_with fail
            refine (ev_st _ HTk.out).mono ?_
            rintro e w7 ⟨rfl, rfl⟩
            have HKe := hid (kept_trans HK0.out (kept_trans HK.out HKk.out))
            clear HSk HTk HKk
            go_wp2_with fail
            go_ret
            exact ⟨by simp, HKe.out⟩
  · clear wn wb wk
    go_enter Tryz.func8, Tryz.ntmps8
    go_wp2_with fail
    refine (snew_bad cn cb ck hcm _).mono ?_
    rintro e w1 ⟨rfl, rfl⟩
    go_wp2_with fail
    refine (snew_bad cn cb ck hcm _).mono ?_
    rintro e w1 ⟨rfl, rfl⟩
    go_wp2_with fail
    refine (fixed_any _).mono ?_
    rintro e w2 ⟨rfl, k2⟩
    go_wp2_with fail
    go_ret
    exact ⟨rfl, kept_trans HK0.out k2⟩
end Go.Proofs.YthgbdaladngpdaaGreat
