/- The law that a store is bounded, walked: it answers true and turns nothing that was there. -/
import Derived.Test.YthgbdaladngpdaaGreatM20
namespace Go.Proofs.YthgbdaladngpdaaGreat
open Go.ChangeShapes Go.WideShapes Go.ChangeAt Go.RowKit
open Go.Proofs.YthgbdaladngpdaaGreat.Whl (Tn tn_kept tn_refl tn_trans tn_set tn_alloc at_tn kept_tn It)
set_option linter.unusedVariables false
set_option linter.unusedSimpArgs false
set_option maxRecDepth 100000

theorem room_count {c : Cf} {b : Nat} (hc : c.may) (hb : b ≤ c.B) (s : MS) : (room c b s).ev + (room c b s).L.length = s.ev + s.L.length := by
  refine (room_ind (fun q => q.ev + q.L.length = s.ev + s.L.length) (fun L r f e h _ => ?_) hc hb _ s rfl rfl).1
  simp at h ⊢
  omega
theorem put_count {c : Cf} (hc : c.may) (s : MS) (r : R) (now : Int) : (putS c s r now).ev + (putS c s r now).L.length ≤ s.ev + s.L.length + 1 := by
  unfold putS
  split
  · rename_i h
    obtain ⟨_, hb, _⟩ := putK_100 h
    have := room_count hc hb ⟨woK s.L r.key, s.fl, s.ev⟩
    have h2 := wo_len s.L r.key
    unfold newer
    simp at this ⊢
    omega
  · omega
theorem conf_nat {n b k : Int} (h : confMay n b k) : ∃ c : Cf, c.may ∧ n = (c.n : Int) ∧ b = (c.B : Int) ∧ k = (c.K : Int) := by
  obtain ⟨⟨h1, h2⟩, ⟨h3, h4⟩, h5, h6⟩ := h
  exact ⟨⟨n.toNat, b.toNat, k.toNat⟩, ⟨by show 1 ≤ n.toNat; omega, by show n.toNat ≤ 1024; omega, by show 1 ≤ b.toNat; omega, by show b.toNat ≤ 1048576; omega, by show 1 ≤ k.toNat; omega, by show k.toNat ≤ 1000; omega⟩, by show n = (n.toNat : Int); omega, by show b = (b.toNat : Int); omega, by show k = (k.toNat : Int); omega⟩
theorem stp_low {F F' : Nat → Prop} {W w w' : World} (h : Whl.Stp F F' w w') (hF : ∀ k, F k → W.heap.size ≤ k) (k : Kept W w) : ∀ j, F' j → W.heap.size ≤ j := fun j hj => by
  rcases h.2 j hj with z | z
  · exact hF j z
  · exact Nat.le_trans k.2 z
theorem size_take_le (L : List R) : ∀ m, sizeL (L.take m) ≤ sizeL L := by
  induction L with
  | nil => intro m; simp
  | cons r l ih =>
    intro m
    cases m with
    | zero => simp [sizeL]
    | succ m => have := ih m; simp only [List.take_succ_cons, sizeL]; omega
theorem size_take {L : List R} {m : Nat} {r : R} (h : L[m]? = some r) : sizeL (L.take (m + 1)) = sizeL (L.take m) + lenR r := by
  have : L.take (m + 1) = L.take m ++ [r] := by rw [List.take_add_one, h]; rfl
  rw [this, size_app]
theorem below_size (L : List R) (k : Nat) : sizeL (L.filter (belowR k)) ≤ sizeL L ∧ (L.filter (belowR k)).length ≤ L.length := ⟨size_filter _ _, List.length_filter_le _ _⟩
set_option maxHeartbeats 6400000 in
theorem bounded_walk (cn cb ck : Int) (oa : Option Addr) (len cap b o : Nat) (S : Nat → Opx) (w : World) (wn : (Lit.int .i64 cn).wf = true) (wb : (Lit.int .i64 cb).wf = true) (wk : (Lit.int .i64 ck).wf = true) (hr : RowO w oa len cap b o S) :
    Calls Tryz.prog 5 #[.agg #[.int .i64 cn, .int .i64 cb, .int .i64 ck], .slice oa len cap] w fun e w' => e = .returned (.bool true) ∧ Kept w w' := by
  have hz := zero44
  have hz2 := zero27
  have K0 := kept_alloc (kept_refl w) (.cells #[.int .i64 cn, .int .i64 cb, .int .i64 ck] 23)
  have A0 := at_new w #[.int .i64 cn, .int .i64 cb, .int .i64 ck] 23
  obtain ⟨w0, hw0⟩ : ∃ w0, w.alloc (.cells #[.int .i64 cn, .int .i64 cb, .int .i64 ck] 23) = w0 := ⟨_, rfl⟩
  obtain ⟨Z, hZ⟩ : ∃ Z, w.heap.size = Z := ⟨_, rfl⟩
  rw [hw0] at K0 A0
  rw [hZ] at A0
  have HK0 := hid K0
  have HA0 := hid A0
  have HR0 := hid (rowo_kept hr K0)
  obtain ⟨a0, a1, a2, _⟩ := at_cells3 A0
  clear K0 A0 hr
  by_cases hcm : confMay cn cb ck
  · obtain ⟨c, hc, rfl, rfl, rfl⟩ := conf_nat hcm
    clear hcm wn wb wk
    go_enter Tryz.func5, Tryz.ntmps5
    go_wp2_with fail
    refine (snew_any c hc _).mono ?_
    rintro e w1 ⟨X, F, rfl, k1, hF, h1⟩
    have HF1 := hid hF
    have HK1 := hid k1
    have HS1 := hid h1
    clear k1 hF h1 a0 a1 a2 hw0
    go_wp2_with fail
    refine (fixed_any _).mono ?_
    rintro e w2 ⟨rfl, k2⟩
    have HK2 := hid (kept_trans HK1.out k2)
    have HS2 := hid (st_kept HS1.out k2)
    clear k2 HK1 HS1
    go_wp2_with fail
    refine (cut_any oa len cap b o S _ (rowo_kept HR0.out HK2.out)).mono ?_
    rintro e w3 ⟨n, rfl, hn1, hn2, hn3, k3⟩
    have HK3 := hid (kept_trans HK2.out k3)
    have HS3 := hid (st_kept HS2.out k3)
    have HR := hid (rowo_less HR0.out hn1)
    have HN := hid hn3
    clear k3 HK2 HS2 HR0 hn1 hn3
    go_wp2_with fail
    go_loopw [7, 39] (fun t i wr => ∃ (j : Nat) (tn : Nat) (F : Nat → Prop) (s : MS), j ≤ n ∧ i = .int .i64 (j : Int) ∧ t = .int .u64 (tn : Int) ∧ tn ≤ j * 255 ∧ s.ev + s.L.length ≤ j ∧ Hid (St wr F X c s) ∧ Hid (∀ k, F k → w0.heap.size ≤ k) ∧ Hid (Kept w0 wr) ∧ Hid (Fit c s)) (fun _ i _ => n - (intOf i).toNat)
    case atStart => exact ⟨0, 0, F, MS0, Nat.zero_le _, rfl, rfl, by omega, by simp [MS0], HS3, HF1, HK3, hid fit_new⟩
    case round =>
      clear HS3 HF1 HK3
      obtain ⟨j, tn, F, s, hj, rfl, rfl, ht, hcnt, HS, HF, HK, HFit⟩ := hrel
      by_cases hlt : j < n
      · obtain ⟨rfl, hb⟩ := HR.out.2.2.2.1 (by omega)
        obtain ⟨xok, c0, c1, c2, c3, c4, c5, c6, c7, c8, c9⟩ := (rowo_kept HR.out HK.out).2.2.2.2 j hlt
        have hxs := HN.out j hlt
        obtain ⟨x, hx⟩ : ∃ x, S j = x := ⟨_, rfl⟩
        rw [hx] at xok c0 c1 c2 c3 c4 c5 c6 c7 c8 c9 hxs
        have hp0 := xok.2.2.1
        have hp1 := xok.2.2.2
        obtain ⟨pn, hpn⟩ : ∃ pn : Nat, x.pass = (pn : Int) := ⟨x.pass.toNat, by omega⟩
        have HXok := hid xok.2.1
        clear xok hx
        rw [hpn] at c9 hp0 hp1
        have K4 := kept_alloc (kept_refl wr) (.cells #[.int .i64 x.kind, .string x.r.key, .int .u64 x.r.s.p, .int .u32 x.r.s.l, .int .u8 x.r.s.n, .int .u8 x.r.kind, .int .u32 x.r.flags, .int .u64 x.r.exp, .string x.r.body, .int .u8 (pn : Int)] 44)
        obtain ⟨w4, hw4⟩ : ∃ w4, wr.alloc (.cells #[.int .i64 x.kind, .string x.r.key, .int .u64 x.r.s.p, .int .u32 x.r.s.l, .int .u8 x.r.s.n, .int .u8 x.r.kind, .int .u32 x.r.flags, .int .u64 x.r.exp, .string x.r.body, .int .u8 (pn : Int)] 44) = w4 := ⟨_, rfl⟩
        have A4 := at_new wr #[.int .i64 x.kind, .string x.r.key, .int .u64 x.r.s.p, .int .u32 x.r.s.l, .int .u8 x.r.s.n, .int .u8 x.r.kind, .int .u32 x.r.flags, .int .u64 x.r.exp, .string x.r.body, .int .u8 (pn : Int)] 44
        obtain ⟨Y, hY⟩ : ∃ Y, wr.heap.size = Y := ⟨_, rfl⟩
        rw [hw4] at K4 A4
        rw [hY] at A4
        have d0 := at_cell A4 0
        have d1 := at_cell A4 1
        have d2 := at_cell A4 2
        have d3 := at_cell A4 3
        have d4 := at_cell A4 4
        have d5 := at_cell A4 5
        have d6 := at_cell A4 6
        have d7 := at_cell A4 7
        have d8 := at_cell A4 8
        have d9 := at_cell A4 9
        simp at d0 d1 d2 d3 d4 d5 d6 d7 d8 d9
        have HS4 := hid (st_kept HS.out K4)
        have HK4 := hid (kept_trans HK.out K4)
        obtain ⟨t2, ht2⟩ : ∃ t2, tn + pn = t2 := ⟨_, rfl⟩
        have htt : (tn : Int) + (pn : Int) = (t2 : Int) := by omega
        have hPut := put_any hc x.r hxs.1 hxs.2 HXok.out (t2 : Int) (by omega) (by omega) w4 HS4.out
        have HCnt := hid (put_count hc s x.r (t2 : Int))
        have HFp := hid (fit_put (now := (t2 : Int)) hc HFit.out HXok.out)
        have htn : t2 ≤ (j + 1) * 255 := by omega
        have hw2 : IntKind.u64.wrap (t2 : Int) = (t2 : Int) := by rw [IntKind.wrap_u64]; omega
        clear K4 A4 HXok ht2
        go_wp2_with fail
        refine hPut.mono ?_
        rintro e w5 ⟨rfl, F5, t5, h5⟩
        obtain ⟨s5, hs5⟩ : ∃ s5, putS c s x.r (t2 : Int) = s5 := ⟨_, rfl⟩
        rw [hs5] at h5 HCnt HFp
        have HS5 := hid h5
        have HK5 := hid (kept_tn HK4.out HF.out t5.1)
        have HF5 := hid (stp_low t5 HF.out HK4.out)
        have hcnt5 : s5.ev + s5.L.length ≤ j + 1 := by have := HCnt.out; omega
        clear t5 h5 hs5 HS HF HK HS4 HK4 HFit hPut c0 c1 c2 c3 c4 c5 c6 c7 c8 c9 d0 d1 d2 d3 d4 d5 d6 d7 d8 d9 hw4 HCnt
        have hszB : sizeL s5.L ≤ 1048576 := Nat.le_trans HFp.out.size hc.2.2.2.1
        go_wp2_with fail
        go_loopw [10, 11, 12, 53] (fun sm ct _ i wr => ∃ kk : Nat, kk ≤ 64 ∧ i = .int .i64 (kk : Int) ∧ sm = .int .i64 (sizeL (s5.L.filter (belowR kk)) : Int) ∧ ct = .int .i64 ((s5.L.filter (belowR kk)).length : Int) ∧ Hid (Kept w5 wr)) (fun _ _ _ i _ => 64 - (intOf i).toNat)
        case atStart => exact ⟨0, by omega, rfl, by rw [below_none]; rfl, by rw [below_none]; rfl, hid (kept_refl w5)⟩
        case round =>
          obtain ⟨kk, hkk, rfl, rfl, rfl, HKk⟩ := hrel
          by_cases hk64 : kk < 64
          · have hRng := range_st hc (kk : Int) (by omega) wr (st_kept HS5.out HKk.out)
            have hsum := range_sums (k := kk) HFp.out.keys
            have hbel := below_size s5.L (kk + 1)
            obtain ⟨L, hL⟩ : ∃ L, rangeL (kk : Int) s5.L = L := ⟨_, rfl⟩
            rw [hL] at hRng hsum
            obtain ⟨sa, hsa⟩ : ∃ sa, sizeL (s5.L.filter (belowR kk)) = sa := ⟨_, rfl⟩
            obtain ⟨na, hna⟩ : ∃ na, (s5.L.filter (belowR kk)).length = na := ⟨_, rfl⟩
            rw [hsa, hna] at hsum
            rw [hsa, hna]
            have hLl : L.length ≤ 100 := by omega
            have HSum := hid hsum
            have hs1 : sa + sizeL L ≤ 1048576 := by omega
            have hs2 : na + L.length ≤ 100 := by omega
            clear hL hsa hna hsum hbel
            go_wp2_with fail
            refine hRng.mono ?_
            rintro e w6 ⟨v, rfl, k6, rd⟩
            have HRd := hid rd
            have HK6 := hid (kept_trans HKk.out k6)
            obtain ⟨va, vc, rfl, _⟩ := rd
            clear k6 hRng HKk
            go_wp2_with fail
            go_loopw [10, 11, 60] (fun sm ct i wr => ∃ m : Nat, m ≤ L.length ∧ i = .int .i64 (m : Int) ∧ sm = .int .i64 ((sa + sizeL (L.take m) : Nat) : Int) ∧ ct = .int .i64 ((na + m : Nat) : Int) ∧ Hid (Kept w6 wr)) (fun _ _ i _ => L.length - (intOf i).toNat)
            case atStart => exact ⟨0, Nat.zero_le _, rfl, by simp [sizeL], by simp, hid (kept_refl w6)⟩
            case round =>
              obtain ⟨m, hm, rfl, rfl, rfl, HKm⟩ := hrel
              by_cases hml : m < L.length
              · obtain ⟨r, hr⟩ : ∃ r, L[m]? = some r := ⟨L[m], List.getElem?_eq_getElem hml⟩
                obtain ⟨a', cap', e', hrd⟩ := rdr_kept HRd.out HKm.out
                injection e' with e1 e2 e3
                clear e2
                subst e1 e3
                obtain ⟨q, rfl, _, hc8⟩ := hrd (by omega)
                obtain ⟨r0, r1, r2, r3, r4, r5, r6, r7⟩ := hc8 m r hr
                have hst := size_take hr
                have hsl := size_take_le L (m + 1)
                have hlr : lenR r = r.key.size + r.body.size := rfl
                have HK7 := hid (kept_alloc HKm.out (.cells #[.string r.key, .int .u64 r.s.p, .int .u32 r.s.l, .int .u8 r.s.n, .int .u8 r.kind, .int .u32 r.flags, .int .u64 r.exp, .string r.body] 42))
                have e5 : ((sa + sizeL (L.take m) : Nat) : Int) + ((r.key.size : Int) + (r.body.size : Int)) = ((sa + sizeL (L.take (m + 1)) : Nat) : Int) := by omega
                have e6 : ((na + m : Nat) : Int) + 1 = ((na + (m + 1) : Nat) : Int) := by omega
                have HE := hid (And.intro e5 e6)
                have b1 : ((sa + sizeL (L.take m) : Nat) : Int) ≤ 1048576 := by omega
                have b2 : (r.key.size : Int) ≤ 1048576 := by omega
                have b3 : (r.body.size : Int) ≤ 1048576 := by omega
                have b4 : ((na + m : Nat) : Int) ≤ 200 := by omega
                have b0 : (0 : Int) ≤ ((sa + sizeL (L.take m) : Nat) : Int) := by omega
                have b5 : (0 : Int) ≤ ((na + m : Nat) : Int) := by omega
                generalize hA : ((sa + sizeL (L.take m) : Nat) : Int) = A at *
                generalize hB : ((na + m : Nat) : Int) = B at *
                clear hr hrd hc8 hst hsl hlr e5 e6 hA hB
                go_wp2_with fail
                go_roundw
                case rel => exact ⟨m + 1, by omega, by go_num, by rw [← HE.out.1], by rw [← HE.out.2], HK7⟩
                case measure => simp [intOf]; omega
              · have hme : m = L.length := by omega
                subst hme
                rw [List.take_length]
                have HKn := hid (kept_trans HK6.out HKm.out)
                clear HKm hml
                go_wp2_with fail
                go_roundw
                case rel => exact ⟨kk + 1, by omega, by go_num, by rw [HSum.out.1], by rw [HSum.out.2], HKn⟩
                case measure => simp [intOf]; omega
          · have hke : kk = 64 := by omega
            subst hke
            rw [below_all]
            clear hk64
            have HS6 := hid (st_kept HS5.out HKk.out)
            have HK6 := hid (kept_trans HK5.out HKk.out)
            have HLn : Hid (∀ q, Calls Tryz.prog 22 #[.pointer (some ⟨X, 0, none⟩)] (wr.drewN q) fun e w' => e = .returned (.int .i64 (s5.L.length : Int)) ∧ w' = wr.drewN q) := hid (fun q => len_st _ (st_kept HS6.out (kept_drewN (kept_refl wr) q)))
            have HSz : Hid (∀ q, Calls Tryz.prog 23 #[.pointer (some ⟨X, 0, none⟩)] (wr.drewN q) fun e w' => e = .returned (.int .i64 (sizeL s5.L : Int)) ∧ w' = wr.drewN q) := hid (fun q => size_st _ (st_kept HS6.out (kept_drewN (kept_refl wr) q)))
            obtain ⟨z0, z1, z2, _⟩ := at_cells3 (at_kept HA0.out HK6.out)
            have f1 : decide ((c.n : Int) < (s5.L.length : Int)) = false := by have := HFp.out.len; simp; omega
            have f2 : decide ((c.B : Int) < (sizeL s5.L : Int)) = false := by have := HFp.out.size; simp; omega
            have f3 : ((sizeL s5.L : Int) != (sizeL s5.L : Int)) = false := by simp
            have f4 : ((s5.L.length : Int) != (s5.L.length : Int)) = false := by simp
            have g1 : decide (c.n < s5.L.length) = false := by have := HFp.out.len; simp; omega
            have g2 : decide (c.B < sizeL s5.L) = false := by have := HFp.out.size; simp; omega
            clear HS5 HK5 HKk hszB
            obtain ⟨sa, hsa⟩ : ∃ sa, sizeL s5.L = sa := ⟨_, rfl⟩
            obtain ⟨na, hna⟩ : ∃ na, s5.L.length = na := ⟨_, rfl⟩
            rw [hsa] at f2 f3 HSz g2
            rw [hna] at f1 f4 HLn g1
            rw [hsa, hna]
            go_wp2_with fail
            go_quiet (first | (go_at_call 22; exact Calls.quiet_of_same (HLn.out _)) | (go_at_call 23; exact Calls.quiet_of_same (HSz.out _)))
            have HSn := hid (st_kept HS6.out (kept_drewN (kept_refl wr) nq))
            have HKn := hid (kept_drewN HK6.out nq)
            clear HS6 HK6 HLn HSz z0 z1 z2 f1 f2 f3 f4
            go_wp2_with fail
            go_roundw
            case rel => exact ⟨j + 1, t2, F5, s5, by omega, by go_num, rfl, htn, hcnt5, HSn, HF5, HKn, HFp⟩
            case measure => simp [intOf]; omega
      · go_wp2_with fail
        go_ret
        exact ⟨rfl, kept_trans HK0.out HK.out⟩
  · clear wn wb wk
    go_enter Tryz.func5, Tryz.ntmps5
    go_wp2_with fail
    refine (snew_bad cn cb ck hcm _).mono ?_
    rintro e w1 ⟨rfl, rfl⟩
    go_wp2_with fail
    refine (fixed_any _).mono ?_
    rintro e w2 ⟨rfl, k2⟩
    go_wp2_with fail
    go_ret
    exact ⟨rfl, kept_trans HK0.out k2⟩
end Go.Proofs.YthgbdaladngpdaaGreat
