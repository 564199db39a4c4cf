/- The contracts of the reference's seen and digests. The text has at most 2^47 bytes. The contracts of the reference's seen and digests. The text has at most 2^47 bytes. -/
import Derived.Test.YtioeidhblbfgmaaGreatY31

namespace Go.Proofs.YtioeidhblbfgmaaGreat
open Go.ChangeShapes Go.WideShapes Go.ChangeAt Go.RowKit
set_option linter.unusedVariables false
set_option linter.unusedSimpArgs false
set_option maxRecDepth 100000

set_option maxHeartbeats 12800000 in
theorem seen_rd (s : ByteArray) (hs : s.size ≤ 140737488355328) {p : Int} {f : Nat} {xs : List Sn} {p' : Int} {f' : Nat} (hL : listM s (seenM s) (p, f) = (xs, (p', f'))) (w : World) :
    Calls Tryz.prog 30 #[.agg #[.string s, .int .i64 p, .int .i64 (f : Int)]] w fun e w' => ∃ v, e = .returned (.tuple #[v, .agg #[.string s, .int .i64 p', .int .i64 (f' : Int)]]) ∧ Og encS 5 59 w' w.heap.size v xs ∧ Kept w w' := by
  obtain ⟨n, p0, f0, h0⟩ : ∃ a b c, numM s 0 4096 (p, f) = (a, (b, c)) := ⟨_, _, _, rfl⟩
  have hn := num_le h0
  have HR0 : Hid (runL (seenM s) (n - 0) ([], (p0, f0)) = (xs, (p', f'))) := hid (by unfold listM at hL; rw [h0] at hL; exact hL)
  clear hL
  have hz := zeroRd
  have k1 := kept_alloc (kept_refl w) (.cells #[.string s, .int .i64 p, .int .i64 (f : Int)] 73)
  have a1 := at_new w #[.string s, .int .i64 p, .int .i64 (f : Int)] 73
  obtain ⟨w1, hw1⟩ : ∃ u, w.alloc (.cells #[.string s, .int .i64 p, .int .i64 (f : Int)] 73) = u := ⟨_, rfl⟩
  obtain ⟨X, hX⟩ : ∃ u, w.heap.size = u := ⟨_, rfl⟩
  rw [hw1] at k1 a1
  rw [hX] at a1
  have k2 := kept_alloc (kept_refl w1) (.cells #[.string ⟨#[]⟩, .int .i64 0, .int .i64 0] 73)
  have a2 := at_new w1 #[.string ⟨#[]⟩, .int .i64 0, .int .i64 0] 73
  obtain ⟨w2, hw2⟩ : ∃ u, w1.alloc (.cells #[.string ⟨#[]⟩, .int .i64 0, .int .i64 0] 73) = u := ⟨_, rfl⟩
  obtain ⟨Y, hY⟩ : ∃ u, w1.heap.size = u := ⟨_, rfl⟩
  rw [hw2] at k2 a2
  rw [hY] at a2
  have k3 := kept_alloc (kept_refl w2) (.cells #[] 59)
  have o3 := og_built (xs := ([] : List Sn)) encS_ok 59 w2 w.heap.size (by have := k1.2; have := k2.2; omega) (by simp)
  have o3' : Og encS 5 59 (w2.alloc (.cells #[] 59)) w.heap.size (.slice (some ⟨w2.heap.size, 0, none⟩) 0 0) [] := o3
  obtain ⟨w3, hw3⟩ : ∃ u, w2.alloc (.cells #[] 59) = u := ⟨_, rfl⟩
  obtain ⟨G, hG⟩ : ∃ u, w2.heap.size = u := ⟨_, rfl⟩
  rw [hw3] at k3 o3'
  rw [hG] at o3'
  have HX := hid (at_kept (at_kept a1 k2) k3)
  have HY := hid (at_kept a2 k3)
  have HO := hid o3'
  have HK := hid (kept_trans (kept_trans k1 k2) k3)
  have HXY : Hid (Y ≠ X ∧ w.heap.size ≤ X ∧ w.heap.size ≤ Y) := hid ⟨by have := at_lt a1; omega, by omega, by have := k1.2; omega⟩
  clear a1 a2 k1 k2 k3 o3 o3'
  obtain ⟨b0, b1, b2, bf⟩ := at_cells3 HX.out
  go_enter Tryz.func30, Tryz.ntmps30
  go_wp2_with fail
  clear b0 b1 b2 bf
  refine (number_at s hs h0 _).mono ?_
  rintro e u0 ⟨rfl, k0⟩
  have hx := at_kept HX.out k0
  have hx2 := at_set3 hx (.string s) (.int .i64 p0) (.int .i64 (f0 : Int))
  have nHY := at_out3 (at_kept HY.out k0) HXY.out.1 (.string s) (.int .i64 p0) (.int .i64 (f0 : Int))
  have nHO := og_out3 (og_stays HO.out k0) hx (by decide) (.string s) (.int .i64 p0) (.int .i64 (f0 : Int))
  have nHK := kept_set3 (kept_trans HK.out k0) HXY.out.2.1 (.string s) (.int .i64 p0) (.int .i64 (f0 : Int))
  obtain ⟨c0, c1, c2, cf⟩ := at_cells3 hx
  unfold set3 at hx2 nHY nHO nHK
  obtain ⟨v0, hv0⟩ : ∃ v, ((u0.setCell ⟨X, 0, none⟩ (.string s)).setCell ⟨X, 1, none⟩ (.int .i64 p0)).setCell ⟨X, 2, none⟩ (.int .i64 (f0 : Int)) = v := ⟨_, rfl⟩
  rw [hv0] at hx2 nHY nHO nHK
  replace HX := hid hx2
  replace HY := hid nHY
  replace HO := hid nHO
  replace HK := hid nHK
  obtain ⟨d0, d1, d2, df⟩ := at_cells3 HX.out
  clear hx hx2 k0 nHY nHO nHK
  go_wp2_with fail
  clear c0 c1 c2 cf d0 d1 d2 df hv0 hw1 hw2 hw3 hX hY hG h0
  go_loopw [4, 6] (fun rv iv wr => ∃ (j : Nat) (l : List Sn) (q : Int) (g : Nat) (va : Option Addr) (vc : Nat), j ≤ n ∧ Hid (l.length = j) ∧ rv = .slice va l.length vc ∧ iv = .int .u64 (j : Int) ∧ Hid (runL (seenM s) (n - j) (l, (q, g)) = (xs, (p', f'))) ∧ Hid (At wr X #[.string s, .int .i64 q, .int .i64 (g : Int)] 73) ∧ Hid (At wr Y #[.string ⟨#[]⟩, .int .i64 0, .int .i64 0] 73) ∧ Hid (Og encS 5 59 wr w.heap.size (.slice va l.length vc) l) ∧ Hid (Kept w wr)) (fun _ iv _ => n - (intOf iv).toNat)
  case atStart => exact ⟨0, [], p0, f0, some ⟨G, 0, none⟩, 0, Nat.zero_le _, hid rfl, rfl, rfl, HR0, HX, HY, HO, HK⟩
  case round =>
    obtain ⟨j, l, q, g, va, vc, hj, HLl, rfl, rfl, HR, HX, HY, HO, HK⟩ := hrel
    clear HR0
    by_cases hlt : j < n
    · have hltz : (j : Int) < (n : Int) := by omega
      by_cases hg : g = 0
      · subst hg
        have e0 : ((0 : Nat) : Int) = 0 := rfl
        rw [e0] at HX
        clear e0
        obtain ⟨t, p1, f1, h1⟩ : ∃ a b c, keyM s (q, 0) = (a, (b, c)) := ⟨_, _, _, rfl⟩
        obtain ⟨n2, p2, f2, h2⟩ : ∃ a b c, numM s 0 281474976710655 (p1, f1) = (a, (b, c)) := ⟨_, _, _, rfl⟩
        obtain ⟨n3, p3, f3, h3⟩ : ∃ a b c, numM s 0 4294967295 (p2, f2) = (a, (b, c)) := ⟨_, _, _, rfl⟩
        obtain ⟨n4, p4, f4, h4⟩ : ∃ a b c, numM s 0 63 (p3, f3) = (a, (b, c)) := ⟨_, _, _, rfl⟩
        obtain ⟨n5, p5, f5, h5⟩ : ∃ a b c, numM s 1 3 (p4, f4) = (a, (b, c)) := ⟨_, _, _, rfl⟩
        have hone : seenM s (q, 0) = (⟨t, ⟨(n2 : Int), (n3 : Int), (n4 : Int)⟩, (n5 : Int)⟩, (p5, f5)) := by unfold seenM; simp only [h1, h2, h3, h4, h5]
        have HR2 : Hid (runL (seenM s) (n - (j + 1)) (l ++ [⟨t, ⟨(n2 : Int), (n3 : Int), (n4 : Int)⟩, (n5 : Int)⟩], (p5, f5)) = (xs, (p', f'))) := hid (by have h9 := HR.out; rw [show n - j = (n - (j + 1)) + 1 by omega, runL_next rfl] at h9; rw [hone] at h9; exact h9)
        have m3 := wrap32 (num_le h3)
        have m4 := wrap8 (Nat.le_trans (num_le h4) (by omega))
        have m5 := wrap8 (Nat.le_trans (num_le h5) (by omega))
        clear hone HR
        obtain ⟨c0, c1, c2, cf⟩ := at_cells3 HX.out
        go_wp2_with fail
        clear c0 c1 c2 cf
        refine (key_at s hs h1 _).mono ?_
        rintro e u1 ⟨rfl, k1⟩
        have hx := at_kept HX.out k1
        have hx2 := at_set3 hx (.string s) (.int .i64 p1) (.int .i64 (f1 : Int))
        have nHY := at_out3 (at_kept HY.out k1) HXY.out.1 (.string s) (.int .i64 p1) (.int .i64 (f1 : Int))
        have nHO := og_out3 (og_stays HO.out k1) hx (by decide) (.string s) (.int .i64 p1) (.int .i64 (f1 : Int))
        have nHK := kept_set3 (kept_trans HK.out k1) HXY.out.2.1 (.string s) (.int .i64 p1) (.int .i64 (f1 : Int))
        obtain ⟨c0, c1, c2, cf⟩ := at_cells3 hx
        unfold set3 at hx2 nHY nHO nHK
        obtain ⟨v1, hv1⟩ : ∃ v, ((u1.setCell ⟨X, 0, none⟩ (.string s)).setCell ⟨X, 1, none⟩ (.int .i64 p1)).setCell ⟨X, 2, none⟩ (.int .i64 (f1 : Int)) = v := ⟨_, rfl⟩
        rw [hv1] at hx2 nHY nHO nHK
        replace HX := hid hx2
        replace HY := hid nHY
        replace HO := hid nHO
        replace HK := hid nHK
        obtain ⟨d0, d1, d2, df⟩ := at_cells3 HX.out
        clear hx hx2 k1 nHY nHO nHK
        go_wp2_with fail
        clear c0 c1 c2 cf d0 d1 d2 df hv1
        refine (number_at s hs h2 _).mono ?_
        rintro e u2 ⟨rfl, k2⟩
        have hx := at_kept HX.out k2
        have hx2 := at_set3 hx (.string s) (.int .i64 p2) (.int .i64 (f2 : Int))
        have nHY := at_out3 (at_kept HY.out k2) HXY.out.1 (.string s) (.int .i64 p2) (.int .i64 (f2 : Int))
        have nHO := og_out3 (og_stays HO.out k2) hx (by decide) (.string s) (.int .i64 p2) (.int .i64 (f2 : Int))
        have nHK := kept_set3 (kept_trans HK.out k2) HXY.out.2.1 (.string s) (.int .i64 p2) (.int .i64 (f2 : Int))
        obtain ⟨c0, c1, c2, cf⟩ := at_cells3 hx
        unfold set3 at hx2 nHY nHO nHK
        obtain ⟨v2, hv2⟩ : ∃ v, ((u2.setCell ⟨X, 0, none⟩ (.string s)).setCell ⟨X, 1, none⟩ (.int .i64 p2)).setCell ⟨X, 2, none⟩ (.int .i64 (f2 : Int)) = v := ⟨_, rfl⟩
        rw [hv2] at hx2 nHY nHO nHK
        replace HX := hid hx2
        replace HY := hid nHY
        replace HO := hid nHO
        replace HK := hid nHK
        obtain ⟨d0, d1, d2, df⟩ := at_cells3 HX.out
        clear hx hx2 k2 nHY nHO nHK
        go_wp2_with fail
        clear c0 c1 c2 cf d0 d1 d2 df hv2
        refine (number_at s hs h3 _).mono ?_
        rintro e u3 ⟨rfl, k3⟩
        have hx := at_kept HX.out k3
        have hx2 := at_set3 hx (.string s) (.int .i64 p3) (.int .i64 (f3 : Int))
        have nHY := at_out3 (at_kept HY.out k3) HXY.out.1 (.string s) (.int .i64 p3) (.int .i64 (f3 : Int))
        have nHO := og_out3 (og_stays HO.out k3) hx (by decide) (.string s) (.int .i64 p3) (.int .i64 (f3 : Int))
        have nHK := kept_set3 (kept_trans HK.out k3) HXY.out.2.1 (.string s) (.int .i64 p3) (.int .i64 (f3 : Int))
        obtain ⟨c0, c1, c2, cf⟩ := at_cells3 hx
        unfold set3 at hx2 nHY nHO nHK
        obtain ⟨v3, hv3⟩ : ∃ v, ((u3.setCell ⟨X, 0, none⟩ (.string s)).setCell ⟨X, 1, none⟩ (.int .i64 p3)).setCell ⟨X, 2, none⟩ (.int .i64 (f3 : Int)) = v := ⟨_, rfl⟩
        rw [hv3] at hx2 nHY nHO nHK
        replace HX := hid hx2
        replace HY := hid nHY
        replace HO := hid nHO
        replace HK := hid nHK
        obtain ⟨d0, d1, d2, df⟩ := at_cells3 HX.out
        clear hx hx2 k3 nHY nHO nHK
        go_wp2_with fail
        clear c0 c1 c2 cf d0 d1 d2 df hv3
        refine (number_at s hs h4 _).mono ?_
        rintro e u4 ⟨rfl, k4⟩
        have hx := at_kept HX.out k4
        have hx2 := at_set3 hx (.string s) (.int .i64 p4) (.int .i64 (f4 : Int))
        have nHY := at_out3 (at_kept HY.out k4) HXY.out.1 (.string s) (.int .i64 p4) (.int .i64 (f4 : Int))
        have nHO := og_out3 (og_stays HO.out k4) hx (by decide) (.string s) (.int .i64 p4) (.int .i64 (f4 : Int))
        have nHK := kept_set3 (kept_trans HK.out k4) HXY.out.2.1 (.string s) (.int .i64 p4) (.int .i64 (f4 : Int))
        obtain ⟨c0, c1, c2, cf⟩ := at_cells3 hx
        unfold set3 at hx2 nHY nHO nHK
        obtain ⟨v4, hv4⟩ : ∃ v, ((u4.setCell ⟨X, 0, none⟩ (.string s)).setCell ⟨X, 1, none⟩ (.int .i64 p4)).setCell ⟨X, 2, none⟩ (.int .i64 (f4 : Int)) = v := ⟨_, rfl⟩
        rw [hv4] at hx2 nHY nHO nHK
        replace HX := hid hx2
        replace HY := hid nHY
        replace HO := hid nHO
        replace HK := hid nHK
        obtain ⟨d0, d1, d2, df⟩ := at_cells3 HX.out
        clear hx hx2 k4 nHY nHO nHK
        go_wp2_with fail
        clear c0 c1 c2 cf d0 d1 d2 df hv4
        refine (number_at s hs h5 _).mono ?_
        rintro e u5 ⟨rfl, k5⟩
        have hx := at_kept HX.out k5
        have hx2 := at_set3 hx (.string s) (.int .i64 p5) (.int .i64 (f5 : Int))
        have nHY := at_out3 (at_kept HY.out k5) HXY.out.1 (.string s) (.int .i64 p5) (.int .i64 (f5 : Int))
        have nHO := og_out3 (og_stays HO.out k5) hx (by decide) (.string s) (.int .i64 p5) (.int .i64 (f5 : Int))
        have nHK := kept_set3 (kept_trans HK.out k5) HXY.out.2.1 (.string s) (.int .i64 p5) (.int .i64 (f5 : Int))
        obtain ⟨c0, c1, c2, cf⟩ := at_cells3 hx
        unfold set3 at hx2 nHY nHO nHK
        obtain ⟨v5, hv5⟩ : ∃ v, ((u5.setCell ⟨X, 0, none⟩ (.string s)).setCell ⟨X, 1, none⟩ (.int .i64 p5)).setCell ⟨X, 2, none⟩ (.int .i64 (f5 : Int)) = v := ⟨_, rfl⟩
        rw [hv5] at hx2 nHY nHO nHK
        replace HX := hid hx2
        replace HY := hid nHY
        replace HO := hid nHO
        replace HK := hid nHK
        obtain ⟨d0, d1, d2, df⟩ := at_cells3 HX.out
        clear hx hx2 k5 nHY nHO nHK
        have hal := rg_alone encS_ok (y := (⟨t, ⟨(n2 : Int), (n3 : Int), (n4 : Int)⟩, (n5 : Int)⟩ : Sn)) (at_new v5 #[.string t, .int .u64 (n2 : Int), .int .u32 (n3 : Int), .int .u8 (n4 : Int), .int .u8 (n5 : Int)] 59)
        have kb := kept_alloc (kept_refl v5) (.cells #[.string t, .int .u64 (n2 : Int), .int .u32 (n3 : Int), .int .u8 (n4 : Int), .int .u8 (n5 : Int)] 59)
        have HAl := hid hal
        have HXb := hid (at_kept HX.out kb)
        have HYb := hid (at_kept HY.out kb)
        have HOb := hid (og_stays HO.out kb)
        have HKb := hid (kept_trans HK.out kb)
        
        clear hal kb HX HY HO HK
        go_wp2_with (at_builtin; go_must (refine wpList_gapp rfl (.tmp 53) (.tmp 64) rfl encS_ok tyS (by decide) w.heap.size _ _ _ [(⟨t, ⟨(n2 : Int), (n3 : Int), (n4 : Int)⟩, (n5 : Int)⟩ : Sn)] rfl HOb.out rfl HAl.out (by rw [HLl.out]; simp; omega) HKb.out.2 ?_; intro v9 w9 hown9 hgrow9 hnil9; obtain ⟨va9, vc9, e9, -, -⟩ := og_is encS_ok hown9; obtain ⟨ln, hln⟩ : ∃ ln, (l ++ [(⟨t, ⟨(n2 : Int), (n3 : Int), (n4 : Int)⟩, (n5 : Int)⟩ : Sn)]).length = ln := ⟨_, rfl⟩; rw [hln] at e9; have HLN := hid hln; clear hln; subst e9; have HX9 := hid (at_tn HXb.out (tn_grown hgrow9) (fun e => own_ne HOb.out HXb.out (by decide) X e rfl)); have HY9 := hid (at_tn HYb.out (tn_grown hgrow9) (fun e => own_ne HOb.out HYb.out (by decide) Y e rfl)); have HK9 := hid (kept_gr HKb.out hgrow9 (fun b hb => og_lt HOb.out hb)); have HO9 := hid hown9; clear hown9 hgrow9 hnil9))
        go_roundw
        case rel => exact ⟨j + 1, l ++ [(⟨t, ⟨(n2 : Int), (n3 : Int), (n4 : Int)⟩, (n5 : Int)⟩ : Sn)], p5, f5, va9, vc9, by omega, hid (by rw [List.length_append, HLl.out]; rfl), by rw [HLN.out], by go_num, HR2, HX9, HY9, by rw [HLN.out]; exact HO9, HK9⟩
        case measure => simp [intOf]; omega
      · have hd : ((g : Int) == 0) = false := by simpa using hg
        have HRx := HR.out
        rw [runL_stop (.inr hg)] at HRx
        obtain ⟨rfl, rfl, rfl⟩ : l = xs ∧ q = p' ∧ g = f' := by
          injection HRx with e1 e2
          injection e2 with e2 e3
          exact ⟨e1, e2, e3⟩
        have HA := hid (at_drew (at_set3 HY.out (.string s) (.int .i64 q) (.int .i64 (g : Int))))
        have HE := hid (og_stays (og_out3 HO.out HY.out (by decide) (.string s) (.int .i64 q) (.int .i64 (g : Int))) (kept_drew (kept_refl _)))
        have HKe := hid (kept_drew (kept_set3 HK.out HXY.out.2.2 (.string s) (.int .i64 q) (.int .i64 (g : Int))))
        unfold set3 at HA HE HKe
        obtain ⟨c0, c1, c2, cf⟩ := at_cells3 HX.out
        obtain ⟨d0, d1, d2, df⟩ := at_cells3 HY.out
        clear HX HY HO HK
        go_wp2_with fail
        go_region
        go_wp2_with fail
        exact bodyPost_ret (resTR Tryz.results30 _ rfl HA.out) rfl ⟨_, rfl, HE.out, HKe.out⟩
    · have hltz : ¬ (j : Int) < (n : Int) := by omega
      have HRx := HR.out
      rw [runL_stop (.inl (by omega))] at HRx
      obtain ⟨rfl, rfl, rfl⟩ : l = xs ∧ q = p' ∧ g = f' := by
        injection HRx with e1 e2
        injection e2 with e2 e3
        exact ⟨e1, e2, e3⟩
      have HA := hid (at_drew (at_set3 HY.out (.string s) (.int .i64 q) (.int .i64 (g : Int))))
      have HE := hid (og_stays (og_out3 HO.out HY.out (by decide) (.string s) (.int .i64 q) (.int .i64 (g : Int))) (kept_drew (kept_refl _)))
      have HKe := hid (kept_drew (kept_set3 HK.out HXY.out.2.2 (.string s) (.int .i64 q) (.int .i64 (g : Int))))
      unfold set3 at HA HE HKe
      obtain ⟨c0, c1, c2, cf⟩ := at_cells3 HX.out
      obtain ⟨d0, d1, d2, df⟩ := at_cells3 HY.out
      clear HX HY HO HK
      go_wp2_with fail
      go_region
      go_wp2_with fail
      exact bodyPost_ret (resTR Tryz.results30 _ rfl HA.out) rfl ⟨_, rfl, HE.out, HKe.out⟩
end Go.Proofs.YtioeidhblbfgmaaGreat


namespace Go.Proofs.YtioeidhblbfgmaaGreat
open Go.ChangeShapes Go.WideShapes Go.ChangeAt Go.RowKit
set_option linter.unusedVariables false
set_option linter.unusedSimpArgs false
set_option maxRecDepth 100000

set_option maxHeartbeats 12800000 in
theorem digs_rd (s : ByteArray) (hs : s.size ≤ 140737488355328) {p : Int} {f : Nat} {xs : List Int} {p' : Int} {f' : Nat} (hL : listM s (digM s) (p, f) = (xs, (p', f'))) (w : World) :
    Calls Tryz.prog 31 #[.agg #[.string s, .int .i64 p, .int .i64 (f : Int)]] w fun e w' => ∃ v, e = .returned (.tuple #[v, .agg #[.string s, .int .i64 p', .int .i64 (f' : Int)]]) ∧ Og encG 1 53 w' w.heap.size v xs ∧ Kept w w' := by
  obtain ⟨n, p0, f0, h0⟩ : ∃ a b c, numM s 0 4096 (p, f) = (a, (b, c)) := ⟨_, _, _, rfl⟩
  have hn := num_le h0
  have HR0 : Hid (runL (digM s) (n - 0) ([], (p0, f0)) = (xs, (p', f'))) := hid (by unfold listM at hL; rw [h0] at hL; exact hL)
  clear hL
  have hz := zeroRd
  have k1 := kept_alloc (kept_refl w) (.cells #[.string s, .int .i64 p, .int .i64 (f : Int)] 73)
  have a1 := at_new w #[.string s, .int .i64 p, .int .i64 (f : Int)] 73
  obtain ⟨w1, hw1⟩ : ∃ u, w.alloc (.cells #[.string s, .int .i64 p, .int .i64 (f : Int)] 73) = u := ⟨_, rfl⟩
  obtain ⟨X, hX⟩ : ∃ u, w.heap.size = u := ⟨_, rfl⟩
  rw [hw1] at k1 a1
  rw [hX] at a1
  have k2 := kept_alloc (kept_refl w1) (.cells #[.string ⟨#[]⟩, .int .i64 0, .int .i64 0] 73)
  have a2 := at_new w1 #[.string ⟨#[]⟩, .int .i64 0, .int .i64 0] 73
  obtain ⟨w2, hw2⟩ : ∃ u, w1.alloc (.cells #[.string ⟨#[]⟩, .int .i64 0, .int .i64 0] 73) = u := ⟨_, rfl⟩
  obtain ⟨Y, hY⟩ : ∃ u, w1.heap.size = u := ⟨_, rfl⟩
  rw [hw2] at k2 a2
  rw [hY] at a2
  have k3 := kept_alloc (kept_refl w2) (.cells #[] 53)
  have o3 := og_built (xs := ([] : List Int)) encG_ok 53 w2 w.heap.size (by have := k1.2; have := k2.2; omega) (by simp)
  have o3' : Og encG 1 53 (w2.alloc (.cells #[] 53)) w.heap.size (.slice (some ⟨w2.heap.size, 0, none⟩) 0 0) [] := o3
  obtain ⟨w3, hw3⟩ : ∃ u, w2.alloc (.cells #[] 53) = u := ⟨_, rfl⟩
  obtain ⟨G, hG⟩ : ∃ u, w2.heap.size = u := ⟨_, rfl⟩
  rw [hw3] at k3 o3'
  rw [hG] at o3'
  have HX := hid (at_kept (at_kept a1 k2) k3)
  have HY := hid (at_kept a2 k3)
  have HO := hid o3'
  have HK := hid (kept_trans (kept_trans k1 k2) k3)
  have HXY : Hid (Y ≠ X ∧ w.heap.size ≤ X ∧ w.heap.size ≤ Y) := hid ⟨by have := at_lt a1; omega, by omega, by have := k1.2; omega⟩
  clear a1 a2 k1 k2 k3 o3 o3'
  obtain ⟨b0, b1, b2, bf⟩ := at_cells3 HX.out
  go_enter Tryz.func31, Tryz.ntmps31
  go_wp2_with fail
  clear b0 b1 b2 bf
  refine (number_at s hs h0 _).mono ?_
  rintro e u0 ⟨rfl, k0⟩
  have hx := at_kept HX.out k0
  have hx2 := at_set3 hx (.string s) (.int .i64 p0) (.int .i64 (f0 : Int))
  have nHY := at_out3 (at_kept HY.out k0) HXY.out.1 (.string s) (.int .i64 p0) (.int .i64 (f0 : Int))
  have nHO := og_out3 (og_stays HO.out k0) hx (by decide) (.string s) (.int .i64 p0) (.int .i64 (f0 : Int))
  have nHK := kept_set3 (kept_trans HK.out k0) HXY.out.2.1 (.string s) (.int .i64 p0) (.int .i64 (f0 : Int))
  obtain ⟨c0, c1, c2, cf⟩ := at_cells3 hx
  unfold set3 at hx2 nHY nHO nHK
  obtain ⟨v0, hv0⟩ : ∃ v, ((u0.setCell ⟨X, 0, none⟩ (.string s)).setCell ⟨X, 1, none⟩ (.int .i64 p0)).setCell ⟨X, 2, none⟩ (.int .i64 (f0 : Int)) = v := ⟨_, rfl⟩
  rw [hv0] at hx2 nHY nHO nHK
  replace HX := hid hx2
  replace HY := hid nHY
  replace HO := hid nHO
  replace HK := hid nHK
  obtain ⟨d0, d1, d2, df⟩ := at_cells3 HX.out
  clear hx hx2 k0 nHY nHO nHK
  go_wp2_with fail
  clear c0 c1 c2 cf d0 d1 d2 df hv0 hw1 hw2 hw3 hX hY hG h0
  go_loopw [4, 6] (fun rv iv wr => ∃ (j : Nat) (l : List Int) (q : Int) (g : Nat) (va : Option Addr) (vc : Nat), j ≤ n ∧ Hid (l.length = j) ∧ rv = .slice va l.length vc ∧ iv = .int .u64 (j : Int) ∧ Hid (runL (digM s) (n - j) (l, (q, g)) = (xs, (p', f'))) ∧ Hid (At wr X #[.string s, .int .i64 q, .int .i64 (g : Int)] 73) ∧ Hid (At wr Y #[.string ⟨#[]⟩, .int .i64 0, .int .i64 0] 73) ∧ Hid (Og encG 1 53 wr w.heap.size (.slice va l.length vc) l) ∧ Hid (Kept w wr)) (fun _ iv _ => n - (intOf iv).toNat)
  case atStart => exact ⟨0, [], p0, f0, some ⟨G, 0, none⟩, 0, Nat.zero_le _, hid rfl, rfl, rfl, HR0, HX, HY, HO, HK⟩
  case round =>
    obtain ⟨j, l, q, g, va, vc, hj, HLl, rfl, rfl, HR, HX, HY, HO, HK⟩ := hrel
    clear HR0
    by_cases hlt : j < n
    · have hltz : (j : Int) < (n : Int) := by omega
      by_cases hg : g = 0
      · subst hg
        have e0 : ((0 : Nat) : Int) = 0 := rfl
        rw [e0] at HX
        clear e0
        obtain ⟨n1, p1, f1, h1⟩ : ∃ a b c, numM s 0 4294967295 (q, 0) = (a, (b, c)) := ⟨_, _, _, rfl⟩
        obtain ⟨n2, p2, f2, h2⟩ : ∃ a b c, numM s 0 4294967295 (p1, f1) = (a, (b, c)) := ⟨_, _, _, rfl⟩
        have hone : digM s (q, 0) = (((n1 * 4294967296 + n2 : Nat) : Int), (p2, f2)) := by unfold digM; simp only [h1, h2]
        have HR2 : Hid (runL (digM s) (n - (j + 1)) (l ++ [((n1 * 4294967296 + n2 : Nat) : Int)], (p2, f2)) = (xs, (p', f'))) := hid (by have h9 := HR.out; rw [show n - j = (n - (j + 1)) + 1 by omega, runL_next rfl] at h9; rw [hone] at h9; exact h9)
        have u1 := num_le h1
        have u2 := num_le h2
        obtain ⟨z, hz9⟩ : ∃ z : Nat, n1 * 4294967296 + n2 = z := ⟨_, rfl⟩
        have hm1 : IntKind.u64.wrap ((n1 : Int) * 4294967296) = (n1 : Int) * 4294967296 := wrap64 (by omega)
        have hm2 : IntKind.u64.wrap ((n1 : Int) * 4294967296 + (n2 : Int)) = (z : Int) := by rw [wrap64 (by omega)]; omega
        rw [hz9] at HR2
        clear hz9 u1 u2
        clear hone HR
        obtain ⟨c0, c1, c2, cf⟩ := at_cells3 HX.out
        go_wp2_with fail
        clear c0 c1 c2 cf
        refine (number_at s hs h1 _).mono ?_
        rintro e u1 ⟨rfl, k1⟩
        have hx := at_kept HX.out k1
        have hx2 := at_set3 hx (.string s) (.int .i64 p1) (.int .i64 (f1 : Int))
        have nHY := at_out3 (at_kept HY.out k1) HXY.out.1 (.string s) (.int .i64 p1) (.int .i64 (f1 : Int))
        have nHO := og_out3 (og_stays HO.out k1) hx (by decide) (.string s) (.int .i64 p1) (.int .i64 (f1 : Int))
        have nHK := kept_set3 (kept_trans HK.out k1) HXY.out.2.1 (.string s) (.int .i64 p1) (.int .i64 (f1 : Int))
        obtain ⟨c0, c1, c2, cf⟩ := at_cells3 hx
        unfold set3 at hx2 nHY nHO nHK
        obtain ⟨v1, hv1⟩ : ∃ v, ((u1.setCell ⟨X, 0, none⟩ (.string s)).setCell ⟨X, 1, none⟩ (.int .i64 p1)).setCell ⟨X, 2, none⟩ (.int .i64 (f1 : Int)) = v := ⟨_, rfl⟩
        rw [hv1] at hx2 nHY nHO nHK
        replace HX := hid hx2
        replace HY := hid nHY
        replace HO := hid nHO
        replace HK := hid nHK
        obtain ⟨d0, d1, d2, df⟩ := at_cells3 HX.out
        clear hx hx2 k1 nHY nHO nHK
        go_wp2_with fail
        clear c0 c1 c2 cf d0 d1 d2 df hv1
        refine (number_at s hs h2 _).mono ?_
        rintro e u2 ⟨rfl, k2⟩
        have hx := at_kept HX.out k2
        have hx2 := at_set3 hx (.string s) (.int .i64 p2) (.int .i64 (f2 : Int))
        have nHY := at_out3 (at_kept HY.out k2) HXY.out.1 (.string s) (.int .i64 p2) (.int .i64 (f2 : Int))
        have nHO := og_out3 (og_stays HO.out k2) hx (by decide) (.string s) (.int .i64 p2) (.int .i64 (f2 : Int))
        have nHK := kept_set3 (kept_trans HK.out k2) HXY.out.2.1 (.string s) (.int .i64 p2) (.int .i64 (f2 : Int))
        obtain ⟨c0, c1, c2, cf⟩ := at_cells3 hx
        unfold set3 at hx2 nHY nHO nHK
        obtain ⟨v2, hv2⟩ : ∃ v, ((u2.setCell ⟨X, 0, none⟩ (.string s)).setCell ⟨X, 1, none⟩ (.int .i64 p2)).setCell ⟨X, 2, none⟩ (.int .i64 (f2 : Int)) = v := ⟨_, rfl⟩
        rw [hv2] at hx2 nHY nHO nHK
        replace HX := hid hx2
        replace HY := hid nHY
        replace HO := hid nHO
        replace HK := hid nHK
        obtain ⟨d0, d1, d2, df⟩ := at_cells3 HX.out
        clear hx hx2 k2 nHY nHO nHK
        have hal := rg_alone encG_ok (y := ((z : Int) : Int)) (at_new v2 #[.int .u64 (z : Int)] 53)
        have kb := kept_alloc (kept_refl v2) (.cells #[.int .u64 (z : Int)] 53)
        have HAl := hid hal
        have HXb := hid (at_kept HX.out kb)
        have HYb := hid (at_kept HY.out kb)
        have HOb := hid (og_stays HO.out kb)
        have HKb := hid (kept_trans HK.out kb)
        
        clear hal kb HX HY HO HK
        go_wp2_with (at_builtin; go_must (refine wpList_gapp rfl (.tmp 35) (.tmp 40) rfl encG_ok tyG (by decide) w.heap.size _ _ _ [((z : Int) : Int)] rfl HOb.out rfl HAl.out (by rw [HLl.out]; simp; omega) HKb.out.2 ?_; intro v9 w9 hown9 hgrow9 hnil9; obtain ⟨va9, vc9, e9, -, -⟩ := og_is encG_ok hown9; obtain ⟨ln, hln⟩ : ∃ ln, (l ++ [((z : Int) : Int)]).length = ln := ⟨_, rfl⟩; rw [hln] at e9; have HLN := hid hln; clear hln; subst e9; have HX9 := hid (at_tn HXb.out (tn_grown hgrow9) (fun e => own_ne HOb.out HXb.out (by decide) X e rfl)); have HY9 := hid (at_tn HYb.out (tn_grown hgrow9) (fun e => own_ne HOb.out HYb.out (by decide) Y e rfl)); have HK9 := hid (kept_gr HKb.out hgrow9 (fun b hb => og_lt HOb.out hb)); have HO9 := hid hown9; clear hown9 hgrow9 hnil9))
        go_roundw
        case rel => exact ⟨j + 1, l ++ [((z : Int) : Int)], p2, f2, va9, vc9, by omega, hid (by rw [List.length_append, HLl.out]; rfl), by rw [HLN.out], by go_num, HR2, HX9, HY9, by rw [HLN.out]; exact HO9, HK9⟩
        case measure => simp [intOf]; omega
      · have hd : ((g : Int) == 0) = false := by simpa using hg
        have HRx := HR.out
        rw [runL_stop (.inr hg)] at HRx
        obtain ⟨rfl, rfl, rfl⟩ : l = xs ∧ q = p' ∧ g = f' := by
          injection HRx with e1 e2
          injection e2 with e2 e3
          exact ⟨e1, e2, e3⟩
        have HA := hid (at_drew (at_set3 HY.out (.string s) (.int .i64 q) (.int .i64 (g : Int))))
        have HE := hid (og_stays (og_out3 HO.out HY.out (by decide) (.string s) (.int .i64 q) (.int .i64 (g : Int))) (kept_drew (kept_refl _)))
        have HKe := hid (kept_drew (kept_set3 HK.out HXY.out.2.2 (.string s) (.int .i64 q) (.int .i64 (g : Int))))
        unfold set3 at HA HE HKe
        obtain ⟨c0, c1, c2, cf⟩ := at_cells3 HX.out
        obtain ⟨d0, d1, d2, df⟩ := at_cells3 HY.out
        clear HX HY HO HK
        go_wp2_with fail
        go_region
        go_wp2_with fail
        exact bodyPost_ret (resTR Tryz.results31 _ rfl HA.out) rfl ⟨_, rfl, HE.out, HKe.out⟩
    · have hltz : ¬ (j : Int) < (n : Int) := by omega
      have HRx := HR.out
      rw [runL_stop (.inl (by omega))] at HRx
      obtain ⟨rfl, rfl, rfl⟩ : l = xs ∧ q = p' ∧ g = f' := by
        injection HRx with e1 e2
        injection e2 with e2 e3
        exact ⟨e1, e2, e3⟩
      have HA := hid (at_drew (at_set3 HY.out (.string s) (.int .i64 q) (.int .i64 (g : Int))))
      have HE := hid (og_stays (og_out3 HO.out HY.out (by decide) (.string s) (.int .i64 q) (.int .i64 (g : Int))) (kept_drew (kept_refl _)))
      have HKe := hid (kept_drew (kept_set3 HK.out HXY.out.2.2 (.string s) (.int .i64 q) (.int .i64 (g : Int))))
      unfold set3 at HA HE HKe
      obtain ⟨c0, c1, c2, cf⟩ := at_cells3 HX.out
      obtain ⟨d0, d1, d2, df⟩ := at_cells3 HY.out
      clear HX HY HO HK
      go_wp2_with fail
      go_region
      go_wp2_with fail
      exact bodyPost_ret (resTR Tryz.results31 _ rfl HA.out) rfl ⟨_, rfl, HE.out, HKe.out⟩
end Go.Proofs.YtioeidhblbfgmaaGreat
