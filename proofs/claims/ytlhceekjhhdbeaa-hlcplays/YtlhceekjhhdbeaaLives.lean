/- The law that a clock that begins anew, and has to rest, answers only what stands behind its former life, walked: it answers true and turns nothing that was there. -/
import Derived.Test.YtlhceekjhhdbeaaBounded
namespace Go.Proofs.Ytlhceekjhhdbeaa
open Go.ChangeShapes Go.WideShapes Go.ChangeAt Go.RowKit
set_option linter.unusedVariables false
set_option linter.unusedSimpArgs false

theorem lives {k : Clk} {p : Int} (h : p < k.wakes) (he : (nowK k).2.1 = 0) : p < (nowK k).1.p := by
  unfold nowK at *
  split at he
  · simp at he
  split at he
  · rename_i h1 h2
    rw [if_neg h1, if_pos h2]
    simp only
    omega
  split at he
  · simp at he
  · rename_i h1 h2 h3
    rw [if_neg h1, if_neg h2, if_neg h3]
    simp only
    omega
theorem now_err (k : Clk) : (nowK k).2.1 = 0 ∨ (nowK k).2.1 = 6 ∨ (nowK k).2.1 = 10 := by
  unfold nowK
  split
  · exact .inr (.inr rfl)
  split
  · exact .inl rfl
  split
  · exact .inr (.inl rfl)
  · exact .inl rfl
theorem clock_turn {c d : Nat} {k : Clk} {w w' : World} (h : Clock c k w) (hT : Turn d w w') (hn : c ≠ d) : Clock c k w' := at_turn h hT hn
theorem may_again {k : Clk} (h : k.ok) : mayNew k.node k.time k.drift := ⟨h.2.1, h.2.2.2.1, h.2.2.2.2.1, h.2.2.2.2.2.1⟩
set_option maxHeartbeats 3200000 in
set_option maxRecDepth 100000 in
theorem lives_walk (node time drift : Int) (oa : Option Addr) (len cap b o : Nat) (K M : Nat → Int) (S : Nat → Stp) (oa' : Option Addr) (len' cap' b' o' : Nat) (K' M' : Nat → Int) (S' : Nat → Stp) (w : World)
    (wn : (Lit.int .u8 node).wf = true) (wt : (Lit.int .u64 time).wf = true) (wd : (Lit.int .i64 drift).wf = true) (hr : Row w oa len cap b o K M S) (hr' : Row w oa' len' cap' b' o' K' M' S') :
    Calls Try.prog 7 #[.int .u8 node, .int .u64 time, .int .i64 drift, .slice oa len cap, .slice oa' len' cap'] w fun e w' => e = .returned (.bool true) ∧ Kept w w' := by
  have hz := zero40
  have hz25 := zero25
  by_cases hm : mayNew node time drift
  · have b1 : 0 ≤ node := (bounds_u8 wn).1
    have b2 : 0 ≤ time := (bounds_u64 wt).1
    have HM : Hid (mayNew node time drift) := hm
    have HR : Hid (Row w oa len cap b o K M S) := hr
    have HR' : Hid (Row w oa' len' cap' b' o' K' M' S') := hr'
    clear hm hr hr' wn wt wd
    go_enter Try.func7, Try.ntmps7
    go_wp2_with fail
    refine (new_good node time drift false HM.out b1 b2 _).mono ?_
    rintro e w1 ⟨rfl, K1, C1⟩
    have HC : Hid (w.heap.size ≤ w.heap.size) := Nat.le_refl _
    generalize hc : w.heap.size = c at *
    have HC : Hid (w.heap.size ≤ c) := Nat.le_of_eq hc
    clear hc
    go_wp2_with fail
    refine (cut_any oa len cap b o K M S w1 (row_kept HR.out K1)).mono ?_
    rintro e w2 ⟨rfl, rfl⟩
    obtain ⟨L, hL⟩ : ∃ L, L = if len ≤ 300 then len else 300 := ⟨_, rfl⟩
    rw [← hL]
    have HL : Hid (Row w oa L cap b o K M S) := row_less HR.out (by rw [hL]; split <;> omega)
    have L3 : L ≤ 300 := by rw [hL]; split <;> omega
    clear hL HR
    have N0 := new_ok false HM.out b1 b2
    have N1 := bound_new node time drift false HM.out b2
    go_wp2_with fail
    go_loopw [34] (fun i wr => ∃ (j : Nat) (k : Clk), j ≤ L ∧ i = .int .i64 j ∧ Hid (Kept w wr) ∧ Hid k.ok ∧ Hid (Bound k) ∧ Hid (k.drift = drift ∧ k.node = node) ∧ Hid (Clock c k wr)) (fun i _ => L - (intOf i).toNat)
    case atStart => exact ⟨0, _, Nat.zero_le _, rfl, K1, N0, N1, ⟨rfl, rfl⟩, C1⟩
    case round =>
      obtain ⟨j, k, hj, rfl, HK, HO, HB, HDr, HCl⟩ := hrel
      clear K1 C1 N0 N1
      by_cases hlt : j < L
      · obtain ⟨rfl, hb⟩ := HL.out.2.2.2.1 (by omega)
        obtain ⟨wk, wm, so, c0, c1, c2, c3, c4⟩ := (row_kept HL.out HK.out).2.2.2.2 j hlt
        by_cases e0 : K j = 0
        · have f0 : (K j == 0) = true := by simpa using e0
          clear e0
          go_wp2_with fail
          refine (now_any c k HO.out _ (at_alloc HCl.out _)).mono ?_
          rintro e w3 ⟨rfl, T3, C3⟩
          have K3 : Kept w w3 := kept_turn (kept_alloc HK.out _) HC.out T3
          clear c0 c1 c2 c3 c4 T3
          obtain ⟨k', hk'⟩ : ∃ k', k' = (nowK k).2.2 := ⟨_, rfl⟩
          rw [← hk'] at C3
          have HO3 : Hid k'.ok := by rw [hk']; exact (now_ok HO.out).1
          have HB3 : Hid (Bound k') := by rw [hk']; exact bound_now HO.out HB.out
          have HD3 : Hid (k'.drift = drift ∧ k'.node = node) := by rw [hk']; exact ⟨(now_fields k).2.1.trans HDr.out.1, (now_fields k).2.2.1.trans HDr.out.2⟩
          clear hk'
          go_wp2_with fail
          go_roundw
          case rel => exact ⟨j + 1, k', by omega, by go_num, K3, HO3, HB3, HD3, C3⟩
          case measure => simp [intOf]; omega
        · have f0 : (K j == 0) = false := by simpa using e0
          clear e0
          by_cases e1 : K j = 1
          · have f1 : (K j == 1) = true := by simpa using e1
            clear e1
            go_wp2_with fail
            refine (see_any c k HO.out (S j) _ (at_alloc HCl.out _)).mono ?_
            rintro e w3 ⟨rfl, T3, C3⟩
            have K3 : Kept w w3 := kept_turn (kept_alloc HK.out _) HC.out T3
            clear c0 c1 c2 c3 c4 T3
            obtain ⟨k', hk'⟩ : ∃ k', k' = (seeK k (S j)).2 := ⟨_, rfl⟩
            rw [← hk'] at C3
            have HO3 : Hid k'.ok := by rw [hk']; exact see_ok HO.out so
            have HB3 : Hid (Bound k') := by rw [hk']; exact bound_see HB.out _
            have HD3 : Hid (k'.drift = drift ∧ k'.node = node) := by rw [hk']; exact ⟨(see_fields k (S j)).2.1.trans HDr.out.1, (see_fields k (S j)).2.2.1.trans HDr.out.2⟩
            clear hk'
            go_wp2_with fail
            go_roundw
            case rel => exact ⟨j + 1, k', by omega, by go_num, K3, HO3, HB3, HD3, C3⟩
            case measure => simp [intOf]; omega
          · have f1 : (K j == 1) = false := by simpa using e1
            clear e1
            go_wp2_with fail
            refine (pass_any c k HO.out (M j) wm _ (at_alloc HCl.out _)).mono ?_
            rintro e w3 ⟨rfl, T3, C3⟩
            have K3 : Kept w w3 := kept_turn (kept_alloc HK.out _) HC.out T3
            clear c0 c1 c2 c3 c4 T3
            obtain ⟨k', hk'⟩ : ∃ k', k' = passK k (M j) := ⟨_, rfl⟩
            rw [← hk'] at C3
            have HO3 : Hid k'.ok := by rw [hk']; exact pass_ok HO.out _
            have HB3 : Hid (Bound k') := by rw [hk']; exact bound_pass HO.out HB.out _
            have HD3 : Hid (k'.drift = drift ∧ k'.node = node) := by rw [hk']; exact ⟨(pass_fields k (M j)).1.trans HDr.out.1, (pass_fields k (M j)).2.1.trans HDr.out.2⟩
            clear hk'
            go_wp2_with fail
            go_roundw
            case rel => exact ⟨j + 1, k', by omega, by go_num, K3, HO3, HB3, HD3, C3⟩
            case measure => simp [intOf]; omega
      · clear HL
        go_wp2_with fail
        refine (time_any c k _ HCl.out).mono ?_
        rintro e w3 ⟨rfl, rfl⟩
        have HP : Hid (mayNew node k.time drift) := by have := may_again HO.out; rw [HDr.out.1, HDr.out.2] at this; exact this
        have t0 : 0 ≤ k.time := HO.out.2.2.1
        go_wp2_with fail
        refine (new_good node k.time drift true HP.out b1 t0 _).mono ?_
        rintro e w4 ⟨rfl, k4, C4⟩
        have K4 := kept_trans HK.out k4
        have D4 := clock_kept HCl.out k4
        have HE : Hid (w.heap.size ≤ w3.heap.size) := HK.out.2
        have HN : Hid (c ≠ w3.heap.size) := Nat.ne_of_lt (at_lt HCl.out)
        have HW : Hid (k.last.p < (newK node k.time drift true).wakes) := by
          have := HB.out
          unfold Bound at this
          rw [HDr.out.1] at this
          show k.last.p < k.time + drift + 1
          omega
        have M0 := new_ok true HP.out b1 t0
        clear k4 HK HCl HB HDr HP hlt hj
        generalize w3.heap.size = d at *
        clear w3
        go_wp2_with fail
        refine (cut_any oa' len' cap' b' o' K' M' S' w4 (row_kept HR'.out K4)).mono ?_
        rintro e w5 ⟨rfl, rfl⟩
        obtain ⟨L', hL'⟩ : ∃ L, L = if len' ≤ 300 then len' else 300 := ⟨_, rfl⟩
        rw [← hL']
        have HL' : Hid (Row w oa' L' cap' b' o' K' M' S') := row_less HR'.out (by rw [hL']; split <;> omega)
        have L3' : L' ≤ 300 := by rw [hL']; split <;> omega
        clear hL' HR'
        go_wp2_with fail
        go_loopw [72] (fun i wr => ∃ (j : Nat) (q : Clk), j ≤ L' ∧ i = .int .i64 j ∧ Hid (Kept w wr) ∧ Hid q.ok ∧ Hid (k.last.p < q.wakes) ∧ Hid (Clock c k wr) ∧ Hid (Clock d q wr)) (fun i _ => L' - (intOf i).toNat)
        case atStart => exact ⟨0, _, Nat.zero_le _, rfl, K4, M0, HW, D4, C4⟩
        case round =>
          obtain ⟨j, q, hj, rfl, HK, HQ, HWk, HCl, HDl⟩ := hrel
          clear K4 M0 HW D4 C4
          by_cases hlt : j < L'
          · obtain ⟨rfl, hb⟩ := HL'.out.2.2.2.1 (by omega)
            obtain ⟨wk, wm, so, c0, c1, c2, c3, c4⟩ := (row_kept HL'.out HK.out).2.2.2.2 j hlt
            by_cases e0 : K' j = 0
            · have f0 : (K' j == 0) = true := by simpa using e0
              clear e0
              go_wp2_with fail
              refine (now_any d q HQ.out _ (at_alloc HDl.out _)).mono ?_
              rintro e w3 ⟨rfl, T3, C3⟩
              have K3 : Kept w w3 := kept_turn (kept_alloc HK.out _) HE.out T3
              have D3 : Clock c k w3 := clock_turn (at_alloc HCl.out _) T3 HN.out
              clear c0 c1 c2 c3 c4 T3
              have HQ3 : Hid (nowK q).2.2.ok := (now_ok HQ.out).1
              have HW3 : Hid (k.last.p < (nowK q).2.2.wakes) := by rw [(now_fields q).2.2.2]; exact HWk.out
              have HLt : Hid ((nowK q).2.1 = 0 → lt k.last (nowK q).1 = true) := fun h => (lt_iff _ _).2 (.inl (lives HWk.out h))
              clear HQ HWk HK HCl HDl
              generalize nowK q = A at *
              obtain ⟨s, er, q'⟩ := A
              simp only at C3 HQ3 HW3 HLt ⊢
              have K4 := kept_alloc K3 (.cells #[.int .u64 s.p, .int .u32 s.l, .int .u8 s.n] 25)
              have C4 : Clock d q' (w3.alloc (.cells #[.int .u64 s.p, .int .u32 s.l, .int .u8 s.n] 25)) := at_alloc C3 _
              have D4 : Clock c k (w3.alloc (.cells #[.int .u64 s.p, .int .u32 s.l, .int .u8 s.n] 25)) := at_alloc D3 _
              have A4 := at_new w3 #[.int .u64 s.p, .int .u32 s.l, .int .u8 s.n] 25
              clear K3 C3 D3
              go_wp2_with fail
              generalize w3.alloc (.cells #[.int .u64 s.p, .int .u32 s.l, .int .u8 s.n] 25) = w4 at *
              generalize w3.heap.size = X at *
              by_cases her : er = 0
              · have hlt' : lt k.last s = true := HLt.out her
                subst her
                obtain ⟨x0, x1, x2, -⟩ := at_cells3 A4
                have k4 : Kept w4 w4.drew := kept_refl w4
                go_region_held3 (fun w' => w'.cell? ⟨X, 0, none⟩ = some (.int .u64 s.p) ∧ w'.cell? ⟨X, 1, none⟩ = some (.int .u32 s.l) ∧ w'.cell? ⟨X, 2, none⟩ = some (.int .u8 s.n)) (first | exact ⟨x0, x1, x2⟩ | (obtain ⟨y0, y1, y2, -⟩ := at_cells3 (at_kept A4 k4); exact ⟨y0, y1, y2⟩)) (first
                  | (go_at_call 22; refine (last_any c k _ (clock_kept D4 k4)).mono ?_; rintro e w6 ⟨rfl, h6⟩; replace k4 := kept_trans k4 h6; clear h6)
                  | (go_at_call 23; refine (less_any _ _ _).mono ?_; rintro e w6 ⟨rfl, h6⟩; replace k4 := kept_trans k4 h6; clear h6))
                have K5 := kept_trans K4 k4
                have C5 := clock_kept C4 k4
                have D5 := clock_kept D4 k4
                clear K4 C4 D4 A4 k4 x0 x1 x2
                go_wp2_with fail
                go_roundw
                case rel => exact ⟨j + 1, q', by omega, by go_num, K5, HQ3, HW3, D5, C5⟩
                case measure => simp [intOf]; omega
              · have her' : (er == 0) = false := by simpa using her
                clear her HLt
                go_region
                go_wp2_with fail
                go_roundw
                case rel => exact ⟨j + 1, q', by omega, by go_num, kept_drew K4, HQ3, HW3, D4, C4⟩
                case measure => simp [intOf]; omega
            · have f0 : (K' j == 0) = false := by simpa using e0
              clear e0
              by_cases e1 : K' j = 1
              · have f1 : (K' j == 1) = true := by simpa using e1
                clear e1
                go_wp2_with fail
                refine (see_any d q HQ.out (S' j) _ (at_alloc HDl.out _)).mono ?_
                rintro e w3 ⟨rfl, T3, C3⟩
                have K3 : Kept w w3 := kept_turn (kept_alloc HK.out _) HE.out T3
                have D3 : Clock c k w3 := clock_turn (at_alloc HCl.out _) T3 HN.out
                clear c0 c1 c2 c3 c4 T3
                obtain ⟨q', hq'⟩ : ∃ q', q' = (seeK q (S' j)).2 := ⟨_, rfl⟩
                rw [← hq'] at C3
                have HQ3 : Hid q'.ok := by rw [hq']; exact see_ok HQ.out so
                have HW3 : Hid (k.last.p < q'.wakes) := by rw [hq', (see_fields q (S' j)).2.2.2]; exact HWk.out
                clear hq'
                go_wp2_with fail
                go_roundw
                case rel => exact ⟨j + 1, q', by omega, by go_num, K3, HQ3, HW3, D3, C3⟩
                case measure => simp [intOf]; omega
              · have f1 : (K' j == 1) = false := by simpa using e1
                clear e1
                go_wp2_with fail
                refine (pass_any d q HQ.out (M' j) wm _ (at_alloc HDl.out _)).mono ?_
                rintro e w3 ⟨rfl, T3, C3⟩
                have K3 : Kept w w3 := kept_turn (kept_alloc HK.out _) HE.out T3
                have D3 : Clock c k w3 := clock_turn (at_alloc HCl.out _) T3 HN.out
                clear c0 c1 c2 c3 c4 T3
                obtain ⟨q', hq'⟩ : ∃ q', q' = passK q (M' j) := ⟨_, rfl⟩
                rw [← hq'] at C3
                have HQ3 : Hid q'.ok := by rw [hq']; exact pass_ok HQ.out _
                have HW3 : Hid (k.last.p < q'.wakes) := by rw [hq', (pass_fields q (M' j)).2.2.1]; exact HWk.out
                clear hq'
                go_wp2_with fail
                go_roundw
                case rel => exact ⟨j + 1, q', by omega, by go_num, K3, HQ3, HW3, D3, C3⟩
                case measure => simp [intOf]; omega
          · go_wp2_with fail
            refine (fixed_any _).mono ?_
            rintro e w6 ⟨rfl, k6⟩
            have K6 := kept_trans HK.out k6
            go_wp2_with fail
            go_ret
            exact ⟨rfl, K6⟩
  · clear hr hr'
    go_enter Try.func7, Try.ntmps7
    go_wp2_with fail
    refine (new_bad node time drift false hm _).mono ?_
    rintro e w1 ⟨rfl, rfl⟩
    go_wp2_with fail
    refine (fixed_any _).mono ?_
    rintro e w3 ⟨rfl, k3⟩
    go_wp2_with fail
    go_ret
    exact ⟨rfl, k3⟩
end Go.Proofs.Ytlhceekjhhdbeaa
