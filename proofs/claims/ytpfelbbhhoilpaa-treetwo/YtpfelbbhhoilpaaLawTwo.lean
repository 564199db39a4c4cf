/- The law on two trees that are walked from either side, and on the order of flips, walked: it answers true and turns nothing that was there. -/
import Derived.Test.YtpfelbbhhoilpaaOf
namespace Go.Proofs.Ytpfelbbhhoilpaa
open Go.ChangeShapes Go.WideShapes Go.ChangeAt Go.RowKit
set_option linter.unusedVariables false
set_option linter.unusedSimpArgs false
set_option maxRecDepth 100000

set_option maxHeartbeats 6400000 in
theorem two_walk (oa : Option Addr) (len cap b o : Nat) (S : Nat → Fx) (oa' : Option Addr) (len' cap' b' o' : Nat) (S' : Nat → Fx) (w : World) (hr : Row w oa len cap b o S) (hr' : Row w oa' len' cap' b' o' S') :
    Calls Try.prog 8 #[.slice oa len cap, .slice oa' len' cap'] w fun e w' => e = .returned (.bool true) ∧ Kept w w' := by
  have HRw := hid hr
  have HRv := hid hr'
  have h1 := hr.1
  have h2 := hr.2.1
  unfold maxLen at h2
  clear hr hr'
  go_enter Try.func8, Try.ntmps8
  go_wp2_with fail
  refine (new_any w).mono ?_
  rintro e w1 ⟨rfl, k1, t1, s1⟩
  obtain ⟨X, hX⟩ : ∃ X, w.heap.size = X := ⟨_, rfl⟩
  have HX := hid hX
  rw [hX] at t1 s1 ⊢
  have HL1 : Hid (w1.heap.size = X + 1) := hid s1
  have HK1 := hid k1
  have HT1 := hid t1
  clear k1 t1 s1 hX
  go_wp2_with fail
  refine (new_any w1).mono ?_
  rintro e w2 ⟨rfl, k2, t2, s2⟩
  obtain ⟨Y, hY⟩ : ∃ Y, w1.heap.size = Y := ⟨_, rfl⟩
  rw [hY] at t2 s2 HL1 ⊢
  have HL2 : Hid (w2.heap.size = Y + 1) := hid s2
  have HK2 := hid (kept_trans HK1.out k2)
  have HT2 := hid (tr_kept HT1.out k2)
  have HU2 := hid t2
  clear k2 t2 s2 hY HK1 HT1
  go_wp2_with fail
  refine (new_any w2).mono ?_
  rintro e w3 ⟨rfl, k3, t3, s3⟩
  obtain ⟨V, hV⟩ : ∃ V, w2.heap.size = V := ⟨_, rfl⟩
  rw [hV] at t3 s3 HL2 ⊢
  have HL : Hid (X < Y ∧ Y < V ∧ w.heap.size = X) := hid ⟨by have := HL1.out; omega, by have := HL2.out; omega, HX.out⟩
  have HK3 := hid (kept_trans HK2.out k3)
  have HT3 := hid (tr_kept HT2.out k3)
  have HU3 := hid (tr_kept HU2.out k3)
  have HV3 := hid t3
  clear k3 t3 s3 hV HK2 HT2 HU2 HL1 HL2 HX
  go_wp2_with fail
  refine (fixed_any w3).mono ?_
  rintro e w4 ⟨rfl, k4⟩
  have HK4 := hid (kept_trans HK3.out k4)
  have HT4 := hid (tr_kept HT3.out k4)
  have HU4 := hid (tr_kept HU3.out k4)
  have HV4 := hid (tr_kept HV3.out k4)
  clear k4 HK3 HT3 HU3 HV3
  by_cases hbig : 100 < len
  · have d1 : decide ((100 : Int) < (len : Int)) = true := by simp; omega
    clear hbig
    go_wp2_with fail
    refine (fixed_any w4).mono ?_
    rintro e w5 ⟨rfl, k5⟩
    go_wp2_with fail
    go_ret
    exact ⟨rfl, kept_trans HK4.out k5⟩
  · have d1 : decide ((100 : Int) < (len : Int)) = false := by simp; omega
    have hmn : mn len = len := mn_end (by omega)
    have HF4 := hid (flips_any w4 HT4.out (ops_kept HRw.out HK4.out) (fun hl => by have := (HRw.out.2.2.2.1 hl).2; have := HL.out; omega))
    rw [hmn] at HF4
    have HS : Hid (Eq64 (fr S len len) (fl S len)) := hid (fr_fl S len HRw.out.2.2.2.2.2)
    clear hmn
    go_wp2_with fail
    clear d1
    refine HF4.out.mono ?_
    rintro e w5 ⟨rfl, t5, r5⟩
    have HT5 := hid r5
    have HK5 := hid (kept_turn HK4.out (by have := HL.out; omega) t5)
    have HU5 := hid (tr_turn HU4.out t5 (by have := HL.out; omega))
    have HV5 := hid (tr_turn HV4.out t5 (by have := HL.out; omega))
    clear t5 r5 HF4 HT4 HK4 HU4 HV4
    have HF5 := hid (flips_any w5 HU5.out (ops_kept HRv.out HK5.out) (fun hl => by have := (HRv.out.2.2.2.1 hl).2; have := HL.out; omega))
    generalize nv (fl S len) 64 = na at *
    go_wp2_with fail
    refine HF5.out.mono ?_
    rintro e w6 ⟨rfl, t6, r6⟩
    have HU6 := hid r6
    have HK6 := hid (kept_turn HK5.out (by have := HL.out; omega) t6)
    have HT6 := hid (tr_turn HT5.out t6 (by have := HL.out; omega))
    have HV6 : Hid (Tr w6 V (fr S len 0)) := hid (tr_turn HV5.out t6 (by have := HL.out; omega))
    clear t6 r6 HF5 HT5 HK5 HU5 HV5
    generalize fl S' (mn len') = M at *
    generalize nv M 64 = nb at *
    have HNE : Hid (X ≠ V ∧ Y ≠ V ∧ w.heap.size ≤ V) := hid (by have := HL.out; omega)
    have HBV : Hid (0 < len → b < w.heap.size) := hid (fun hl => (HRw.out.2.2.2.1 hl).2)
    obtain ⟨z, hz⟩ : ∃ z : Int, (len : Int) - 1 = z := ⟨_, rfl⟩
    have hz2 : wrap64 ((len : Int) - 1) = z := by rw [← hz]; unfold wrap64; omega
    go_wp2_with fail
    clear hz2
    go_loopw [8] (fun i wr => ∃ (m : Nat) (y : Int), m ≤ len ∧ i = .int .i64 y ∧ y = (len : Int) - 1 - (m : Int) ∧ Hid (Tr wr X (fl S len)) ∧ Hid (Tr wr Y M) ∧ Hid (Tr wr V (fr S len m)) ∧ Hid (Kept w wr)) (fun i _ => (intOf i + 1).toNat)
    case atStart => exact ⟨0, z, Nat.zero_le _, rfl, by omega, HT6, HU6, HV6, HK6⟩
    case round =>
      obtain ⟨m, y, hm, rfl, hy, HT, HU, HV, HK⟩ := hrel
      clear HT6 HU6 HV6 HK6 hz
      by_cases hlt : m < len
      · obtain ⟨p, hp⟩ : ∃ p, len - (m + 1) = p := ⟨_, rfl⟩
        have hyp : y = (p : Int) := by omega
        subst hyp
        obtain ⟨rfl, hb⟩ := HRw.out.2.2.2.1 (by omega)
        have HC : Hid (∀ u, Kept w u → u.cell? ⟨b, o + p * 2, none⟩ = some (.int .i64 (S p).i) ∧ u.cell? ⟨b, o + p * 2 + 1, none⟩ = some (.int .u64 (S p).x)) := hid (fun u k => (ops_kept HRw.out k).2.2.2.2.1 p (by omega))
        have HFn : Hid (fr S len (m + 1) = flipO (S p) (fr S len m)) := hid (by show flipO (S (len - (m + 1))) _ = _; rw [hp])
        have hpl : p < len := by omega
        have hpi : (p : Int) < (len : Int) := by omega
        have HP : Hid ((p : Int) = (len : Int) - 1 - (m : Int)) := hid hy
        clear hy hp
        generalize S p = s at *
        go_wp2_with fail
        have hS0 := HC.out _ HK.out
        replace HT := hid (tr_kept HT.out (kept_drew (kept_refl wr)))
        replace HU := hid (tr_kept HU.out (kept_drew (kept_refl wr)))
        replace HV := hid (tr_kept HV.out (kept_drew (kept_refl wr)))
        replace HK := hid (kept_drew HK.out)
        have HF := hid (flip_any s _ HV.out)
        have HSn : Hid (∀ u, Turn V wr.drew u → u.cell? ⟨b, o + p * 2, none⟩ = some (.int .i64 s.i) ∧ u.cell? ⟨b, o + p * 2 + 1, none⟩ = some (.int .u64 s.x)) := hid (fun u t => HC.out _ (kept_turn HK.out HNE.out.2.2 t))
        refine wp_region_noPanic ?_
        refine wp_region_held_drew (S := (fun w' => (w'.cell? ⟨b, o + p * 2, none⟩ = some (.int .i64 s.i)) ∧ (w'.cell? ⟨b, o + p * 2 + 1, none⟩ = some (.int .u64 s.x)))) (by kernel_rfl) (by assumption) (fun hHeld => ?_)
        refine wpAnyH_take (i := 0) (v := .pointer (some ⟨V, 0, none⟩)) rfl (by kernel_rfl) (by kernel_rfl) (by kernel_rfl) (fun _ _ _ h => h) (Or.inl ⟨by rfl, fun w hSw => by (try dsimp only at hSw); go_simp⟩) (by assumption) ?_
        try simp only [List.getElem_toArray, List.getElem_cons_zero, List.getElem_cons_succ, Act.put, List.setIfInBounds_toArray, List.set_cons_zero, List.set_cons_succ]
        refine wpAnyH_take (i := 1) (v := .slice (some ⟨b, o, none⟩) len cap) rfl (by kernel_rfl) (by kernel_rfl) (by kernel_rfl) (fun _ _ _ h => h) (Or.inl ⟨by rfl, fun w hSw => by (try dsimp only at hSw); go_simp⟩) (by assumption) ?_
        try simp only [List.getElem_toArray, List.getElem_cons_zero, List.getElem_cons_succ, Act.put, List.setIfInBounds_toArray, List.set_cons_zero, List.set_cons_succ]
        refine wpAnyH_take (i := 2) (v := .int .i64 (p : Int)) rfl (by kernel_rfl) (by kernel_rfl) (by kernel_rfl) (fun _ _ _ h => h) (Or.inl ⟨by rfl, fun w hSw => by (try dsimp only at hSw); go_simp⟩) (by assumption) ?_
        try simp only [List.getElem_toArray, List.getElem_cons_zero, List.getElem_cons_succ, Act.put, List.setIfInBounds_toArray, List.set_cons_zero, List.set_cons_succ]
        refine wpAnyH_take (i := 3) (v := .pointer (some ⟨b, o + p * 2, none⟩)) rfl (by kernel_rfl) (by kernel_rfl) (by kernel_rfl) (fun _ _ _ h => h) (Or.inl ⟨by rfl, fun w hSw => by (try dsimp only at hSw); go_simp⟩) (by assumption) ?_
        try simp only [List.getElem_toArray, List.getElem_cons_zero, List.getElem_cons_succ, Act.put, List.setIfInBounds_toArray, List.set_cons_zero, List.set_cons_succ]
        refine wpAnyH_take (i := 4) (v := .pointer (some ⟨b, o + p * 2, none⟩)) rfl (by kernel_rfl) (by kernel_rfl) (by kernel_rfl) (fun _ _ _ h => h) (Or.inl ⟨by rfl, fun w hSw => by (try dsimp only at hSw); go_simp⟩) (by assumption) ?_
        try simp only [List.getElem_toArray, List.getElem_cons_zero, List.getElem_cons_succ, Act.put, List.setIfInBounds_toArray, List.set_cons_zero, List.set_cons_succ]
        refine wpAnyH_take (i := 5) (v := .int .i64 s.i) rfl (by kernel_rfl) (by kernel_rfl) (by kernel_rfl) (fun _ _ _ h => h) (Or.inl ⟨by rfl, fun w hSw => by (try dsimp only at hSw); go_simp⟩) (by assumption) ?_
        try simp only [List.getElem_toArray, List.getElem_cons_zero, List.getElem_cons_succ, Act.put, List.setIfInBounds_toArray, List.set_cons_zero, List.set_cons_succ]
        refine wpAnyH_take (i := 6) (v := .slice (some ⟨b, o, none⟩) len cap) rfl (by kernel_rfl) (by kernel_rfl) (by kernel_rfl) (fun _ _ _ h => h) (Or.inl ⟨by rfl, fun w hSw => by (try dsimp only at hSw); go_simp⟩) (by assumption) ?_
        try simp only [List.getElem_toArray, List.getElem_cons_zero, List.getElem_cons_succ, Act.put, List.setIfInBounds_toArray, List.set_cons_zero, List.set_cons_succ]
        refine wpAnyH_take (i := 7) (v := .int .i64 (p : Int)) rfl (by kernel_rfl) (by kernel_rfl) (by kernel_rfl) (fun _ _ _ h => h) (Or.inl ⟨by rfl, fun w hSw => by (try dsimp only at hSw); go_simp⟩) (by assumption) ?_
        try simp only [List.getElem_toArray, List.getElem_cons_zero, List.getElem_cons_succ, Act.put, List.setIfInBounds_toArray, List.set_cons_zero, List.set_cons_succ]
        refine wpAnyH_take (i := 8) (v := .pointer (some ⟨b, o + p * 2, none⟩)) rfl (by kernel_rfl) (by kernel_rfl) (by kernel_rfl) (fun _ _ _ h => h) (Or.inl ⟨by rfl, fun w hSw => by (try dsimp only at hSw); go_simp⟩) (by assumption) ?_
        try simp only [List.getElem_toArray, List.getElem_cons_zero, List.getElem_cons_succ, Act.put, List.setIfInBounds_toArray, List.set_cons_zero, List.set_cons_succ]
        refine wpAnyH_take (i := 9) (v := .pointer (some ⟨b, o + p * 2 + 1, none⟩)) rfl (by kernel_rfl) (by kernel_rfl) (by kernel_rfl) (fun _ _ _ h => h) (Or.inl ⟨by rfl, fun w hSw => by (try dsimp only at hSw); go_simp⟩) (by assumption) ?_
        try simp only [List.getElem_toArray, List.getElem_cons_zero, List.getElem_cons_succ, Act.put, List.setIfInBounds_toArray, List.set_cons_zero, List.set_cons_succ]
        refine wpAnyH_take (i := 10) (v := .int .u64 s.x) rfl (by kernel_rfl) (by kernel_rfl) (by kernel_rfl) (fun _ _ _ h => h) (Or.inl ⟨by rfl, fun w hSw => by (try dsimp only at hSw); go_simp⟩) (by assumption) ?_
        try simp only [List.getElem_toArray, List.getElem_cons_zero, List.getElem_cons_succ, Act.put, List.setIfInBounds_toArray, List.set_cons_zero, List.set_cons_succ]
        refine wpAnyH_ready (rs := [11]) (by kernel_rfl) (by simp) ?_
        refine AllReadyH.cons (i := 11) rfl (fun K hK => ?_) AllReadyH.nil
        go_simp
        refine (HF.out).mono ?_
        rintro e w4 ⟨rfl, t4, r4⟩
        have hS := HSn.out _ t4
        replace HV := hid r4
        replace HT := hid (tr_turn HT.out t4 HNE.out.1)
        replace HU := hid (tr_turn HU.out t4 HNE.out.2.1)
        replace HK := hid (kept_turn HK.out HNE.out.2.2 t4)
        clear t4 r4
        clear hHeld
        show K _ _
        refine hK.out _ _ (by assumption) (fun hHeld => ?_)
        clear hK K
        try simp only [List.getElem_toArray, List.getElem_cons_zero, List.getElem_cons_succ, Act.put, List.setIfInBounds_toArray, List.set_cons_zero, List.set_cons_succ]
        refine wpAnyH_done (by kernel_rfl) ?_ _
        refine NoPanic.normal ?_
        rw [← HFn.out] at HV
        clear hHeld hS HF HSn hS0
        have hq : wrap64 ((p : Int) - 1) = (p : Int) - 1 := by unfold wrap64; omega
        go_wp2_with fail
        go_roundw
        case rel => exact ⟨m + 1, (p : Int) - 1, by omega, rfl, by have := HP.out; omega, HT, HU, HV, HK⟩
        case measure => simp [intOf]
      · have hme : m = len := by omega
        have hyn : y < 0 := by omega
        have HVe : Hid (Tr wr V (fl S len)) := hid (by rw [hme] at HV; exact tr_ext HV.out HS.out)
        have HPe : Hid (y = (len : Int) - 1 - (m : Int)) := hid hy
        clear HV hme hy hm hlt
        generalize fl S len = L at *
        have HWa := hid (fun u (h1 : Tr u X L) (h2 : Tr u Y M) => walk_any u h1.1 h2.1)
        have HWb := hid (fun u (h1 : Tr u X L) (h2 : Tr u Y M) => walk_any u h2.1 h1.1)
        have HE := hid (wk_sym (nod M) (nod L) 1)
        have HA := hid (wk_all (nod L) (nod M))
        go_wp2_with fail
        refine (HWa.out _ HT.out HU.out).mono ?_
        rintro e w7 ⟨v7, rfl, o7, k7⟩
        have HT7 := hid (tr_kept HT.out k7)
        have HU7 := hid (tr_kept HU.out k7)
        have HV7 := hid (tr_kept HVe.out k7)
        have HK7 := hid (kept_trans HK.out k7)
        have HO7 := hid (rw_own o7)
        clear o7 k7 HT HU HVe HK HWa
        go_wp2_with fail
        refine (HWb.out _ HT7.out HU7.out).mono ?_
        rintro e w8 ⟨v8, rfl, o8, k8⟩
        rw [HE.out.1] at o8
        rw [HE.out.2]
        have HT8 := hid (tr_kept HT7.out k8)
        have HV8 := hid (tr_kept HV7.out k8)
        have HK8 := hid (kept_trans HK7.out k8)
        have HSm := hid (same_any (cs (wk (nod L) (nod M) 1)) (by rw [cs_len]; have := HA.out.2.2.1; omega) _ _ _ (rw_kept HO7.out k8) (rw_own o8))
        clear o8 k8 HT7 HU7 HV7 HK7 HO7 HWb HE HA
        generalize cn (nod L) (nod M) 1 = c at *
        have hcc : ((c : Int) == (c : Int)) = true := by simp
        go_wp2_with fail
        refine HSm.out.mono ?_
        rintro e w9 ⟨rfl, k9⟩
        have HT9 := hid (tr_kept HT8.out k9)
        have HV9 := hid (tr_kept HV8.out k9)
        have HK9 := hid (kept_trans HK8.out k9)
        clear k9 HT8 HV8 HK8 HSm
        have hA := root_any _ HT9.out
        have HB := hid (fun w1 (h : Tr w1 V L) => root_any w1 h)
        generalize nod L 1 = r at *
        have hee : (r == r) = true := by simp
        go_wp2_with fail
        refine hA.mono ?_
        rintro e w10 ⟨rfl, k10⟩
        have HT10 := hid (tr_kept HT9.out k10)
        have HV10 := hid (tr_kept HV9.out k10)
        have HK10 := hid (kept_trans HK9.out k10)
        clear k10 HT9 HV9 HK9 hA
        go_wp2_with fail
        refine (HB.out _ HV10.out).mono ?_
        rintro e w11 ⟨rfl, k11⟩
        have HT11 := hid (tr_kept HT10.out k11)
        have HV11 := hid (tr_kept HV10.out k11)
        have HK11 := hid (kept_trans HK10.out k11)
        clear k11 HT10 HV10 HK10 HB
        go_wp2_with fail
        refine (leaves_any _ HT11.out).mono ?_
        rintro e w12 ⟨v12, rfl, r12, k12⟩
        have HV12 := hid (tr_kept HV11.out k12)
        have HK12 := hid (kept_trans HK11.out k12)
        have HR12 := hid r12
        clear r12 k12 HT11 HV11 HK11
        go_wp2_with fail
        refine (leaves_any _ HV12.out).mono ?_
        rintro e w13 ⟨v13, rfl, r13, k13⟩
        have HK13 := hid (kept_trans HK12.out k13)
        have HSu := hid (sameu_any L 64 (by omega) _ _ _ (ra_kept HR12.out k13) r13)
        clear r13 k13 HR12 HV12 HK12
        go_wp2_with fail
        refine HSu.out.mono ?_
        rintro e w14 ⟨rfl, k14⟩
        go_wp2_with fail
        go_ret
        exact ⟨rfl, kept_trans HK13.out k14⟩
end Go.Proofs.Ytpfelbbhhoilpaa
