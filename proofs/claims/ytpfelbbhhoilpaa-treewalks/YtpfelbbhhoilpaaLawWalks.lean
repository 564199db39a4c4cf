/- The law on which leaves a walk finds, walked: it answers true and turns nothing that was there. -/
import Derived.Test.YtpfelbbhhoilpaaRefWalk
namespace Go.Proofs.Ytpfelbbhhoilpaa
open Go.ChangeShapes Go.WideShapes Go.ChangeAt Go.RowKit
set_option linter.unusedVariables false
set_option linter.unusedSimpArgs false
set_option maxRecDepth 100000

set_option maxHeartbeats 6400000 in
theorem walks_walk (oa : Option Addr) (len cap b o : Nat) (S : Nat → Fx) (oa' : Option Addr) (len' cap' b' o' : Nat) (S' : Nat → Fx) (w : World) (hr : Row w oa len cap b o S) (hr' : Row w oa' len' cap' b' o' S') :
    Calls Try.prog 4 #[.slice oa len cap, .slice oa' len' cap'] w fun e w' => e = .returned (.bool true) ∧ Kept w w' := by
  have hz31 := zero31
  have HRw := hid hr
  have HRv := hid hr'
  clear hr hr'
  go_enter Try.func4, Try.ntmps4
  go_wp2_with fail
  refine (new_any w).mono ?_
  rintro e w1 ⟨rfl, k1, t1, s1⟩
  obtain ⟨X, hX⟩ : ∃ X, w.heap.size = X := ⟨_, rfl⟩
  have HX := hid hX
  rw [hX] at t1 s1 ⊢
  have HL1 : Hid (w1.heap.size = X + 1) := hid s1
  have HK1 := hid k1
  have HT1 := hid t1
  clear k1 t1 s1 hX
  go_wp2_with fail
  refine (new_any w1).mono ?_
  rintro e w2 ⟨rfl, k2, t2, s2⟩
  obtain ⟨Y, hY⟩ : ∃ Y, w1.heap.size = Y := ⟨_, rfl⟩
  rw [hY] at t2 s2 HL1 ⊢
  have HL : Hid (X < Y ∧ w.heap.size = X) := hid ⟨by have := HL1.out; omega, HX.out⟩
  have HK2 := hid (kept_trans HK1.out k2)
  have HT2 := hid (tr_kept HT1.out k2)
  have HU2 := hid t2
  clear k2 t2 s2 hY HK1 HT1 HL1 HX
  go_wp2_with fail
  refine (fixed_any w2).mono ?_
  rintro e w4 ⟨rfl, k4⟩
  have HK4 := hid (kept_trans HK2.out k4)
  have HT4 := hid (tr_kept HT2.out k4)
  have HU4 := hid (tr_kept HU2.out k4)
  clear k4 HK2 HT2 HU2
  have HF4 := hid (flips_any w4 HT4.out (ops_kept HRw.out HK4.out) (fun hl => by have := (HRw.out.2.2.2.1 hl).2; have := HL.out; omega))
  go_wp2_with fail
  refine HF4.out.mono ?_
  rintro e w5 ⟨rfl, t5, r5⟩
  have HT5 := hid r5
  have HK5 := hid (kept_turn HK4.out (by have := HL.out; omega) t5)
  have HU5 := hid (tr_turn HU4.out t5 (by have := HL.out; omega))
  clear t5 r5 HF4 HT4 HK4 HU4
  have HF5 := hid (flips_any w5 HU5.out (ops_kept HRv.out HK5.out) (fun hl => by have := (HRv.out.2.2.2.1 hl).2; have := HL.out; omega))
  go_wp2_with fail
  refine HF5.out.mono ?_
  rintro e w6 ⟨rfl, t6, r6⟩
  have HU6 := hid r6
  have HK6 := hid (kept_turn HK5.out (by have := HL.out; omega) t6)
  have HT6 := hid (tr_turn HT5.out t6 (by have := HL.out; omega))
  clear t6 r6 HF5 HT5 HK5 HU5
  generalize fl S (mn len) = L at *
  generalize fl S' (mn len') = M at *
  obtain ⟨w7, A, B, wa, wb, wc, h7⟩ := two31 w6 L M
  have HA7 := hid h7.a1
  have HB7 := hid h7.a2
  have HK7 := hid (kept_trans HK6.out h7.k)
  have HT7 := hid (tr_kept HT6.out h7.k)
  have HU7 := hid (tr_kept HU6.out h7.k)
  have hal := h7.al
  have hbl := h7.bl
  have hha := h7.ha
  have hhb := h7.hb
  have HS1 := hid h7.st1
  have HS2 := hid h7.st2
  have HWL := hid HT6.out.2
  have HWM := hid HU6.out.2
  clear h7 HK6 HT6 HU6
  have HS0 : Hid (∀ u, Kept w7 u → (loadVar 31 ⟨A, 0, none⟩).run Try.prog u = .ok (.agg (nv L 64)) u ∧ (loadVar 31 ⟨B, 0, none⟩).run Try.prog u = .ok (.agg (nv M 64)) u) := hid (fun u k => ⟨load31 (at_kept HA7.out k), load31 (at_kept HB7.out k)⟩)
  have HRW := hid (fun u => refwalk_any HWL.out HWM.out 6 0 0 rfl (by simp) u)
  have HRp := hid (fun u => refapart_any L M u)
  obtain ⟨na, hna⟩ : ∃ na, nv L 64 = na := ⟨_, rfl⟩
  obtain ⟨nb, hnb⟩ : ∃ nb, nv M 64 = nb := ⟨_, rfl⟩
  rw [hna] at HS1 HS0 HRW HRp ⊢
  rw [hnb] at HS2 HS0 HRW HRp ⊢
  clear hna hnb HA7 HB7
  go_wp2_with (first | (refine wpList_store31 rfl _ _ rfl A rfl na rfl wc HS1.out ?_) | (refine wpList_store31 rfl _ _ rfl B rfl nb rfl w7 HS2.out ?_))
  clear hal hbl hha hhb HS1 HS2
  have HW7 := hid (walk_any w7 HT7.out.1 HU7.out.1)
  refine HW7.out.mono ?_
  rintro e w8 ⟨v8, rfl, o8, k8⟩
  have HO8 := hid (rw_own o8)
  have HK8 := hid k8
  have HL8 := hid (HS0.out w8 k8)
  clear o8 k8 HW7
  go_wp2_with (first | (refine wpList_load31 rfl _ rfl A rfl na HL8.out.1 ?_) | (refine wpList_load31 rfl _ rfl B rfl nb HL8.out.2 ?_))
  refine (HRW.out w8).mono ?_
  rintro e w9 ⟨v9, rfl, o9, n9, k9⟩
  have e1 : 2 ^ 0 + 0 = 1 := rfl
  rw [e1] at o9 ⊢
  have HFew := hid (wk_all (nod L) (nod M))
  have HSm0 := hid (same_any (cs (wk (nod L) (nod M) 1)) (by rw [cs_len]; have := HFew.out.2.2.1; omega) v8 v9 w9.drew (rw_kept HO8.out (kept_drew k9)) (rw_kept (rw_own o9) (kept_drew (kept_refl w9))))
  have HK9 : Hid (Kept w7 w9) := hid (kept_trans HK8.out k9)
  have HK : Hid (Kept w7 w9.drew) := hid (kept_drew HK9.out)
  have HSm := HSm0
  have HS := HS0
  have HAp : Hid (∀ u, Kept w7 u → Calls Try.prog 21 #[.pointer (some ⟨X, 0, none⟩), .pointer (some ⟨Y, 0, none⟩)] u (RowC .i64 3 (cs (ap L M 64)) u)) := hid (fun u k => apart_any u (tr_kept HT7.out k) (tr_kept HU7.out k))
  have HSq : Hid (∀ va vb u, Rw .i64 u va (cs (ap L M 64)) → Rw .i64 u vb (cs (ap L M 64)) → Calls Try.prog 20 #[va, vb] u fun e w' => e = .returned (.bool true) ∧ Kept u w') := hid (fun va vb u h1 h2 => same_any _ (by rw [cs_len]; have := ap_len L M 64; omega) va vb u h1 h2)
  clear e1 o9 n9 k9 HO8 HK8 HL8 HRW HFew HSm0 HS0 HK9
  generalize cn (nod L) (nod M) 1 = c at *
  have hcc : ((c : Int) == (c : Int)) = true := by simp
  go_wp2_with fail
  have hS0 := HS.out _ HK.out
  refine wp_region_noPanic ?_
  refine wp_region_held_drew (S := (fun w' => (loadVar 31 ⟨A, 0, none⟩).run Try.prog w' = .ok (.agg na) w' ∧ (loadVar 31 ⟨B, 0, none⟩).run Try.prog w' = .ok (.agg nb) w')) (by kernel_rfl) (by assumption) (fun hHeld => ?_)
  generalize w9.drew = wz at *
  refine wpAnyH_take (i := 0) (v := v8) rfl (by kernel_rfl) (by kernel_rfl) (by kernel_rfl) (fun _ _ _ h => h) (Or.inl ⟨by rfl, fun w hSw => by (try dsimp only at hSw); go_simp⟩) (by assumption) ?_
  try simp only [List.getElem_toArray, List.getElem_cons_zero, List.getElem_cons_succ, Act.put, List.setIfInBounds_toArray, List.set_cons_zero, List.set_cons_succ]
  refine wpAnyH_take (i := 1) (v := v9) rfl (by kernel_rfl) (by kernel_rfl) (by kernel_rfl) (fun _ _ _ h => h) (Or.inl ⟨by rfl, fun w hSw => by (try dsimp only at hSw); go_simp⟩) (by assumption) ?_
  try simp only [List.getElem_toArray, List.getElem_cons_zero, List.getElem_cons_succ, Act.put, List.setIfInBounds_toArray, List.set_cons_zero, List.set_cons_succ]
  refine wpAnyH_ready (rs := [2]) (by kernel_rfl) (by simp) ?_
  refine AllReadyH.cons (i := 2) rfl (fun K hK => ?_) AllReadyH.nil
  go_simp
  refine (HSm.out).mono ?_
  rintro e wa ⟨rfl, ka⟩
  replace HK := hid (kept_trans HK.out ka)
  clear ka
  have hS := HS.out _ HK.out
  clear hHeld
  show K _ _
  refine hK.out _ _ (by assumption) (fun hHeld => ?_)
  clear hK K
  try simp only [List.getElem_toArray, List.getElem_cons_zero, List.getElem_cons_succ, Act.put, List.setIfInBounds_toArray, List.set_cons_zero, List.set_cons_succ]
  refine wpAnyH_take (i := 3) (v := .bool true) rfl (by kernel_rfl) (by kernel_rfl) (by kernel_rfl) (fun _ _ _ h => h) (Or.inl ⟨by rfl, fun w hSw => by (try dsimp only at hSw); go_simp⟩) (by assumption) ?_
  try simp only [List.getElem_toArray, List.getElem_cons_zero, List.getElem_cons_succ, Act.put, List.setIfInBounds_toArray, List.set_cons_zero, List.set_cons_succ]
  refine wpAnyH_take (i := 4) (v := .int .i64 (c : Int)) rfl (by kernel_rfl) (by kernel_rfl) (by kernel_rfl) (fun _ _ _ h => h) (Or.inl ⟨by rfl, fun w hSw => by (try dsimp only at hSw); go_simp⟩) (by assumption) ?_
  try simp only [List.getElem_toArray, List.getElem_cons_zero, List.getElem_cons_succ, Act.put, List.setIfInBounds_toArray, List.set_cons_zero, List.set_cons_succ]
  refine wpAnyH_take (i := 5) (v := .int .i64 (c : Int)) rfl (by kernel_rfl) (by kernel_rfl) (by kernel_rfl) (fun _ _ _ h => h) (Or.inl ⟨by rfl, fun w hSw => by (try dsimp only at hSw); go_simp⟩) (by assumption) ?_
  try simp only [List.getElem_toArray, List.getElem_cons_zero, List.getElem_cons_succ, Act.put, List.setIfInBounds_toArray, List.set_cons_zero, List.set_cons_succ]
  refine wpAnyH_take (i := 6) (v := .bool true) rfl (by kernel_rfl) (by kernel_rfl) (by kernel_rfl) (fun _ _ _ h => h) (Or.inl ⟨by rfl, fun w hSw => by (try dsimp only at hSw); go_simp⟩) (by assumption) ?_
  try simp only [List.getElem_toArray, List.getElem_cons_zero, List.getElem_cons_succ, Act.put, List.setIfInBounds_toArray, List.set_cons_zero, List.set_cons_succ]
  refine wpAnyH_take (i := 7) (v := .bool true) rfl (by kernel_rfl) (by kernel_rfl) (by kernel_rfl) (fun _ _ _ h => h) (Or.inl ⟨by rfl, fun w hSw => by (try dsimp only at hSw); go_simp⟩) (by assumption) ?_
  try simp only [List.getElem_toArray, List.getElem_cons_zero, List.getElem_cons_succ, Act.put, List.setIfInBounds_toArray, List.set_cons_zero, List.set_cons_succ]
  refine wpAnyH_take (i := 8) (v := .bool true) rfl (by kernel_rfl) (by kernel_rfl) (by kernel_rfl) (fun _ _ _ h => h) (Or.inl ⟨by rfl, fun w hSw => by (try dsimp only at hSw); go_simp⟩) (by assumption) ?_
  try simp only [List.getElem_toArray, List.getElem_cons_zero, List.getElem_cons_succ, Act.put, List.setIfInBounds_toArray, List.set_cons_zero, List.set_cons_succ]
  refine wpAnyH_take (i := 9) (v := .pointer (some ⟨X, 0, none⟩)) rfl (by kernel_rfl) (by kernel_rfl) (by kernel_rfl) (fun _ _ _ h => h) (Or.inl ⟨by rfl, fun w hSw => by (try dsimp only at hSw); go_simp⟩) (by assumption) ?_
  try simp only [List.getElem_toArray, List.getElem_cons_zero, List.getElem_cons_succ, Act.put, List.setIfInBounds_toArray, List.set_cons_zero, List.set_cons_succ]
  refine wpAnyH_take (i := 10) (v := .pointer (some ⟨Y, 0, none⟩)) rfl (by kernel_rfl) (by kernel_rfl) (by kernel_rfl) (fun _ _ _ h => h) (Or.inl ⟨by rfl, fun w hSw => by (try dsimp only at hSw); go_simp⟩) (by assumption) ?_
  try simp only [List.getElem_toArray, List.getElem_cons_zero, List.getElem_cons_succ, Act.put, List.setIfInBounds_toArray, List.set_cons_zero, List.set_cons_succ]
  refine wpAnyH_take (i := 12) (v := .agg na) rfl (by kernel_rfl) (by kernel_rfl) (by kernel_rfl) (fun _ _ _ h => h) (Or.inl ⟨by rfl, fun w hSw => exec_load31 _ rfl rfl hSw.1⟩) (by assumption) ?_
  try simp only [List.getElem_toArray, List.getElem_cons_zero, List.getElem_cons_succ, Act.put, List.setIfInBounds_toArray, List.set_cons_zero, List.set_cons_succ]
  refine wpAnyH_take (i := 13) (v := .agg nb) rfl (by kernel_rfl) (by kernel_rfl) (by kernel_rfl) (fun _ _ _ h => h) (Or.inl ⟨by rfl, fun w hSw => exec_load31 _ rfl rfl hSw.2⟩) (by assumption) ?_
  try simp only [List.getElem_toArray, List.getElem_cons_zero, List.getElem_cons_succ, Act.put, List.setIfInBounds_toArray, List.set_cons_zero, List.set_cons_succ]
  refine wpAnyH_ready (rs := [11]) (by kernel_rfl) (by simp) ?_
  refine AllReadyH.cons (i := 11) rfl (fun K hK => ?_) AllReadyH.nil
  go_simp
  refine (HAp.out _ HK.out).mono ?_
  rintro e wb ⟨vb, rfl, ob, kb⟩
  replace HK := hid (kept_trans HK.out kb)
  have HOb := hid (rw_own ob)
  clear ob kb
  have hS := HS.out _ HK.out
  clear hHeld
  show K _ _
  refine hK.out _ _ (by assumption) (fun hHeld => ?_)
  clear hK K
  try simp only [List.getElem_toArray, List.getElem_cons_zero, List.getElem_cons_succ, Act.put, List.setIfInBounds_toArray, List.set_cons_zero, List.set_cons_succ]
  refine wpAnyH_ready (rs := [14]) (by kernel_rfl) (by simp) ?_
  refine AllReadyH.cons (i := 14) rfl (fun K hK => ?_) AllReadyH.nil
  go_simp
  refine (HRp.out _).mono ?_
  rintro e wc ⟨vc, rfl, oc, kc⟩
  replace HK := hid (kept_trans HK.out kc)
  have HOc := hid (rw_own oc)
  replace HOb := hid (rw_kept HOb.out kc)
  clear oc kc
  have hS := HS.out _ HK.out
  clear hHeld
  show K _ _
  refine hK.out _ _ (by assumption) (fun hHeld => ?_)
  clear hK K
  try simp only [List.getElem_toArray, List.getElem_cons_zero, List.getElem_cons_succ, Act.put, List.setIfInBounds_toArray, List.set_cons_zero, List.set_cons_succ]
  refine wpAnyH_ready (rs := [15]) (by kernel_rfl) (by simp) ?_
  refine AllReadyH.cons (i := 15) rfl (fun K hK => ?_) AllReadyH.nil
  go_simp
  refine (HSq.out _ _ _ HOb.out HOc.out).mono ?_
  rintro e wd ⟨rfl, kd⟩
  replace HK := hid (kept_trans HK.out kd)
  clear kd
  have hS := HS.out _ HK.out
  clear hHeld
  show K _ _
  refine hK.out _ _ (by assumption) (fun hHeld => ?_)
  clear hK K
  try simp only [List.getElem_toArray, List.getElem_cons_zero, List.getElem_cons_succ, Act.put, List.setIfInBounds_toArray, List.set_cons_zero, List.set_cons_succ]
  refine wpAnyH_take (i := 16) (v := .bool true) rfl (by kernel_rfl) (by kernel_rfl) (by kernel_rfl) (fun _ _ _ h => h) (Or.inl ⟨by rfl, fun w hSw => by (try dsimp only at hSw); go_simp⟩) (by assumption) ?_
  try simp only [List.getElem_toArray, List.getElem_cons_zero, List.getElem_cons_succ, Act.put, List.setIfInBounds_toArray, List.set_cons_zero, List.set_cons_succ]
  refine wpAnyH_take (i := 17) (v := .bool true) rfl (by kernel_rfl) (by kernel_rfl) (by kernel_rfl) (fun _ _ _ h => h) (Or.inl ⟨by rfl, fun w hSw => by (try dsimp only at hSw); go_simp⟩) (by assumption) ?_
  try simp only [List.getElem_toArray, List.getElem_cons_zero, List.getElem_cons_succ, Act.put, List.setIfInBounds_toArray, List.set_cons_zero, List.set_cons_succ]
  refine wpAnyH_done (by kernel_rfl) ?_ _
  refine NoPanic.normal ?_
  go_wp2_with fail
  go_ret
  exact ⟨rfl, kept_trans HK7.out HK.out⟩
end Go.Proofs.Ytpfelbbhhoilpaa
