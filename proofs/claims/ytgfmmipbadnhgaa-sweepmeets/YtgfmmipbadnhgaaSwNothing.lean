/- The law on two that have the same, walked. -/
import Derived.Test.YtgfmmipbadnhgaaSwFixed
namespace Go.Proofs.Ytgfmmipbadnhgaa
open Go.ChangeShapes Go.WideShapes Go.ChangeAt Go.RowKit
set_option linter.unusedVariables false
set_option linter.unusedSimpArgs false
set_option maxRecDepth 100000

set_option maxHeartbeats 3200000 in
theorem nothing_walk (hS : SumIs) (hPu : PushIs) (hPl : PullsIs) (l : List R) (t : List Sn) (v u : Value) (w : World) (h : Rg encR 8 w v l) (hu : Rg encS 5 w u t) : Calls Try.prog 6 #[v, u] w fun e w' => e = .returned (.bool true) ∧ Kept w w' := by
  have HS := hid hS
  have HPu := hid hPu
  have HPl := hid hPl
  have HR := hid h
  have HU := hid hu
  have HFx := hid (fun w => fixed_any hPu hPl w)
  obtain ⟨a, cap, ev, -, -, -, -⟩ := h
  obtain ⟨b, capb, eu, -, -, -, -⟩ := hu
  have HEv := hid ev
  have HEu := hid eu
  clear hS hPu hPl ev eu
  go_enter Try.func6, Try.ntmps6
  go_wp2_with fail
  refine (unlike_any l v w HR.out).mono ?_
  rintro e w1 ⟨b1, rfl, hb1, k1⟩
  have HK1 := hid k1
  have HB1 := hid hb1
  clear k1 hb1
  cases b1 with
  | false =>
    go_wp2_with fail
    refine (HFx.out w1).mono ?_
    rintro e w2 ⟨rfl, k2⟩
    have HK2 := hid (kept_trans HK1.out k2)
    clear k2
    go_wp2_with fail
    go_ret
    exact ⟨rfl, HK2.out⟩
  | true =>
    obtain ⟨hl, hz, -⟩ := HB1.out rfl
    have HZ := hid (sml_of hz)
    clear HB1 hz
    go_wp2_with fail
    refine (great_any t u w1 (rg_kept encS_ok HU.out HK1.out)).mono ?_
    rintro e w2 ⟨b2, rfl, hb2, k2⟩
    have HK2 := hid (kept_trans HK1.out k2)
    have HB2 := hid hb2
    clear k2 hb2 HK1
    cases b2 with
    | true =>
      go_wp2_with fail
      refine (HFx.out w2).mono ?_
      rintro e w3 ⟨rfl, k3⟩
      have HK3 := hid (kept_trans HK2.out k3)
      clear k3
      go_wp2_with fail
      go_ret
      exact ⟨rfl, HK3.out⟩
    | false =>
      obtain ⟨ht, hy⟩ := HB2.out rfl
      have HY := hid (smls_of hy)
      clear HB2 hy
      have HO0 := hid (builtR w2)
      have HKa := hid (kept_alloc HK2.out (.cells #[] 41))
      have HBw : Hid (w2.heap.size ≤ (w2.alloc (.cells #[] 41)).heap.size) := hid (kept_alloc (kept_refl w2) (.cells #[] 41)).2
      have HRa := hid (rg_kept encR_ok HR.out HKa.out)
      have HLg : Hid (w.heap.size ≤ w2.heap.size) := hid HK2.out.2
      go_wp2_with (at_builtin; go_must (refine wpList_gapp rfl (.tmp 16) (.tmp 17) rfl encR_ok tyR (by decide) w2.heap.size _ _ _ _ rfl HO0.out rfl HRa.out (by simp; omega) HBw.out ?_; intro v3 w3 hown3 hgrow3 hnil3))
      rw [List.nil_append] at hown3
      have HR3 := hid (rg_own encR_ok hown3)
      have HK3 := hid (kept_gr HKa.out hgrow3 (fun j hj => by have := og_lt HO0.out hj; have := HLg.out; omega))
      clear hown3 hgrow3 hnil3 HO0 HKa HBw HRa HLg HK2
      refine (HS.out l v3 w3 (by omega) HZ.out HR3.out).mono ?_
      rintro e w4 ⟨v4, rfl, r4, k4⟩
      have HR4 := hid r4
      have HQ4 := hid (rg_kept encR_ok HR3.out k4)
      have HK4 := hid (kept_trans HK3.out k4)
      clear r4 k4 HK3 HR3
      have HO4 := hid (builtS w4)
      have HKb := hid (kept_alloc HK4.out (.cells #[] 43))
      have HKc := hid (kept_alloc (kept_refl w4) (.cells #[] 43))
      have HBw : Hid (w4.heap.size ≤ (w4.alloc (.cells #[] 43)).heap.size) := hid HKc.out.2
      have HUb := hid (rg_kept encS_ok HU.out HKb.out)
      go_wp2_with (at_builtin; go_must (refine wpList_gapp rfl (.tmp 21) (.tmp 22) rfl encS_ok tyS (by decide) w4.heap.size _ _ _ _ rfl HO4.out rfl HUb.out (by simp; omega) HBw.out ?_; intro v5 w5 hown5 hgrow5 hnil5))
      rw [List.nil_append] at hown5
      have k5 := kept_gr HKc.out hgrow5 (fun j hj => og_lt HO4.out hj)
      have HT5 := hid (rg_own encS_ok hown5)
      have HR5 := hid (rg_kept encS_ok HR4.out k5)
      have HQ5 := hid (rg_kept encR_ok HQ4.out k5)
      have HK5 := hid (kept_trans HK4.out k5)
      clear hown5 hgrow5 hnil5 HO4 HKb HKc HBw HUb HK4 HQ4 HR4 k5
      refine (HPu.out l t v3 v5 w5 (by omega) (by omega) HZ.out HY.out HQ5.out HT5.out).mono ?_
      rintro e w6 ⟨v6, rfl, -, k6⟩
      have HT6 := hid (rg_kept encS_ok HT5.out k6)
      have HR6 := hid (rg_kept encS_ok HR5.out k6)
      have HQ6 := hid (rg_kept encR_ok HQ5.out k6)
      have HK6 := hid (kept_trans HK5.out k6)
      clear k6 HT5 HR5 HQ5 HK5
      go_wp2_with fail
      refine (HPl.out l t v3 v5 w6 (by omega) (by omega) HZ.out HY.out HQ6.out HT6.out).mono ?_
      rintro e w7 ⟨v7, m7, rfl, -, -, k7⟩
      have HT7 := hid (rg_kept encS_ok HT6.out k7)
      have HR7 := hid (rg_kept encS_ok HR6.out k7)
      have HQ7 := hid (rg_kept encR_ok HQ6.out k7)
      have HK7 := hid (kept_trans HK6.out k7)
      clear k7 HT6 HR6 HQ6 HK6
      go_wp2_with fail
      refine (HFx.out w7).mono ?_
      rintro e w8 ⟨rfl, k8⟩
      have HT8 := hid (rg_kept encS_ok HT7.out k8)
      have HR8 := hid (rg_kept encS_ok HR7.out k8)
      have HQ8 := hid (rg_kept encR_ok HQ7.out k8)
      have HK8 := hid (kept_trans HK7.out k8)
      clear k8 HT7 HR7 HQ7 HK7
      go_wp2_with fail
      refine (HPu.out l (sums l) v3 v4 w8 (by omega) (by rw [sums_len]; omega) HZ.out (sml_sums HZ.out) HQ8.out HR8.out).mono ?_
      rintro e w9 ⟨v9, rfl, r9, k9⟩
      rw [push_self] at r9
      obtain ⟨a9, c9, rfl, -, -, -, -⟩ := r9
      have HT9 := hid (rg_kept encS_ok HT8.out k9)
      have HR9 := hid (rg_kept encS_ok HR8.out k9)
      have HQ9 := hid (rg_kept encR_ok HQ8.out k9)
      have HK9 := hid (kept_trans HK8.out k9)
      clear k9 HT8 HR8 HQ8 HK8
      go_wp2_with fail
      refine (HPl.out l (sums l) v3 v4 w9 (by omega) (by rw [sums_len]; omega) HZ.out (sml_sums HZ.out) HQ9.out HR9.out).mono ?_
      rintro e wa ⟨va, ma, rfl, hma, ra, ka⟩
      rw [pull_self hma] at ra
      obtain ⟨aa, ca, rfl, -, -, -, -⟩ := ra
      have HTa := hid (rg_kept encS_ok HT9.out ka)
      have HQa := hid (rg_kept encR_ok HQ9.out ka)
      have HKa := hid (kept_trans HK9.out ka)
      clear ka hma HT9 HR9 HQ9 HK9
      go_wp2_with fail
      refine (sameR_any l (by omega) v3 v wa HQa.out (rg_kept encR_ok HR.out HKa.out)).mono ?_
      rintro e wb ⟨rfl, kb⟩
      have HTb := hid (rg_kept encS_ok HTa.out kb)
      have HKb := hid (kept_trans HKa.out kb)
      clear kb HTa HQa HKa
      go_wp2_with fail
      refine (sameS_any t (by omega) v5 u wb HTb.out (rg_kept encS_ok HU.out HKb.out)).mono ?_
      rintro e wc ⟨rfl, kc⟩
      have HKc := hid (kept_trans HKb.out kc)
      clear kc HTb HKb
      go_wp2_with fail
      go_ret
      exact ⟨rfl, HKc.out⟩
end Go.Proofs.Ytgfmmipbadnhgaa
