/- The law on what is told, walked. -/
import Derived.Test.YtgfmmipbadnhgaaSwFixed
namespace Go.Proofs.Ytgfmmipbadnhgaa
open Go.ChangeShapes Go.WideShapes Go.ChangeAt Go.RowKit
set_option linter.unusedVariables false
set_option linter.unusedSimpArgs false
set_option maxRecDepth 100000

set_option maxHeartbeats 3200000 in
theorem tells_walk (hS : SumIs) (hPu : PushIs) (hPl : PullsIs) (l : List R) (t : List Sn) (v u : Value) (w : World) (h : Rg encR 8 w v l) (hu : Rg encS 5 w u t) : Calls Try.prog 3 #[v, u] w fun e w' => e = .returned (.bool true) ∧ Kept w w' := by
  have HS := hid hS
  have HPu := hid hPu
  have HPl := hid hPl
  have HR := hid h
  have HU := hid hu
  have HFx := hid (fun w => fixed_any hPu hPl w)
  clear hS hPu hPl h hu
  go_enter Try.func3, Try.ntmps3
  go_wp2_with fail
  refine (unlike_any l v w HR.out).mono ?_
  rintro e w1 ⟨b1, rfl, hb1, k1⟩
  have HK1 := hid k1
  have HB1 := hid hb1
  clear k1 hb1
  cases b1 with
  | false =>
    go_wp2_with fail
    refine (HFx.out w1).mono ?_
    rintro e w2 ⟨rfl, k2⟩
    have HK2 := hid (kept_trans HK1.out k2)
    clear k2
    go_wp2_with fail
    go_ret
    exact ⟨rfl, HK2.out⟩
  | true =>
    obtain ⟨hl, hz, -⟩ := HB1.out rfl
    have HZ := hid (sml_of hz)
    clear HB1 hz
    go_wp2_with fail
    refine (great_any t u w1 (rg_kept encS_ok HU.out HK1.out)).mono ?_
    rintro e w2 ⟨b2, rfl, hb2, k2⟩
    have HK2 := hid (kept_trans HK1.out k2)
    have HB2 := hid hb2
    clear k2 hb2 HK1
    cases b2 with
    | true =>
      go_wp2_with fail
      refine (HFx.out w2).mono ?_
      rintro e w3 ⟨rfl, k3⟩
      have HK3 := hid (kept_trans HK2.out k3)
      clear k3
      go_wp2_with fail
      go_ret
      exact ⟨rfl, HK3.out⟩
    | false =>
      obtain ⟨ht, hy⟩ := HB2.out rfl
      have HY := hid (smls_of hy)
      clear HB2 hy
      go_wp2_with fail
      refine (HFx.out w2).mono ?_
      rintro e w3 ⟨rfl, k3⟩
      have HK3 := hid (kept_trans HK2.out k3)
      clear k3 HK2
      go_wp2_with fail
      refine (HS.out l v w3 (by omega) HZ.out (rg_kept encR_ok HR.out HK3.out)).mono ?_
      rintro e w4 ⟨v4, rfl, r4, k4⟩
      have HR4 := hid r4
      have HK4 := hid (kept_trans HK3.out k4)
      clear r4 k4 HK3
      go_wp2_with fail
      refine (rsum_any l (by omega) v w4 (rg_kept encR_ok HR.out HK4.out)).mono ?_
      rintro e w5 ⟨v5, rfl, o5, -, k5⟩
      have HR5 := hid (rg_kept encS_ok HR4.out k5)
      have HO5 := hid (rg_own encS_ok o5)
      have HK5 := hid (kept_trans HK4.out k5)
      clear o5 k5 HK4 HR4
      go_wp2_with fail
      refine (sameS_any (sums l) (by rw [sums_len]; omega) v4 v5 w5 HR5.out HO5.out).mono ?_
      rintro e w6 ⟨rfl, k6⟩
      have HK6 := hid (kept_trans HK5.out k6)
      clear k6 HK5 HR5 HO5
      go_wp2_with fail
      refine (HPu.out l t v u w6 (by omega) (by omega) HZ.out HY.out (rg_kept encR_ok HR.out HK6.out) (rg_kept encS_ok HU.out HK6.out)).mono ?_
      rintro e w7 ⟨v7, rfl, r7, k7⟩
      have HR7 := hid r7
      have HK7 := hid (kept_trans HK6.out k7)
      clear r7 k7 HK6
      go_wp2_with fail
      refine (rpush_any l t (by omega) (by omega) v u w7 (rg_kept encR_ok HR.out HK7.out) (rg_kept encS_ok HU.out HK7.out)).mono ?_
      rintro e w8 ⟨v8, rfl, o8, -, k8⟩
      have HR8 := hid (rg_kept encR_ok HR7.out k8)
      have HO8 := hid (rg_own encR_ok o8)
      have HK8 := hid (kept_trans HK7.out k8)
      clear o8 k8 HK7 HR7
      go_wp2_with fail
      refine (sameR_any (push l t) (by have := push_len l t; omega) v7 v8 w8 HR8.out HO8.out).mono ?_
      rintro e w9 ⟨rfl, k9⟩
      have HK9 := hid (kept_trans HK8.out k9)
      clear k9 HK8 HR8 HO8
      go_wp2_with fail
      refine (HPl.out l t v u w9 (by omega) (by omega) HZ.out HY.out (rg_kept encR_ok HR.out HK9.out) (rg_kept encS_ok HU.out HK9.out)).mono ?_
      rintro e wa ⟨va, m, rfl, hm, ra, ka⟩
      have HRa := hid ra
      have HKa := hid (kept_trans HK9.out ka)
      have HMa := hid (pull_uniq hm (pullR_is l t))
      clear ra ka hm HK9
      go_wp2_with fail
      refine (rpull_any l t (by omega) (by omega) v u wa (rg_kept encR_ok HR.out HKa.out) (rg_kept encS_ok HU.out HKa.out)).mono ?_
      rintro e wb ⟨vb, rfl, ob, -, kb⟩
      have HRb := hid (rg_kept encK_ok HRa.out kb)
      have HOb := hid (rg_own encK_ok ob)
      have HKb := hid (kept_trans HKa.out kb)
      rw [HMa.out] at HRb
      clear ob kb HKa HRa
      go_wp2_with fail
      refine (sameK_any (pullR l [] t) (by have := pullR_len l t []; simp at this; omega) va vb wb HRb.out HOb.out).mono ?_
      rintro e wc ⟨rfl, kc⟩
      have HKc := hid (kept_trans HKb.out kc)
      clear kc HKb HRb HOb
      go_wp2_with fail
      go_ret
      exact ⟨rfl, HKc.out⟩
end Go.Proofs.Ytgfmmipbadnhgaa
