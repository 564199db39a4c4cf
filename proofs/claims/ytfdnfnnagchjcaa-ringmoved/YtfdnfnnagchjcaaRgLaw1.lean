/- The laws on owners and on any order, walked. -/
import Derived.Test.YtfdnfnnagchjcaaRgFixed
namespace Go.Proofs.Ytfdnfnnagchjcaa
open Go.ChangeShapes Go.WideShapes Go.ChangeAt Go.RowKit
set_option linter.unusedVariables false
set_option linter.unusedSimpArgs false
set_option maxRecDepth 100000

set_option maxHeartbeats 3200000 in
theorem owners_walk (hW : WeightIs) (hO : OwnersIs) (hI : OwnsIs) (key : ByteArray) (l : List Int) (n : Int) (hl : U8 l) (h1 : 0 ≤ n) (h2 : n < 256) (v : Value) (w : World) (h : Rg encU 1 w v l) : Calls Try.prog 3 #[.string key, v, .int .u8 n] w fun e w' => e = .returned (.bool true) ∧ Kept w w' := by
  have HW := hid hW
  have HO := hid hO
  have HI := hid hI
  have HR := hid h
  have HU := hid hl
  have HFx := hid (fun w => fixed_any hO w)
  have HNn := hid (And.intro h1 h2)
  obtain ⟨a, cap, rfl, -, -, -, -⟩ := h
  have HA := hid (at_new w #[.slice a l.length cap] 22)
  have HK0 := hid (kept_alloc (kept_refl w) (.cells #[.slice a l.length cap] 22))
  clear hW hO hI hl h1 h2
  obtain ⟨len, hlen⟩ : ∃ len, l.length = len := ⟨_, rfl⟩
  have HLen := hid hlen
  rw [hlen] at HA HK0 HR ⊢
  clear hlen
  go_enter Try.func3, Try.ntmps3
  go_wp2_with fail
  refine (great1 key a len cap _ _ _ HA.out).mono ?_
  rintro e w1 ⟨b1, rfl, hb1, rfl⟩
  have HB1 := hid hb1
  clear hb1 HA
  generalize w.alloc (.cells #[.slice a len cap] 22) = w1 at *
  cases b1 with
  | true =>
    go_wp2_with fail
    refine (HFx.out w1).mono ?_
    rintro e w2 ⟨rfl, k2⟩
    have HK2 := hid (kept_trans HK0.out k2)
    clear k2
    go_wp2_with fail
    go_ret
    exact ⟨rfl, HK2.out⟩
  | false =>
    obtain ⟨hk, hn⟩ := HB1.out rfl
    have HKs := hid hk
    have HLs : Hid (l.length ≤ 200) := hid (by rw [HLen.out]; exact hn)
    clear HB1 hk hn
    go_wp2_with fail
    refine (HFx.out w1).mono ?_
    rintro e w2 ⟨rfl, k2⟩
    have HK2 := hid (kept_trans HK0.out k2)
    clear k2 HK0
    go_wp2_with fail
    refine (HW.out key n w2 HKs.out HNn.out.1 HNn.out.2).mono ?_
    rintro e w3 ⟨rfl, k3⟩
    have HK3 := hid (kept_trans HK2.out k3)
    clear k3 HK2
    go_wp2_with fail
    refine (rweight_any key (by have := HKs.out; unfold maxLen; omega) n HNn.out.1 HNn.out.2 w3).mono ?_
    rintro e w4 ⟨rfl, rfl⟩
    have hee : (wt key n == wt key n) = true := by simp
    generalize wt key n = wn at *
    go_wp2_with fail
    refine (HO.out key l _ w4 HKs.out (by have := HLs.out; omega) HU.out (rg_kept encU_ok HR.out HK3.out)).mono ?_
    rintro e w5 ⟨v5, rfl, r5, k5⟩
    have HR5 := hid r5
    have HK5 := hid (kept_trans HK3.out k5)
    clear r5 k5 HK3 hee
    go_wp2_with fail
    refine (rowners_any key HKs.out l (by have := HLs.out; omega) _ w5 (rg_kept encU_ok HR.out HK5.out)).mono ?_
    rintro e w6 ⟨v6, rfl, o6, -, k6⟩
    have HR6 := hid (rg_kept encU_ok HR5.out k6)
    have HO6 := hid (rg_own encU_ok o6)
    have HK6 := hid (kept_trans HK5.out k6)
    clear o6 k6 HK5 HR5
    go_wp2_with fail
    refine (sameU_any (owners key l) (by have := owners_len key l; omega) _ _ w6 HR6.out HO6.out).mono ?_
    rintro e w7 ⟨rfl, k7⟩
    have HK7 := hid (kept_trans HK6.out k7)
    clear k7 HK6 HR6 HO6
    go_wp2_with fail
    refine (HI.out key l n _ w7 HKs.out (by have := HLs.out; omega) HU.out HNn.out.1 HNn.out.2 (rg_kept encU_ok HR.out HK7.out)).mono ?_
    rintro e w8 ⟨rfl, k8⟩
    have HK8 := hid (kept_trans HK7.out k8)
    clear k8 HK7
    go_wp2_with fail
    refine (rowns_any key HKs.out l (by have := HLs.out; omega) n _ w8 (rg_kept encU_ok HR.out HK8.out)).mono ?_
    rintro e w9 ⟨rfl, k9⟩
    have HK9 := hid (kept_trans HK8.out k9)
    have hbb : (mem (owners key l) n == mem (owners key l) n) = true := by simp
    clear k9 HK8
    generalize mem (owners key l) n = mm at *
    go_wp2_with fail
    go_ret
    exact ⟨by first | rfl | simp, HK9.out⟩
set_option maxHeartbeats 3200000 in
theorem moved_walk (hO : OwnersIs) (hM : MovedIs) (l : List ByteArray) (p q : List Int) (hp : U8 p) (hq : U8 q) (v u z : Value) (w : World) (h : Rg encK 1 w v l) (hu : Rg encU 1 w u p) (hz : Rg encU 1 w z q) : Calls Try.prog 4 #[v, u, z] w fun e w' => e = .returned (.bool true) ∧ Kept w w' := by
  have HM := hid hM
  have HR := hid h
  have HU := hid hu
  have HZ := hid hz
  have HPu := hid hp
  have HQu := hid hq
  have HFx := hid (fun w => fixed_any hO w)
  obtain ⟨a, cap, rfl, -, -, -, -⟩ := h
  obtain ⟨b, capb, rfl, -, -, -, -⟩ := hu
  obtain ⟨c, capc, rfl, -, -, -, -⟩ := hz
  have HG : Hid (∀ k, k < l.length → ∃ y, l[k]? = some y) := hid (fun k hk => ⟨l[k], List.getElem?_eq_getElem hk⟩)
  have HP : Hid (0 < l.length → ∃ g o, a = some ⟨g, o, none⟩) := hid (fun hp => by
    obtain ⟨g, o, c, e⟩ := rg_pos HR.out hp
    injection e with e1
    exact ⟨g, o, e1⟩)
  have HT : Hid (l.take l.length = l) := hid List.take_length
  have HNl : Hid (l ≠ [] → 0 < l.length) := hid (fun h => List.length_pos_iff.2 h)
  clear hO hM hp hq
  obtain ⟨n, hlen⟩ : ∃ n, l.length = n := ⟨_, rfl⟩
  have HLen := hid hlen
  rw [hlen] at HR HG HP HT HNl ⊢
  clear hlen
  obtain ⟨m1, hm1⟩ : ∃ m1, p.length = m1 := ⟨_, rfl⟩
  have HM1 := hid hm1
  rw [hm1] at HU ⊢
  clear hm1
  obtain ⟨m2, hm2⟩ : ∃ m2, q.length = m2 := ⟨_, rfl⟩
  have HM2 := hid hm2
  rw [hm2] at HZ ⊢
  clear hm2
  by_cases hbig : 50 < n
  · have hb2 : (50 : Int) < (n : Int) := by omega
    go_enter Try.func4, Try.ntmps4
    go_wp2_with fail
    refine (HFx.out w).mono ?_
    rintro e w2 ⟨rfl, k2⟩
    have HK2 := hid k2
    clear k2
    go_wp2_with fail
    go_ret
    exact ⟨rfl, HK2.out⟩
  · have hb2 : ¬ (50 : Int) < (n : Int) := by omega
    go_enter Try.func4, Try.ntmps4
    go_wp2_with fail
    go_loopw [15] (fun j wr => ∃ k : Nat, k ≤ n ∧ j = .int .i64 (k : Int) ∧ Hid (∀ y ∈ l.take k, y.size ≤ 1000) ∧ Hid (0 < k → m1 ≤ 200 ∧ m2 ≤ 200) ∧ Hid (Kept w wr)) (fun j _ => n - (intOf j).toNat)
    case atStart => exact ⟨0, Nat.zero_le _, rfl, hid (fun y hy => by simp at hy), hid (fun h => absurd h (by omega)), hid (kept_refl w)⟩
    case round =>
      obtain ⟨k, hk, rfl, HA, HB, HKr⟩ := hrel
      by_cases hlt : k < n
      · obtain ⟨x, hx⟩ := HG.out k hlt
        obtain ⟨g, o, rfl⟩ := HP.out (by omega)
        have c0 := rg_K (rg_kept encK_ok HR.out HKr.out) hx
        have HX := hid hx
        have HAt := hid (at_new wr #[.slice b m1 capb, .slice c m2 capc] 22)
        have HK1 := hid (kept_alloc HKr.out (.cells #[.slice b m1 capb, .slice c m2 capc] 22))
        clear hx
        go_wp2_with fail
        clear c0
        refine (great2 x b c m1 capb m2 capc _ _ _ HAt.out).mono ?_
        rintro e w1 ⟨b1, rfl, hb1, rfl⟩
        have HB1 := hid hb1
        clear hb1 HAt
        generalize wr.alloc (.cells #[.slice b m1 capb, .slice c m2 capc] 22) = w1 at *
        cases b1 with
        | true =>
          go_wp2_with fail
          refine (HFx.out w1).mono ?_
          rintro e w2 ⟨rfl, k2⟩
          have HK2 := hid (kept_trans HK1.out k2)
          clear k2
          go_wp2_with fail
          go_ret
          exact ⟨rfl, HK2.out⟩
        | false =>
          have HB2 := hid (HB1.out rfl)
          have HAn : Hid (∀ y ∈ l.take (k + 1), y.size ≤ 1000) := hid (by
            rw [take_next HX.out]
            intro y hy
            rcases List.mem_append.1 hy with hy | hy
            · exact HA.out y hy
            · simp at hy
              rw [hy]
              exact HB2.out.1)
          clear HB1
          go_wp2_with fail
          go_roundw
          case rel => exact ⟨k + 1, by omega, by go_num, HAn, hid (fun _ => HB2.out.2), HK1⟩
          case measure => simp [intOf]; omega
      · have he : k = n := by omega
        subst he
        rw [HT.out] at HA
        have HBb : Hid (l ≠ [] → p.length ≤ 200 ∧ q.length ≤ 200) := hid (fun h => by rw [HM1.out, HM2.out]; exact HB.out (HNl.out h))
        clear HB
        go_wp2_with fail
        refine (HFx.out wr).mono ?_
        rintro e w2 ⟨rfl, k2⟩
        have HK2 := hid (kept_trans HKr.out k2)
        clear k2 HKr
        go_wp2_with fail
        refine (HM.out l p q _ _ _ w2 (by rw [HLen.out]; omega) HA.out HBb.out HPu.out HQu.out (rg_kept encK_ok HR.out HK2.out) (rg_kept encU_ok HU.out HK2.out) (rg_kept encU_ok HZ.out HK2.out)).mono ?_
        rintro e w3 ⟨v3, rfl, r3, k3⟩
        have HR3 := hid r3
        have HK3 := hid (kept_trans HK2.out k3)
        clear r3 k3 HK2
        go_wp2_with fail
        refine (rmoved_any l p q (by rw [HLen.out]; omega) HA.out (fun h => by have := (HBb.out h).1; omega) (fun h => by have := (HBb.out h).2; omega) _ _ _ w3 (rg_kept encK_ok HR.out HK3.out) (rg_kept encU_ok HU.out HK3.out) (rg_kept encU_ok HZ.out HK3.out)).mono ?_
        rintro e w4 ⟨v4, rfl, o4, -, k4⟩
        have HR4 := hid (rg_kept encK_ok HR3.out k4)
        have HO4 := hid (rg_own encK_ok o4)
        have HK4 := hid (kept_trans HK3.out k4)
        clear o4 k4 HK3 HR3
        go_wp2_with fail
        refine (sameK_any (moved l p q) (by have := moved_len l p q; rw [HLen.out] at this; omega) _ _ w4 HR4.out HO4.out).mono ?_
        rintro e w5 ⟨rfl, k5⟩
        have HK5 := hid (kept_trans HK4.out k5)
        clear k5 HK4 HR4 HO4
        go_wp2_with fail
        refine (HM.out l p p _ _ _ w5 (by rw [HLen.out]; omega) HA.out (fun h => ⟨(HBb.out h).1, (HBb.out h).1⟩) HPu.out HPu.out (rg_kept encK_ok HR.out HK5.out) (rg_kept encU_ok HU.out HK5.out) (rg_kept encU_ok HU.out HK5.out)).mono ?_
        rintro e w6 ⟨v6, rfl, r6, k6⟩
        rw [moved_self] at r6
        obtain ⟨a6, c6, rfl, -, -, -, -⟩ := r6
        have HK6 := hid (kept_trans HK5.out k6)
        clear k6 HK5
        go_wp2_with fail
        go_ret
        exact ⟨rfl, HK6.out⟩
end Go.Proofs.Ytfdnfnnagchjcaa
