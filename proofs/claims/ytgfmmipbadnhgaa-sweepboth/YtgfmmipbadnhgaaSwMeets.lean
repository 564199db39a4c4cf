/- The law on what one pulls and the other one pushes, walked. -/
import Derived.Test.YtgfmmipbadnhgaaSwFixed
namespace Go.Proofs.Ytgfmmipbadnhgaa
open Go.ChangeShapes Go.WideShapes Go.ChangeAt Go.RowKit
set_option linter.unusedVariables false
set_option linter.unusedSimpArgs false
set_option maxRecDepth 100000

set_option maxHeartbeats 3200000 in
theorem meets_walk (hS : SumIs) (hPu : PushIs) (hPl : PullsIs) (l q : List R) (v u : Value) (w : World) (h : Rg encR 8 w v l) (hu : Rg encR 8 w u q) : Calls Try.prog 5 #[v, u] w fun e w' => e = .returned (.bool true) ∧ Kept w w' := by
  have HS := hid hS
  have HPu := hid hPu
  have HPl := hid hPl
  have HR := hid h
  have HU := hid hu
  have HFx := hid (fun w => fixed_any hPu hPl w)
  clear hS hPu hPl h hu
  go_enter Try.func5, Try.ntmps5
  go_wp2_with fail
  refine (unlike_any l v w HR.out).mono ?_
  rintro e w1 ⟨b1, rfl, hb1, k1⟩
  have HK1 := hid k1
  have HB1 := hid hb1
  clear k1 hb1
  cases b1 with
  | false =>
    go_wp2_with fail
    refine (HFx.out w1).mono ?_
    rintro e w2 ⟨rfl, k2⟩
    have HK2 := hid (kept_trans HK1.out k2)
    clear k2
    go_wp2_with fail
    go_ret
    exact ⟨rfl, HK2.out⟩
  | true =>
    obtain ⟨hl, hz, -⟩ := HB1.out rfl
    have HZ := hid (sml_of hz)
    clear HB1 hz
    go_wp2_with fail
    refine (unlike_any q u w1 (rg_kept encR_ok HU.out HK1.out)).mono ?_
    rintro e w2 ⟨b2, rfl, hb2, k2⟩
    have HK2 := hid (kept_trans HK1.out k2)
    have HB2 := hid hb2
    clear k2 hb2 HK1
    cases b2 with
    | false =>
      go_wp2_with fail
      refine (HFx.out w2).mono ?_
      rintro e w3 ⟨rfl, k3⟩
      have HK3 := hid (kept_trans HK2.out k3)
      clear k3
      go_wp2_with fail
      go_ret
      exact ⟨rfl, HK3.out⟩
    | true =>
      obtain ⟨hq, hy, huq⟩ := HB2.out rfl
      have HUq := hid huq
      have HY := hid (sml_of hy)
      clear HB2 huq hy
      go_wp2_with fail
      refine (HS.out q u w2 (by omega) HY.out (rg_kept encR_ok HU.out HK2.out)).mono ?_
      rintro e w3 ⟨v3, rfl, r3, k3⟩
      have HR3 := hid r3
      have HK3 := hid (kept_trans HK2.out k3)
      clear r3 k3 HK2
      go_wp2_with fail
      refine (HPl.out l (sums q) v v3 w3 (by omega) (by rw [sums_len]; omega) HZ.out (sml_sums HY.out) (rg_kept encR_ok HR.out HK3.out) HR3.out).mono ?_
      rintro e w4 ⟨v4, m, rfl, hm, r4, k4⟩
      have HM := hid hm
      have HR4 := hid r4
      have HK4 := hid (kept_trans HK3.out k4)
      clear r4 k4 hm HK3 HR3
      go_wp2_with fail
      refine (HS.out l v w4 (by omega) HZ.out (rg_kept encR_ok HR.out HK4.out)).mono ?_
      rintro e w5 ⟨v5, rfl, r5, k5⟩
      have HR5 := hid r5
      have HQ5 := hid (rg_kept encK_ok HR4.out k5)
      have HK5 := hid (kept_trans HK4.out k5)
      clear r5 k5 HK4 HR4
      go_wp2_with fail
      refine (HPu.out q (sums l) u v5 w5 (by omega) (by rw [sums_len]; omega) HY.out (sml_sums HZ.out) (rg_kept encR_ok HU.out HK5.out) HR5.out).mono ?_
      rintro e w6 ⟨v6, rfl, r6, k6⟩
      have HP6 := hid r6
      have HQ6 := hid (rg_kept encK_ok HQ5.out k6)
      have HK6 := hid (kept_trans HK5.out k6)
      have HLe := hid (meets_len HUq.out HM.out)
      have HMe := hid (fun z (hz : z ∈ push q (sums l)) => (meets_mem HM.out z.key).2 ⟨z, hz, rfl⟩)
      have hpl := push_len q (sums l)
      clear r6 k6 HK5 HQ5 HR5 HM HUq
      generalize push q (sums l) = p at *
      obtain ⟨ap, cp, rfl, -, -, -, -⟩ := HP6.out
      obtain ⟨am, cm, rfl, -, -, -, -⟩ := HQ6.out
      have HGp : Hid (∀ k, k < p.length → ∃ y, p[k]? = some y) := hid (fun k hk => ⟨p[k], List.getElem?_eq_getElem hk⟩)
      have HGm : Hid (∀ k, k < m.length → ∃ y, m[k]? = some y) := hid (fun k hk => ⟨m[k], List.getElem?_eq_getElem hk⟩)
      have HPp : Hid (0 < p.length → ∃ g o, ap = some ⟨g, o, none⟩) := hid (fun hp => by
        obtain ⟨g, o, c, e⟩ := rg_pos HP6.out hp
        injection e with e1
        exact ⟨g, o, e1⟩)
      have HPm : Hid (0 < m.length → ∃ g o, am = some ⟨g, o, none⟩) := hid (fun hp => by
        obtain ⟨g, o, c, e⟩ := rg_pos HQ6.out hp
        injection e with e1
        exact ⟨g, o, e1⟩)
      have HTm : Hid (m.take m.length = m) := hid List.take_length
      rw [HLe.out] at HQ6 HGm HPm HTm ⊢
      clear HLe
      generalize hn : p.length = n at *
      clear hn
      go_wp2_with fail
      go_loopw [36] (fun j wr => ∃ k : Nat, k ≤ n ∧ j = .int .i64 (k : Int) ∧ Hid (Kept w6 wr)) (fun j _ => n - (intOf j).toNat)
      case atStart => exact ⟨0, Nat.zero_le _, rfl, hid (kept_refl w6)⟩
      case round =>
        obtain ⟨k, hk, rfl, HKr⟩ := hrel
        by_cases hlt : k < n
        · obtain ⟨x, hx⟩ := HGp.out k hlt
          obtain ⟨g, o, rfl⟩ := HPp.out (by omega)
          have HEx : Hid (m.any (fun z => keq z x.key) = true) := hid (List.any_eq_true.2 ⟨x.key, HMe.out x (List.mem_of_getElem? hx), (keq_iff _ _).2 rfl⟩)
          obtain ⟨c0, c1, c2, c3, c4, c5, c6, c7⟩ := rg_R (rg_kept encR_ok HP6.out HKr.out) hx
          have HA1 := hid (at_new wr #[.string x.key, .int .u64 x.s.p, .int .u32 x.s.l, .int .u8 x.s.n, .int .u8 x.kind, .int .u32 x.flags, .int .u64 x.exp, .string x.body] 41)
          have HK1 := hid (kept_alloc HKr.out (.cells #[.string x.key, .int .u64 x.s.p, .int .u32 x.s.l, .int .u8 x.s.n, .int .u8 x.kind, .int .u32 x.flags, .int .u64 x.exp, .string x.body] 41))
          have zs := zeroRv wr
          clear hx
          go_wp2_with fail
          clear c0 c1 c2 c3 c4 c5 c6 c7 zs
          generalize wr.alloc (.cells #[.string x.key, .int .u64 x.s.p, .int .u32 x.s.l, .int .u8 x.s.n, .int .u8 x.kind, .int .u32 x.flags, .int .u64 x.exp, .string x.body] 41) = wA at *
          generalize hP : wr.heap.size = P at *
          clear hP
          obtain ⟨W0, rfl⟩ : ∃ W0, W0 = wr := ⟨wr, rfl⟩
          go_loopw [9, 42] (fun b j wr => ∃ (i : Nat), i ≤ n ∧ j = .int .i64 (i : Int) ∧ b = .bool ((m.take i).any (fun z => keq z x.key)) ∧ wr = wA) (fun _ j _ => n - (intOf j).toNat)
          case atStart => exact ⟨0, Nat.zero_le _, rfl, rfl, rfl⟩
          case round =>
            obtain ⟨i, hi, rfl, rfl, rfl⟩ := hrel
            by_cases hlt3 : i < n
            · obtain ⟨z, hz⟩ := HGm.out i hlt3
              obtain ⟨gm, om, rfl⟩ := HPm.out (by omega)
              have HNz := hid (any_next hz (fun z => keq z x.key))
              have c0 := rg_K (rg_kept encK_ok HQ6.out HK1.out) hz
              have y0 := at_cell HA1.out 0
              simp only [List.getElem?_toArray, List.getElem?_cons_zero] at y0
              clear hz
              cases hany : (m.take i).any (fun z => keq z x.key) with
              | true =>
                rw [hany, Bool.true_or] at HNz
                go_wp2_with fail
                go_roundw
                case rel => exact ⟨i + 1, by omega, by go_num, by rw [HNz.out], by simp⟩
                case measure => simp [intOf]; omega
              | false =>
                rw [hany, Bool.false_or, keq_sameT] at HNz
                cases hs : sameT z x.key with
                | true =>
                  have hk2 : (z.toList == x.key.toList) = true := hs
                  rw [hs] at HNz
                  clear hs
                  go_wp2_with fail
                  go_roundw
                  case rel => exact ⟨i + 1, by omega, by go_num, by rw [HNz.out], by simp⟩
                  case measure => simp [intOf]; omega
                | false =>
                  have hk2 : (z.toList == x.key.toList) = false := hs
                  rw [hs] at HNz
                  clear hs
                  go_wp2_with fail
                  go_roundw
                  case rel => exact ⟨i + 1, by omega, by go_num, by rw [HNz.out], by simp⟩
                  case measure => simp [intOf]; omega
            · have he2 : i = n := by omega
              subst he2
              rw [HTm.out, HEx.out]
              go_wp2_with fail
              go_roundw
              case rel => exact ⟨k + 1, by omega, by go_num, HK1⟩
              case measure => simp [intOf]; omega
        · have he : k = n := by omega
          subst he
          go_wp2_with fail
          refine (HFx.out wr).mono ?_
          rintro e wz ⟨rfl, kz⟩
          have HKz := hid (kept_trans HK6.out (kept_trans HKr.out kz))
          clear kz
          go_wp2_with fail
          go_ret
          exact ⟨rfl, HKz.out⟩
end Go.Proofs.Ytgfmmipbadnhgaa
