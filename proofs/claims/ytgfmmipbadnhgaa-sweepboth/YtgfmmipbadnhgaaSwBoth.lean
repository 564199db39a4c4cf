/- The law on two that give each other what they push, walked. -/
import Derived.Test.YtgfmmipbadnhgaaSwFixed
namespace Go.Proofs.Ytgfmmipbadnhgaa
open Go.ChangeShapes Go.WideShapes Go.ChangeAt Go.RowKit
set_option linter.unusedVariables false
set_option linter.unusedSimpArgs false
set_option maxRecDepth 100000

/- Is it as late, of the same key? -/
def likeR (z x : R) : Bool := keq z.key x.key && (same z.s x.s && decide (z.kind = x.kind))
theorem likeR_of {z x : R} (h1 : z.key = x.key) (h2 : Eqs (seen z) (seen x)) : likeR z x = true := by
  obtain ⟨h3, h4⟩ := h2
  unfold likeR
  have h5 : same z.s x.s = true := (same_iff _ _).2 h3
  have h6 : z.kind = x.kind := h4
  rw [(keq_iff _ _).2 h1, h5, decide_eq_true h6]
  rfl
theorem give_len (l q : List R) : (give l q).length ≤ l.length + q.length := by
  have := more_len l q q.length
  unfold more at this
  rw [List.take_length] at this
  exact this
set_option maxHeartbeats 6400000 in
theorem both_walk (hS : SumIs) (hPu : PushIs) (hPl : PullsIs) (l q : List R) (v u : Value) (w : World) (h : Rg encR 8 w v l) (hu : Rg encR 8 w u q) : Calls Try.prog 4 #[v, u] w fun e w' => e = .returned (.bool true) ∧ Kept w w' := by
  have HS := hid hS
  have HPu := hid hPu
  have HPl := hid hPl
  have HR := hid h
  have HU := hid hu
  have HFx := hid (fun w => fixed_any hPu hPl w)
  clear hS hPu hPl h hu
  go_enter Try.func4, Try.ntmps4
  go_wp2_with fail
  refine (unlike_any l v w HR.out).mono ?_
  rintro e w1 ⟨b1, rfl, hb1, k1⟩
  have HK1 := hid k1
  have HB1 := hid hb1
  clear k1 hb1
  cases b1 with
  | false =>
    go_wp2_with fail
    refine (HFx.out w1).mono ?_
    rintro e w2 ⟨rfl, k2⟩
    have HK2 := hid (kept_trans HK1.out k2)
    clear k2
    go_wp2_with fail
    go_ret
    exact ⟨rfl, HK2.out⟩
  | true =>
    obtain ⟨hl, hz, hul⟩ := HB1.out rfl
    have HUl := hid hul
    have HZ := hid (sml_of hz)
    clear hul hz
    clear HB1
    go_wp2_with fail
    refine (unlike_any q u w1 (rg_kept encR_ok HU.out HK1.out)).mono ?_
    rintro e w2 ⟨b2, rfl, hb2, k2⟩
    have HK2 := hid (kept_trans HK1.out k2)
    have HB2 := hid hb2
    clear k2 hb2 HK1
    cases b2 with
    | false =>
      go_wp2_with fail
      refine (HFx.out w2).mono ?_
      rintro e w3 ⟨rfl, k3⟩
      have HK3 := hid (kept_trans HK2.out k3)
      clear k3
      go_wp2_with fail
      go_ret
      exact ⟨rfl, HK3.out⟩
    | true =>
      obtain ⟨hq, hy, huq⟩ := HB2.out rfl
      have HUq := hid huq
      have HY := hid (sml_of hy)
      clear HB2 huq hy
      go_wp2_with fail
      refine (HS.out l v w2 (by omega) HZ.out (rg_kept encR_ok HR.out HK2.out)).mono ?_
      rintro e w3 ⟨v3, rfl, r3, k3⟩
      have HR3 := hid r3
      have HK3 := hid (kept_trans HK2.out k3)
      clear r3 k3 HK2
      go_wp2_with fail
      refine (HPu.out q (sums l) u v3 w3 (by omega) (by rw [sums_len]; omega) HY.out (sml_sums HZ.out) (rg_kept encR_ok HU.out HK3.out) HR3.out).mono ?_
      rintro e w4 ⟨v4, rfl, r4, k4⟩
      have HR4 := hid r4
      have HK4 := hid (kept_trans HK3.out k4)
      clear r4 k4 HK3 HR3
      have hpl := push_len q (sums l)
      go_wp2_with fail
      refine (give_any l (push q (sums l)) (by omega) (by omega) v v4 w4 (rg_kept encR_ok HR.out HK4.out) HR4.out).mono ?_
      rintro e w5 ⟨v5, rfl, o5, k5⟩
      have HX5 := hid (rg_own encR_ok o5)
      have HK5 := hid (kept_trans HK4.out k5)
      clear o5 k5 HK4 HR4
      go_wp2_with fail
      refine (HS.out q u w5 (by omega) HY.out (rg_kept encR_ok HU.out HK5.out)).mono ?_
      rintro e w6 ⟨v6, rfl, r6, k6⟩
      have HR6 := hid r6
      have HX6 := hid (rg_kept encR_ok HX5.out k6)
      have HK6 := hid (kept_trans HK5.out k6)
      clear r6 k6 HK5 HX5
      go_wp2_with fail
      refine (HPu.out l (sums q) v v6 w6 (by omega) (by rw [sums_len]; omega) HZ.out (sml_sums HY.out) (rg_kept encR_ok HR.out HK6.out) HR6.out).mono ?_
      rintro e w7 ⟨v7, rfl, r7, k7⟩
      have HR7 := hid r7
      have HX7 := hid (rg_kept encR_ok HX6.out k7)
      have HK7 := hid (kept_trans HK6.out k7)
      clear r7 k7 HK6 HX6 HR6
      have hpq := push_len l (sums q)
      go_wp2_with fail
      refine (give_any q (push l (sums q)) (by omega) (by omega) u v7 w7 (rg_kept encR_ok HU.out HK7.out) HR7.out).mono ?_
      rintro e w8 ⟨v8, rfl, o8, k8⟩
      have HP6 := hid (rg_kept encR_ok HX7.out k8)
      have HQ6 := hid (rg_own encR_ok o8)
      have HK6 := hid (kept_trans HK7.out k8)
      clear o8 k8 HK7 HX7 HR7
      have hlx := give_len l (push q (sums l))
      have HLe := hid (both_len HUl.out HUq.out)
      have HMe := hid (fun (z : R) hz => both_same HUl.out HUq.out (r := z) hz)
      have HPe := hid (both_push HUl.out HUq.out)
      have HKe := hid (fun m hm => both_pull HUl.out HUq.out (m := m) hm)
      have HZp := hid (sml_give HZ.out HY.out _ HUl.out HUq.out rfl)
      have HZm := hid (sml_give HY.out HZ.out _ HUq.out HUl.out rfl)
      generalize give l (push q (sums l)) = p at *
      generalize give q (push l (sums q)) = m at *
      have hn120 : p.length ≤ 120 := by omega
      clear hpl hpq hlx HUl HUq
      obtain ⟨w6, rfl⟩ : ∃ w6, w6 = w8 := ⟨w8, rfl⟩
      obtain ⟨ap, cp, rfl, -, -, -, -⟩ := HP6.out
      obtain ⟨am, cm, rfl, -, -, -, -⟩ := HQ6.out
      have HGp : Hid (∀ k, k < p.length → ∃ y, p[k]? = some y) := hid (fun k hk => ⟨p[k], List.getElem?_eq_getElem hk⟩)
      have HGm : Hid (∀ k, k < m.length → ∃ y, m[k]? = some y) := hid (fun k hk => ⟨m[k], List.getElem?_eq_getElem hk⟩)
      have HPp : Hid (0 < p.length → ∃ g o, ap = some ⟨g, o, none⟩) := hid (fun hp => by
        obtain ⟨g, o, c, e⟩ := rg_pos HP6.out hp
        injection e with e1
        exact ⟨g, o, e1⟩)
      have HPm : Hid (0 < m.length → ∃ g o, am = some ⟨g, o, none⟩) := hid (fun hp => by
        obtain ⟨g, o, c, e⟩ := rg_pos HQ6.out hp
        injection e with e1
        exact ⟨g, o, e1⟩)
      have HTm : Hid (m.take m.length = m) := hid List.take_length
      have HLs : Hid ((sums m).length = p.length) := hid (by rw [sums_len, HLe.out])
      rw [← HLe.out] at HQ6 HGm HPm HTm ⊢
      have HLn : Hid (p.length ≤ 120) := hid hn120
      clear HLe
      generalize hn : p.length = n at *
      have HN := hid hn
      clear hn
      go_wp2_with fail
      go_loopw [40] (fun j wr => ∃ k : Nat, k ≤ n ∧ j = .int .i64 (k : Int) ∧ Hid (Kept w6 wr)) (fun j _ => n - (intOf j).toNat)
      case atStart => exact ⟨0, Nat.zero_le _, rfl, hid (kept_refl w6)⟩
      case round =>
        obtain ⟨k, hk, rfl, HKr⟩ := hrel
        by_cases hlt : k < n
        · obtain ⟨x, hx⟩ := HGp.out k hlt
          obtain ⟨g, o, rfl⟩ := HPp.out (by omega)
          have HEx : Hid (m.any (fun z => likeR z x) = true) := hid (by
            obtain ⟨z, hz, e1, e2⟩ := HMe.out x (List.mem_of_getElem? hx)
            exact List.any_eq_true.2 ⟨z, hz, likeR_of e1 e2⟩)
          obtain ⟨c0, c1, c2, c3, c4, c5, c6, c7⟩ := rg_R (rg_kept encR_ok HP6.out HKr.out) hx
          have HA1 := hid (at_new wr #[.string x.key, .int .u64 x.s.p, .int .u32 x.s.l, .int .u8 x.s.n, .int .u8 x.kind, .int .u32 x.flags, .int .u64 x.exp, .string x.body] 41)
          have HK1 := hid (kept_alloc HKr.out (.cells #[.string x.key, .int .u64 x.s.p, .int .u32 x.s.l, .int .u8 x.s.n, .int .u8 x.kind, .int .u32 x.flags, .int .u64 x.exp, .string x.body] 41))
          have zs := zeroRv wr
          clear hx
          go_wp2_with fail
          clear c0 c1 c2 c3 c4 c5 c6 c7 zs
          generalize wr.alloc (.cells #[.string x.key, .int .u64 x.s.p, .int .u32 x.s.l, .int .u8 x.s.n, .int .u8 x.kind, .int .u32 x.flags, .int .u64 x.exp, .string x.body] 41) = wA at *
          generalize hP : wr.heap.size = P at *
          clear hP
          obtain ⟨W0, rfl⟩ : ∃ W0, W0 = wr := ⟨wr, rfl⟩
          go_loopw [9, 46] (fun b j wr => ∃ (i : Nat), i ≤ n ∧ j = .int .i64 (i : Int) ∧ b = .bool ((m.take i).any (fun z => likeR z x)) ∧ Hid (At wr P #[.string x.key, .int .u64 x.s.p, .int .u32 x.s.l, .int .u8 x.s.n, .int .u8 x.kind, .int .u32 x.flags, .int .u64 x.exp, .string x.body] 41) ∧ Hid (Kept w6 wr)) (fun _ j _ => n - (intOf j).toNat)
          case atStart => exact ⟨0, Nat.zero_le _, rfl, rfl, HA1, HK1⟩
          case round =>
            obtain ⟨i, hi, rfl, rfl, HA, HKi⟩ := hrel
            clear HA1 HK1
            by_cases hlt3 : i < n
            · obtain ⟨z, hz⟩ := HGm.out i hlt3
              obtain ⟨gm, om, rfl⟩ := HPm.out (by omega)
              have HNz := hid (any_next hz (fun z => likeR z x))
              obtain ⟨c0, c1, c2, c3, c4, c5, c6, c7⟩ := rg_R (rg_kept encR_ok HQ6.out HKi.out) hz
              have HAa := hid (at_alloc HA.out (.cells #[.string z.key, .int .u64 z.s.p, .int .u32 z.s.l, .int .u8 z.s.n, .int .u8 z.kind, .int .u32 z.flags, .int .u64 z.exp, .string z.body] 41))
              have HKa := hid (kept_alloc HKi.out (.cells #[.string z.key, .int .u64 z.s.p, .int .u32 z.s.l, .int .u8 z.s.n, .int .u8 z.kind, .int .u32 z.flags, .int .u64 z.exp, .string z.body] 41))
              have hPl := at_lt HA.out
              obtain ⟨y0, y1, y2, y3, y4, y5, y6, y7, -⟩ := at_cells8 HA.out
              have zs := zeroRv wr
              clear hz
              cases hany : (m.take i).any (fun z => likeR z x) with
              | true =>
                rw [hany, Bool.true_or] at HNz
                go_wp2_with fail
                go_roundw
                case rel => exact ⟨i + 1, by omega, by go_num, by rw [HNz.out], HAa, HKa⟩
                case measure => simp [intOf]; omega
              | false =>
                rw [hany, Bool.false_or] at HNz
                unfold likeR at HNz
                rw [keq_sameT] at HNz
                cases hs : sameT z.key x.key with
                | false =>
                  have hk2 : (z.key.toList == x.key.toList) = false := hs
                  rw [hs, Bool.false_and] at HNz
                  clear hs
                  go_wp2_with fail
                  go_roundw
                  case rel => exact ⟨i + 1, by omega, by go_num, (by unfold likeR; rw [HNz.out]), HAa, HKa⟩
                  case measure => simp [intOf]; omega
                | true =>
                  have hk2 : (z.key.toList == x.key.toList) = true := hs
                  rw [hs, Bool.true_and] at HNz
                  clear hs
                  have hes := eq_stamp z.s x.s
                  cases hst : same z.s x.s with
                  | false =>
                    simp only [hst] at hes
                    rw [hst, Bool.false_and] at HNz
                    clear hst
                    go_wp2_with fail
                    go_roundw
                    case rel => exact ⟨i + 1, by omega, by go_num, (by unfold likeR; rw [HNz.out]), HAa, HKa⟩
                    case measure => simp [intOf]; omega
                  | true =>
                    simp only [hst] at hes
                    rw [hst, Bool.true_and] at HNz
                    clear hst
                    by_cases hkd : z.kind = x.kind
                    · have hkb : (z.kind == x.kind) = true := by simpa using hkd
                      rw [decide_eq_true hkd] at HNz
                      clear hkd
                      go_wp2_with fail
                      go_roundw
                      case rel => exact ⟨i + 1, by omega, by go_num, (by unfold likeR; rw [HNz.out]), HAa, HKa⟩
                      case measure => simp [intOf]; omega
                    · have hkb : (z.kind == x.kind) = false := by simpa using hkd
                      rw [decide_eq_false hkd] at HNz
                      clear hkd
                      go_wp2_with fail
                      go_roundw
                      case rel => exact ⟨i + 1, by omega, by go_num, (by unfold likeR; rw [HNz.out]), HAa, HKa⟩
                      case measure => simp [intOf]; omega
            · have he2 : i = n := by omega
              subst he2
              rw [HTm.out, HEx.out]
              go_wp2_with fail
              go_roundw
              case rel => exact ⟨k + 1, by omega, by go_num, HKi⟩
              case measure => simp [intOf]; omega
        · have he : k = n := by omega
          subst he
          go_wp2_with fail
          refine (HFx.out wr).mono ?_
          rintro e wz ⟨rfl, kz⟩
          have HPz := hid (rg_kept encR_ok HP6.out (kept_trans HKr.out kz))
          have HQz := hid (rg_kept encR_ok HQ6.out (kept_trans HKr.out kz))
          have HKz := hid (kept_trans HK6.out (kept_trans HKr.out kz))
          have hLn := HLn.out
          clear kz HKr HP6 HQ6 HK6
          go_wp2_with fail
          refine (HS.out m _ wz (by have := HLs.out; rw [sums_len] at this; omega) HZm.out HQz.out).mono ?_
          rintro e wb ⟨vb, rfl, rb, kb⟩
          have HRb := hid rb
          have HPb := hid (rg_kept encR_ok HPz.out kb)
          have HQb := hid (rg_kept encR_ok HQz.out kb)
          have HKb := hid (kept_trans HKz.out kb)
          clear rb kb HPz HQz HKz
          go_wp2_with fail
          refine (HPu.out p (sums m) _ vb wb (by have := HN.out; omega) (by have := HLs.out; omega) HZp.out (sml_sums HZm.out) HPb.out HRb.out).mono ?_
          rintro e wc ⟨vc, rfl, rc, kc⟩
          rw [HPe.out] at rc
          obtain ⟨ac, cc, rfl, -, -, -, -⟩ := rc
          have HPc := hid (rg_kept encR_ok HPb.out kc)
          have HQc := hid (rg_kept encR_ok HQb.out kc)
          have HKc := hid (kept_trans HKb.out kc)
          clear kc HPb HQb HKb HRb
          go_wp2_with fail
          refine (HS.out m _ wc (by have := HLs.out; rw [sums_len] at this; omega) HZm.out HQc.out).mono ?_
          rintro e wd ⟨vd, rfl, rd, kd⟩
          have HRd := hid rd
          have HPd := hid (rg_kept encR_ok HPc.out kd)
          have HKd := hid (kept_trans HKc.out kd)
          clear rd kd HPc HQc HKc
          go_wp2_with fail
          refine (HPl.out p (sums m) _ vd wd (by have := HN.out; omega) (by have := HLs.out; omega) HZp.out (sml_sums HZm.out) HPd.out HRd.out).mono ?_
          rintro e we ⟨ve, me, rfl, hme, re, ke⟩
          rw [HKe.out me hme] at re
          obtain ⟨ae, ce, rfl, -, -, -, -⟩ := re
          have HKe2 := hid (kept_trans HKd.out ke)
          clear ke hme HPd HKd HRd
          go_wp2_with fail
          go_ret
          exact ⟨rfl, HKe2.out⟩
end Go.Proofs.Ytgfmmipbadnhgaa
