/- The law on two who tell each other all, walked. -/
import Derived.Test.YtdcokccfannfmaaVwLaw4
namespace Go.Proofs.Ytdcokccfannfmaa
open Go.ChangeShapes Go.WideShapes Go.ChangeAt Go.RowKit
set_option linter.unusedVariables false
set_option linter.unusedSimpArgs false
set_option maxRecDepth 100000

set_option maxHeartbeats 6400000 in
theorem meet_walk (hF : FreshIs) (hH : HearIs) (hA : AllIs) (v u : List M) (x y : Int) (h1 : 0 ≤ x) (h2 : x < 256) (h3 : 0 ≤ y) (h4 : y < 256) (hv : ∀ m ∈ v, okM m) (hu : ∀ m ∈ u, okM m) (vv uv : Value) (w : World) (h : Rg encM 2 w vv v) (hn : Rg encM 2 w uv u) : Calls Try.prog 8 #[vv, uv, .int .u8 x, .int .u8 y] w fun e w' => e = .returned (.bool true) ∧ Kept w w' := by
  have HH := hid hH
  have HAl := hid hA
  have HR := hid h
  have HL := hid hn
  have HFx := hid (fun w => fixed_any hF hH w)
  have HXf := hid (And.intro h1 h2)
  have HYf := hid (And.intro h3 h4)
  have HOv := hid hv
  have HOu := hid hu
  obtain ⟨a, cap, rfl, -, -, -, -⟩ := h
  obtain ⟨b, capb, rfl, -, -, -, -⟩ := hn
  have HGv : Hid (∀ k, k < v.length → ∃ y, v[k]? = some y) := hid (fun k hk => ⟨v[k], List.getElem?_eq_getElem hk⟩)
  have HPv : Hid (0 < v.length → ∃ g o, a = some ⟨g, o, none⟩) := hid (fun hp => by
    obtain ⟨g, o, c, e⟩ := rg_pos HR.out hp
    injection e with e1
    exact ⟨g, o, e1⟩)
  have HGu : Hid (∀ k, k < u.length → ∃ y, u[k]? = some y) := hid (fun k hk => ⟨u[k], List.getElem?_eq_getElem hk⟩)
  have HPu : Hid (0 < u.length → ∃ g o, b = some ⟨g, o, none⟩) := hid (fun hp => by
    obtain ⟨g, o, c, e⟩ := rg_pos HL.out hp
    injection e with e1
    exact ⟨g, o, e1⟩)
  have HTv : Hid (v.take v.length = v) := hid List.take_length
  have HTu : Hid (u.take u.length = u) := hid List.take_length
  clear hF hH hA h1 h2 h3 h4 hv hu
  obtain ⟨n, hvn⟩ : ∃ n, v.length = n := ⟨_, rfl⟩
  have HVn := hid hvn
  rw [hvn] at HR HGv HPv HTv ⊢
  obtain ⟨n2, hlm⟩ : ∃ m, u.length = m := ⟨_, rfl⟩
  have HLm := hid hlm
  rw [hlm] at HL HGu HPu HTu ⊢
  clear hvn hlm
  go_enter Try.func8, Try.ntmps8
  go_wp2_with fail
  refine (great_any a none n cap 0 0 w).mono ?_
  rintro e w1 ⟨b1, rfl, hb1, rfl⟩
  have HB1 := hid hb1
  clear hb1
  cases b1 with
  | true =>
    go_wp2_with fail
    refine (HFx.out w1).mono ?_
    rintro e w2 ⟨rfl, k2⟩
    have HK2 := hid k2
    clear k2
    go_wp2_with fail
    go_ret
    exact ⟨rfl, HK2.out⟩
  | false =>
    have hn64 : n ≤ 64 := (HB1.out rfl).1
    clear HB1
    by_cases hne : n = n2
    · subst hne
      have hnn : ((n : Int) != (n : Int)) = false := by simp
      have HN : Hid (v.length ≤ 64 ∧ u.length ≤ 64) := hid (by rw [HVn.out, HLm.out]; exact ⟨hn64, hn64⟩)
      go_wp2_with fail
      clear hnn
      obtain ⟨W0, rfl⟩ : ∃ W0, W0 = w1 := ⟨w1, rfl⟩
      go_loopw [27] (fun j wr => ∃ k : Nat, k ≤ n ∧ j = .int .i64 (k : Int) ∧ Hid (∀ y ∈ v.take k, val y = true) ∧ Hid (∀ y ∈ u.take k, val y = true) ∧ wr = W0) (fun j _ => n - (intOf j).toNat)
      case atStart => exact ⟨0, Nat.zero_le _, rfl, hid (fun y hy => by simp at hy), hid (fun y hy => by simp at hy), rfl⟩
      case round =>
        obtain ⟨k, hk, rfl, HA1, HA2, rfl⟩ := hrel
        by_cases hlt : k < n
        · obtain ⟨p, hp⟩ := HGv.out k hlt
          obtain ⟨q, hq⟩ := HGu.out k hlt
          obtain ⟨g, o, rfl⟩ := HPv.out (by omega)
          obtain ⟨g2, o2, rfl⟩ := HPu.out (by omega)
          obtain ⟨c0, c1⟩ := rg_M HR.out hp
          obtain ⟨e0, e1⟩ := rg_M HL.out hq
          have HNp := hid (all_in (P := fun y => val y = true) hp)
          have HNq := hid (all_in (P := fun y => val y = true) hq)
          clear hp hq
          by_cases s1 : p.st < 1
          · have d1 : decide (p.st < 1) = true := by simpa using s1
            clear s1
            go_wp2_with fail
            refine (HFx.out _).mono ?_
            rintro e w3 ⟨rfl, k3⟩
            have HK3 := hid k3
            clear k3
            go_wp2_with fail
            go_ret
            exact ⟨rfl, HK3.out⟩
          · have d1 : decide (p.st < 1) = false := by simpa using s1
            by_cases s2 : (4 : Int) < p.st
            · have d2 : decide ((4 : Int) < p.st) = true := by simpa using s2
              clear s1 s2
              go_wp2_with fail
              refine (HFx.out _).mono ?_
              rintro e w3 ⟨rfl, k3⟩
              have HK3 := hid k3
              clear k3
              go_wp2_with fail
              go_ret
              exact ⟨rfl, HK3.out⟩
            · have d2 : decide ((4 : Int) < p.st) = false := by simpa using s2
              by_cases s3 : q.st < 1
              · have d3 : decide (q.st < 1) = true := by simpa using s3
                clear s1 s2 s3
                go_wp2_with fail
                refine (HFx.out _).mono ?_
                rintro e w3 ⟨rfl, k3⟩
                have HK3 := hid k3
                clear k3
                go_wp2_with fail
                go_ret
                exact ⟨rfl, HK3.out⟩
              · have d3 : decide (q.st < 1) = false := by simpa using s3
                by_cases s4 : (4 : Int) < q.st
                · have d4 : decide ((4 : Int) < q.st) = true := by simpa using s4
                  clear s1 s2 s3 s4
                  go_wp2_with fail
                  refine (HFx.out _).mono ?_
                  rintro e w3 ⟨rfl, k3⟩
                  have HK3 := hid k3
                  clear k3
                  go_wp2_with fail
                  go_ret
                  exact ⟨rfl, HK3.out⟩
                · have d4 : decide ((4 : Int) < q.st) = false := by simpa using s4
                  have HAp := hid (HNp.out (by unfold val; simp; omega) HA1.out)
                  have HAq := hid (HNq.out (by unfold val; simp; omega) HA2.out)
                  clear s1 s2 s3 s4
                  go_wp2_with fail
                  go_roundw
                  case rel => exact ⟨k + 1, by omega, by go_num, HAp, HAq, by simp⟩
                  case measure => simp [intOf]; omega
        · have he : n = k := by omega
          subst he
          rw [HTv.out] at HA1
          rw [HTu.out] at HA2
          have HOa : Hid (∀ x ∈ allN u, okN x) := hid (allN_ok HOu.out (by have := HN.out.2; omega))
          have HOb : Hid (∀ x ∈ allN v, okN x) := hid (allN_ok HOv.out (by have := HN.out.1; omega))
          have HLa : Hid ((allN u).length ≤ 1000) := hid (by rw [allN_len]; have := HN.out.2; omega)
          have HLb : Hid ((allN v).length ≤ 1000) := hid (by rw [allN_len]; have := HN.out.1; omega)
          have HMt := hid (fun i p q hx hy hp hq => meet_same (x := x) (y := y) (a := v) (b := u) (i := i) (p := p) (q := q) hx hy hp hq (HA1.out p (List.mem_of_getElem? hp)) (HA2.out q (List.mem_of_getElem? hq)))
          clear hk
          go_wp2_with fail
          refine (HAl.out u _ wr HN.out.2 HOu.out HL.out).mono ?_
          rintro e w3 ⟨v3, rfl, r3, k3⟩
          have HR3 := hid r3
          have HK3 := hid k3
          clear r3 k3
          go_wp2_with fail
          refine (HH.out x v (allN u) _ _ w3 HXf.out.1 HXf.out.2 HN.out.1 HLa.out HOv.out HOa.out (rg_kept encM_ok HR.out HK3.out) HR3.out).mono ?_
          rintro e w4 ⟨x1, x2, rfl, r1, -, k4⟩
          have HX := hid r1
          have HK4 := hid (kept_trans HK3.out k4)
          clear r1 k4 HK3 HR3
          go_wp2_with fail
          refine (HAl.out v _ w4 HN.out.1 HOv.out (rg_kept encM_ok HR.out HK4.out)).mono ?_
          rintro e w5 ⟨v5, rfl, r5, k5⟩
          have HR5 := hid r5
          have HX5 := hid (rg_kept encM_ok HX.out k5)
          have HK5 := hid (kept_trans HK4.out k5)
          clear r5 k5 HK4 HX
          go_wp2_with fail
          refine (HH.out y u (allN v) _ _ w5 HYf.out.1 HYf.out.2 HN.out.2 HLb.out HOu.out HOb.out (rg_kept encM_ok HL.out HK5.out) HR5.out).mono ?_
          rintro e w6 ⟨y1, y2, rfl, s1, -, k6⟩
          have HY := hid s1
          have HX6 := hid (rg_kept encM_ok HX5.out k6)
          have HK6 := hid (kept_trans HK5.out k6)
          have HXl : Hid ((hearV x v (allN u)).length = n) := hid (by rw [hearV_len, HVn.out])
          have HYl : Hid ((hearV y u (allN v)).length = n) := hid (by rw [hearV_len, HLm.out])
          clear s1 k6 HK5 HR5 HX5
          generalize hearV x v (allN u) = P at *
          generalize hearV y u (allN v) = Q at *
          have HGp : Hid (∀ k, k < n → ∃ y, P[k]? = some y) := hid (fun k hk => ⟨P[k]'(by rw [HXl.out]; exact hk), List.getElem?_eq_getElem (by rw [HXl.out]; exact hk)⟩)
          have HPp : Hid (0 < n → ∃ g o, ∃ c, x1 = .slice (some ⟨g, o, none⟩) n c) := hid (fun hp => by
            have := rg_pos HX6.out (by rw [HXl.out]; exact hp)
            rw [HXl.out] at this
            exact this)
          have HPq : Hid (0 < n → ∃ g o, ∃ c, y1 = .slice (some ⟨g, o, none⟩) n c) := hid (fun hp => by
            have := rg_pos HY.out (by rw [HYl.out]; exact hp)
            rw [HYl.out] at this
            exact this)
          obtain ⟨da, ca, hxa, -, -, -, -⟩ := HX6.out
          obtain ⟨db, cb, hxb, -, -, -, -⟩ := HY.out
          rw [HXl.out] at hxa
          rw [HYl.out] at hxb
          subst hxa hxb
          have HPp2 : Hid (0 < n → ∃ g o, da = some ⟨g, o, none⟩) := hid (fun hp => by
            obtain ⟨g, o, c, e⟩ := HPp.out hp
            injection e with e1
            exact ⟨g, o, e1⟩)
          have HPq2 : Hid (0 < n → ∃ g o, db = some ⟨g, o, none⟩) := hid (fun hp => by
            obtain ⟨g, o, c, e⟩ := HPq.out hp
            injection e with e1
            exact ⟨g, o, e1⟩)
          clear HPp HPq
          go_wp2_with fail
          obtain ⟨W1, rfl⟩ : ∃ W1, W1 = w6 := ⟨w6, rfl⟩
          go_loopw [80] (fun j wq => ∃ (i : Nat), i ≤ n ∧ j = .int .i64 (i : Int) ∧ Hid (Kept W1 wq)) (fun j _ => n - (intOf j).toNat)
          case atStart => exact ⟨0, Nat.zero_le _, rfl, hid (kept_refl _)⟩
          case round =>
            obtain ⟨i, hi, rfl, HKi⟩ := hrel
            by_cases hlt2 : i < n
            · obtain ⟨m, hm⟩ := HGp.out i hlt2
              obtain ⟨p, hp⟩ := HGv.out i hlt2
              obtain ⟨q, hq⟩ := HGu.out i hlt2
              obtain ⟨gp, op, rfl⟩ := HPp2.out (by omega)
              obtain ⟨gq, oq, rfl⟩ := HPq2.out (by omega)
              have hw := u8_wrap (i : Int) (by omega) (by omega)
              by_cases ex : (i : Int) = x
              · have hb : ((i : Int) != x) = false := by simpa using ex
                clear ex hm hp hq
                go_wp2_with fail
                go_quiet (fail)
                go_wp2_with fail
                go_roundw
                case rel => exact ⟨i + 1, by omega, by go_num, hid (kept_drewN HKi.out _)⟩
                case measure => simp [intOf]; omega
              · have hb : ((i : Int) != x) = true := by simpa using ex
                by_cases ey : (i : Int) = y
                · have hb2 : ((i : Int) != y) = false := by simpa using ey
                  clear ex ey hm hp hq
                  go_wp2_with fail
                  go_quiet (fail)
                  go_wp2_with fail
                  go_roundw
                  case rel => exact ⟨i + 1, by omega, by go_num, hid (kept_drewN HKi.out _)⟩
                  case measure => simp [intOf]; omega
                · have hb2 : ((i : Int) != y) = true := by simpa using ey
                  obtain ⟨c0, c1⟩ := rg_M (rg_kept encM_ok HX6.out HKi.out) hm
                  obtain ⟨d0, d1⟩ := rg_M (rg_kept encM_ok HY.out HKi.out) ((HMt.out i p q ex ey hp hq).symm.trans hm)
                  have heq := eq_self_M m
                  clear ex ey hm hp hq
                  go_wp2_with fail
                  go_quiet (fail)
                  go_wp2_with fail
                  go_roundw
                  case rel => exact ⟨i + 1, by omega, by go_num, hid (kept_drewN HKi.out _)⟩
                  case measure => simp [intOf]; omega
            · have he : i = n := by omega
              subst he
              go_wp2_with fail
              refine (HFx.out wr).mono ?_
              rintro e w7 ⟨rfl, k7⟩
              have HK7 := hid (kept_trans HK6.out (kept_trans HKi.out k7))
              clear k7
              go_wp2_with fail
              go_ret
              exact ⟨rfl, HK7.out⟩
    · have hnn : ((n : Int) != (n2 : Int)) = true := by
        have : (n : Int) ≠ (n2 : Int) := by omega
        simpa using this
      clear hne
      go_wp2_with fail
      refine (HFx.out w1).mono ?_
      rintro e w2 ⟨rfl, k2⟩
      have HK2 := hid k2
      clear k2
      go_wp2_with fail
      go_ret
      exact ⟨rfl, HK2.out⟩
end Go.Proofs.Ytdcokccfannfmaa
