/- The law on what is told in full, walked. -/
import Derived.Test.YtdcokccfannfmaaVwFixed
import Derived.Deep.RegionHeld3
namespace Go.Proofs.Ytdcokccfannfmaa
open Go.ChangeShapes Go.WideShapes Go.ChangeAt Go.RowKit
set_option linter.unusedVariables false
set_option linter.unusedSimpArgs false
set_option maxRecDepth 100000

theorem all_in {α : Type} {l : List α} {k : Nat} {x : α} {P : α → Prop} (h : l[k]? = some x) (hp : P x) (ha : ∀ y ∈ l.take k, P y) : ∀ y ∈ l.take (k + 1), P y := by
  rw [take_next h]
  intro y hy
  rcases List.mem_append.1 hy with hy | hy
  · exact ha y hy
  · simp at hy
    subst hy
    exact hp
set_option maxHeartbeats 6400000 in
theorem full_walk (hF : FreshIs) (hH : HearIs) (hA : AllIs) (v u : List M) (self : Int) (h1 : 0 ≤ self) (h2 : self < 256) (hv : ∀ m ∈ v, okM m) (hu : ∀ m ∈ u, okM m) (vv uv : Value) (w : World) (h : Rg encM 2 w vv v) (hn : Rg encM 2 w uv u) : Calls Try.prog 7 #[vv, uv, .int .u8 self] w fun e w' => e = .returned (.bool true) ∧ Kept w w' := by
  have HH := hid hH
  have HAl := hid hA
  have HR := hid h
  have HL := hid hn
  have HFx := hid (fun w => fixed_any hF hH w)
  have HSf := hid (And.intro h1 h2)
  have HOv := hid hv
  have HOu := hid hu
  obtain ⟨a, cap, rfl, -, -, -, -⟩ := h
  obtain ⟨dw, capw, rfl, -, -, -, -⟩ := hn
  have HG : Hid (∀ k, k < u.length → ∃ y, u[k]? = some y) := hid (fun k hk => ⟨u[k], List.getElem?_eq_getElem hk⟩)
  have HP : Hid (0 < u.length → ∃ g o, dw = some ⟨g, o, none⟩) := hid (fun hp => by
    obtain ⟨g, o, c, e⟩ := rg_pos HL.out hp
    injection e with e1
    exact ⟨g, o, e1⟩)
  have HT : Hid (u.take u.length = u) := hid List.take_length
  clear hF hH hA h1 h2 hv hu
  obtain ⟨n, hvn⟩ : ∃ n, v.length = n := ⟨_, rfl⟩
  have HVn := hid hvn
  rw [hvn] at HR ⊢
  obtain ⟨nw, hlm⟩ : ∃ m, u.length = m := ⟨_, rfl⟩
  have HLm := hid hlm
  rw [hlm] at HL HG HP HT ⊢
  clear hvn hlm
  go_enter Try.func7, Try.ntmps7
  go_wp2_with fail
  refine (great_any a none n cap 0 0 w).mono ?_
  rintro e w1 ⟨b1, rfl, hb1, rfl⟩
  have HB1 := hid hb1
  clear hb1
  cases b1 with
  | true =>
    go_wp2_with fail
    refine (HFx.out w1).mono ?_
    rintro e w2 ⟨rfl, k2⟩
    have HK2 := hid k2
    clear k2
    go_wp2_with fail
    go_ret
    exact ⟨rfl, HK2.out⟩
  | false =>
    have hn64 : n ≤ 64 := (HB1.out rfl).1
    clear HB1
    go_wp2_with fail
    refine (great_any dw none nw capw 0 0 w1).mono ?_
    rintro e w2 ⟨b2, rfl, hb2, rfl⟩
    have HB2 := hid hb2
    clear hb2
    cases b2 with
    | true =>
      go_wp2_with fail
      refine (HFx.out w2).mono ?_
      rintro e w3 ⟨rfl, k3⟩
      have HK3 := hid k3
      clear k3
      go_wp2_with fail
      go_ret
      exact ⟨rfl, HK3.out⟩
    | false =>
      have hw64 : nw ≤ 64 := (HB2.out rfl).1
      have HN : Hid (v.length ≤ 64 ∧ u.length ≤ 64) := hid (by rw [HVn.out, HLm.out]; exact ⟨hn64, hw64⟩)
      clear HB2
      go_wp2_with fail
      obtain ⟨W0, rfl⟩ : ∃ W0, W0 = w2 := ⟨w2, rfl⟩
      go_loopw [23] (fun j wr => ∃ k : Nat, k ≤ nw ∧ j = .int .i64 (k : Int) ∧ Hid (∀ y ∈ u.take k, val y = true ∧ y.inc < 4294967295) ∧ Hid (Kept W0 wr)) (fun j _ => nw - (intOf j).toNat)
      case atStart => exact ⟨0, Nat.zero_le _, rfl, hid (fun y hy => by simp at hy), hid (kept_refl _)⟩
      case round =>
        obtain ⟨k, hk, rfl, HA, HKr⟩ := hrel
        by_cases hlt : k < nw
        · obtain ⟨x, hx⟩ := HG.out k hlt
          obtain ⟨g, o, rfl⟩ := HP.out (by omega)
          obtain ⟨c0, c1⟩ := rg_M (rg_kept encM_ok HL.out HKr.out) hx
          have HNx := hid (all_in (P := fun y => val y = true ∧ y.inc < 4294967295) hx)
          have HK1 := hid (kept_alloc HKr.out (.cells #[.int .u8 x.st, .int .u32 x.inc] 33))
          have zs := zeroM wr
          clear hx
          by_cases s1 : x.st < 1
          · have d1 : decide (x.st < 1) = true := by simpa using s1
            clear s1
            go_wp2_with fail
            refine (HFx.out _).mono ?_
            rintro e w3 ⟨rfl, k3⟩
            have HK3 := hid (kept_trans HK1.out k3)
            clear k3
            go_wp2_with fail
            go_ret
            exact ⟨rfl, HK3.out⟩
          · have d1 : decide (x.st < 1) = false := by simpa using s1
            by_cases s2 : (4 : Int) < x.st
            · have d2 : decide ((4 : Int) < x.st) = true := by simpa using s2
              clear s1 s2
              go_wp2_with fail
              refine (HFx.out _).mono ?_
              rintro e w3 ⟨rfl, k3⟩
              have HK3 := hid (kept_trans HK1.out k3)
              clear k3
              go_wp2_with fail
              go_ret
              exact ⟨rfl, HK3.out⟩
            · have d2 : decide ((4 : Int) < x.st) = false := by simpa using s2
              by_cases s3 : (4294967295 : Int) ≤ x.inc
              · have d3 : decide ((4294967295 : Int) ≤ x.inc) = true := by simpa using s3
                clear s1 s2
                go_wp2_with fail
                refine (HFx.out _).mono ?_
                rintro e w3 ⟨rfl, k3⟩
                have HK3 := hid (kept_trans HK1.out k3)
                clear k3
                go_wp2_with fail
                go_ret
                exact ⟨rfl, HK3.out⟩
              · have d3 : decide ((4294967295 : Int) ≤ x.inc) = false := by simpa using s3
                have HAn := hid (HNx.out ⟨by unfold val; simp; omega, by omega⟩ HA.out)
                clear s1 s2
                go_wp2_with fail
                go_roundw
                case rel => exact ⟨k + 1, by omega, by go_num, HAn, HK1⟩
                case measure => simp [intOf]; omega
        · have he : nw = k := by omega
          subst he
          rw [HT.out] at HA
          clear hk
          have HAi : Hid (∀ x ∈ allN u, x.m.inc < 4294967295) := hid (fun x hx => by
            obtain ⟨i, m, hm, rfl⟩ := (allN_mem u x).1 hx
            exact (HA.out m (List.mem_of_getElem? hm)).2)
          have HOa : Hid (∀ x ∈ allN u, okN x) := hid (allN_ok HOu.out (by have := HN.out.2; omega))
          have HLa : Hid ((allN u).length ≤ 1000) := hid (by rw [allN_len]; have := HN.out.2; omega)
          go_wp2_with fail
          refine (HAl.out u _ wr HN.out.2 HOu.out (rg_kept encM_ok HL.out HKr.out)).mono ?_
          rintro e w3 ⟨v3, rfl, r3, k3⟩
          have HR3 := hid r3
          have HK3 := hid (kept_trans HKr.out k3)
          clear r3 k3 HKr
          go_wp2_with fail
          refine (HH.out self v (allN u) _ _ w3 HSf.out.1 HSf.out.2 HN.out.1 HLa.out HOv.out HOa.out (rg_kept encM_ok HR.out HK3.out) HR3.out).mono ?_
          rintro e w4 ⟨x1, x2, rfl, r1, -, k4⟩
          have HX := hid r1
          have HK4 := hid (kept_trans HK3.out k4)
          have HXl : Hid ((hearV self v (allN u)).length = n) := hid (by rw [hearV_len, HVn.out])
          have HXo := hid (hearV_ok (self := self) (allN u) v HOv.out HOa.out)
          have HSt := hid (still_all (self := self) (allN u) (hearV self v (allN u)) (again_still allN_node HAi.out))
          have HNot := hid (fun i m x hi hm hx => full_not (self := self) (v := v) (w := u) (i := i) (m := m) (x := x) hi hm (HA.out m (List.mem_of_getElem? hm)).1 hx)
          clear r1 k4 HK3 HR3
          generalize hearV self v (allN u) = p at *
          have HGp : Hid (∀ k, k < n → ∃ y, p[k]? = some y) := hid (fun k hk => ⟨p[k]'(by rw [HXl.out]; exact hk), List.getElem?_eq_getElem (by rw [HXl.out]; exact hk)⟩)
          have HPp : Hid (0 < n → ∃ g o, ∃ c, x1 = .slice (some ⟨g, o, none⟩) n c) := hid (fun hp => by
            have := rg_pos HX.out (by rw [HXl.out]; exact hp)
            rw [HXl.out] at this
            exact this)
          obtain ⟨dx, capx, hxa, -, -, -, -⟩ := HX.out
          rw [HXl.out] at hxa
          subst hxa
          have HPx : Hid (0 < n → ∃ g o, dx = some ⟨g, o, none⟩) := hid (fun hp => by
            obtain ⟨g, o, c, e⟩ := HPp.out hp
            injection e with e1
            exact ⟨g, o, e1⟩)
          clear HPp
          go_wp2_with fail
          obtain ⟨W1, rfl⟩ : ∃ W1, W1 = w4 := ⟨w4, rfl⟩
          go_loopw [52] (fun j wq => ∃ (k : Nat), k ≤ n ∧ j = .int .i64 (k : Int) ∧ Hid (Kept W1 wq)) (fun j _ => n - (intOf j).toNat)
          case atStart => exact ⟨0, Nat.zero_le _, rfl, hid (kept_refl _)⟩
          case round =>
            obtain ⟨k, hk, rfl, HKi⟩ := hrel
            by_cases hlt : k < n
            · obtain ⟨x, hx⟩ := HGp.out k hlt
              have hw := u8_wrap (k : Int) (by omega) (by omega)
              by_cases hin : k < nw
              · obtain ⟨m, hm⟩ := HG.out k hin
                obtain ⟨gw, ow, rfl⟩ := HP.out (by omega)
                obtain ⟨gx, ox, rfl⟩ := HPx.out (by omega)
                have hinI : (k : Int) < (nw : Int) := by omega
                have hdI : decide ((k : Int) < (nw : Int)) = true := by simpa using hinI
                by_cases es : (k : Int) = self
                · have hb : ((k : Int) != self) = false := by simpa using es
                  clear es hx hm
                  go_wp2_with fail
                  refine wp_region_noPanic ?_
                  refine wp_region_held_drew (S := (fun _ => True)) (by kernel_rfl) (trivial) (fun hHeld => ?_)
                  replace HKi := hid (kept_drew HKi.out)
                  generalize wr.drew = wz at *
                  refine wpAnyH_take (i := 0) (v := .int .i64 (k : Int)) rfl (by kernel_rfl) (by kernel_rfl) (by kernel_rfl) (fun _ _ _ h => h) (Or.inl ⟨by rfl, fun w hSw => by (try dsimp only at hSw); go_simp⟩) (by assumption) ?_
                  try simp only [List.getElem_toArray, List.getElem_cons_zero, List.getElem_cons_succ, Act.put, List.setIfInBounds_toArray, List.set_cons_zero, List.set_cons_succ]
                  refine wpAnyH_take (i := 1) (v := .slice (some ⟨gw, ow, none⟩) nw capw) rfl (by kernel_rfl) (by kernel_rfl) (by kernel_rfl) (fun _ _ _ h => h) (Or.inl ⟨by rfl, fun w hSw => by (try dsimp only at hSw); go_simp⟩) (by assumption) ?_
                  try simp only [List.getElem_toArray, List.getElem_cons_zero, List.getElem_cons_succ, Act.put, List.setIfInBounds_toArray, List.set_cons_zero, List.set_cons_succ]
                  refine wpAnyH_take (i := 2) (v := .int .i64 (nw : Int)) rfl (by kernel_rfl) (by kernel_rfl) (by kernel_rfl) (fun _ _ _ h => h) (Or.inl ⟨by rfl, fun w hSw => by (try dsimp only at hSw); go_simp⟩) (by assumption) ?_
                  try simp only [List.getElem_toArray, List.getElem_cons_zero, List.getElem_cons_succ, Act.put, List.setIfInBounds_toArray, List.set_cons_zero, List.set_cons_succ]
                  refine wpAnyH_take (i := 3) (v := .bool true) rfl (by kernel_rfl) (by kernel_rfl) (by kernel_rfl) (fun _ _ _ h => h) (Or.inl ⟨by rfl, fun w hSw => by (try dsimp only at hSw); go_simp⟩) (by assumption) ?_
                  try simp only [List.getElem_toArray, List.getElem_cons_zero, List.getElem_cons_succ, Act.put, List.setIfInBounds_toArray, List.set_cons_zero, List.set_cons_succ]
                  refine wpAnyH_take (i := 4) (v := .bool true) rfl (by kernel_rfl) (by kernel_rfl) (by kernel_rfl) (fun _ _ _ h => h) (Or.inl ⟨by rfl, fun w hSw => by (try dsimp only at hSw); go_simp⟩) (by assumption) ?_
                  try simp only [List.getElem_toArray, List.getElem_cons_zero, List.getElem_cons_succ, Act.put, List.setIfInBounds_toArray, List.set_cons_zero, List.set_cons_succ]
                  refine wpAnyH_take (i := 5) (v := .int .i64 (k : Int)) rfl (by kernel_rfl) (by kernel_rfl) (by kernel_rfl) (fun _ _ _ h => h) (Or.inl ⟨by rfl, fun w hSw => by (try dsimp only at hSw); go_simp⟩) (by assumption) ?_
                  try simp only [List.getElem_toArray, List.getElem_cons_zero, List.getElem_cons_succ, Act.put, List.setIfInBounds_toArray, List.set_cons_zero, List.set_cons_succ]
                  refine wpAnyH_take (i := 6) (v := .int .u8 (k : Int)) rfl (by kernel_rfl) (by kernel_rfl) (by kernel_rfl) (fun _ _ _ h => h) (Or.inl ⟨by rfl, fun w hSw => by (try dsimp only at hSw); go_simp⟩) (by assumption) ?_
                  try simp only [List.getElem_toArray, List.getElem_cons_zero, List.getElem_cons_succ, Act.put, List.setIfInBounds_toArray, List.set_cons_zero, List.set_cons_succ]
                  refine wpAnyH_take (i := 7) (v := .int .u8 self) rfl (by kernel_rfl) (by kernel_rfl) (by kernel_rfl) (fun _ _ _ h => h) (Or.inl ⟨by rfl, fun w hSw => by (try dsimp only at hSw); go_simp⟩) (by assumption) ?_
                  try simp only [List.getElem_toArray, List.getElem_cons_zero, List.getElem_cons_succ, Act.put, List.setIfInBounds_toArray, List.set_cons_zero, List.set_cons_succ]
                  refine wpAnyH_take (i := 8) (v := .bool false) rfl (by kernel_rfl) (by kernel_rfl) (by kernel_rfl) (fun _ _ _ h => h) (Or.inl ⟨by rfl, fun w hSw => by (try dsimp only at hSw); go_simp⟩) (by assumption) ?_
                  try simp only [List.getElem_toArray, List.getElem_cons_zero, List.getElem_cons_succ, Act.put, List.setIfInBounds_toArray, List.set_cons_zero, List.set_cons_succ]
                  refine wpAnyH_take (i := 9) (v := .bool false) rfl (by kernel_rfl) (by kernel_rfl) (by kernel_rfl) (fun _ _ _ h => h) (Or.inl ⟨by rfl, fun w hSw => by (try dsimp only at hSw); go_simp⟩) (by assumption) ?_
                  try simp only [List.getElem_toArray, List.getElem_cons_zero, List.getElem_cons_succ, Act.put, List.setIfInBounds_toArray, List.set_cons_zero, List.set_cons_succ]
                  refine wpAnyH_take (i := 10) (v := .bool false) rfl (by kernel_rfl) (by kernel_rfl) (by kernel_rfl) (fun _ _ _ h => h) (Or.inl ⟨by rfl, fun w hSw => by (try dsimp only at hSw); go_simp⟩) (by assumption) ?_
                  try simp only [List.getElem_toArray, List.getElem_cons_zero, List.getElem_cons_succ, Act.put, List.setIfInBounds_toArray, List.set_cons_zero, List.set_cons_succ]
                  refine wpAnyH_take (i := 11) (v := undef) rfl (by kernel_rfl) (by kernel_rfl) (by kernel_rfl) (fun _ _ _ h => h) (Or.inr ⟨by rfl, rfl⟩) (by assumption) ?_
                  try simp only [List.getElem_toArray, List.getElem_cons_zero, List.getElem_cons_succ, Act.put, List.setIfInBounds_toArray, List.set_cons_zero, List.set_cons_succ]
                  refine wpAnyH_take (i := 12) (v := undef) rfl (by kernel_rfl) (by kernel_rfl) (by kernel_rfl) (fun _ _ _ h => h) (Or.inr ⟨by rfl, rfl⟩) (by assumption) ?_
                  try simp only [List.getElem_toArray, List.getElem_cons_zero, List.getElem_cons_succ, Act.put, List.setIfInBounds_toArray, List.set_cons_zero, List.set_cons_succ]
                  refine wpAnyH_take (i := 13) (v := undef) rfl (by kernel_rfl) (by kernel_rfl) (by kernel_rfl) (fun _ _ _ h => h) (Or.inr ⟨by rfl, rfl⟩) (by assumption) ?_
                  try simp only [List.getElem_toArray, List.getElem_cons_zero, List.getElem_cons_succ, Act.put, List.setIfInBounds_toArray, List.set_cons_zero, List.set_cons_succ]
                  refine wpAnyH_take (i := 14) (v := undef) rfl (by kernel_rfl) (by kernel_rfl) (by kernel_rfl) (fun _ _ _ h => h) (Or.inr ⟨by rfl, rfl⟩) (by assumption) ?_
                  try simp only [List.getElem_toArray, List.getElem_cons_zero, List.getElem_cons_succ, Act.put, List.setIfInBounds_toArray, List.set_cons_zero, List.set_cons_succ]
                  refine wpAnyH_take (i := 15) (v := undef) rfl (by kernel_rfl) (by kernel_rfl) (by kernel_rfl) (fun _ _ _ h => h) (Or.inr ⟨by rfl, rfl⟩) (by assumption) ?_
                  try simp only [List.getElem_toArray, List.getElem_cons_zero, List.getElem_cons_succ, Act.put, List.setIfInBounds_toArray, List.set_cons_zero, List.set_cons_succ]
                  refine wpAnyH_take (i := 16) (v := undef) rfl (by kernel_rfl) (by kernel_rfl) (by kernel_rfl) (fun _ _ _ h => h) (Or.inr ⟨by rfl, rfl⟩) (by assumption) ?_
                  try simp only [List.getElem_toArray, List.getElem_cons_zero, List.getElem_cons_succ, Act.put, List.setIfInBounds_toArray, List.set_cons_zero, List.set_cons_succ]
                  refine wpAnyH_take (i := 17) (v := undef) rfl (by kernel_rfl) (by kernel_rfl) (by kernel_rfl) (fun _ _ _ h => h) (Or.inr ⟨by rfl, rfl⟩) (by assumption) ?_
                  try simp only [List.getElem_toArray, List.getElem_cons_zero, List.getElem_cons_succ, Act.put, List.setIfInBounds_toArray, List.set_cons_zero, List.set_cons_succ]
                  refine wpAnyH_take (i := 18) (v := undef) rfl (by kernel_rfl) (by kernel_rfl) (by kernel_rfl) (fun _ _ _ h => h) (Or.inr ⟨by rfl, rfl⟩) (by assumption) ?_
                  try simp only [List.getElem_toArray, List.getElem_cons_zero, List.getElem_cons_succ, Act.put, List.setIfInBounds_toArray, List.set_cons_zero, List.set_cons_succ]
                  refine wpAnyH_take (i := 19) (v := undef) rfl (by kernel_rfl) (by kernel_rfl) (by kernel_rfl) (fun _ _ _ h => h) (Or.inr ⟨by rfl, rfl⟩) (by assumption) ?_
                  try simp only [List.getElem_toArray, List.getElem_cons_zero, List.getElem_cons_succ, Act.put, List.setIfInBounds_toArray, List.set_cons_zero, List.set_cons_succ]
                  refine wpAnyH_take (i := 20) (v := .bool false) rfl (by kernel_rfl) (by kernel_rfl) (by kernel_rfl) (fun _ _ _ h => h) (Or.inl ⟨by rfl, fun w hSw => by (try dsimp only at hSw); go_simp⟩) (by assumption) ?_
                  try simp only [List.getElem_toArray, List.getElem_cons_zero, List.getElem_cons_succ, Act.put, List.setIfInBounds_toArray, List.set_cons_zero, List.set_cons_succ]
                  refine wpAnyH_done (by kernel_rfl) ?_ _
                  refine NoPanic.normal ?_
                  clear hHeld
                  go_wp2_with fail
                  go_roundw
                  case rel => exact ⟨k + 1, by omega, by go_num, HKi⟩
                  case measure => simp [intOf]; omega
                · have hb : ((k : Int) != self) = true := by simpa using es
                  have hnm : nwr m x = false := (nwr_false _ _).2 (HNot.out k m x es hm hx)
                  have hNm := rnewer_any m x
                  rw [hnm] at hNm
                  have HS : Hid (∀ z, Kept W1 z → (z.cell? ⟨gw, ow + k * 2, none⟩ = some (.int .u8 m.st)) ∧ (z.cell? ⟨gw, ow + k * 2 + 1, none⟩ = some (.int .u32 m.inc)) ∧ (z.cell? ⟨gx, ox + k * 2, none⟩ = some (.int .u8 x.st)) ∧ (z.cell? ⟨gx, ox + k * 2 + 1, none⟩ = some (.int .u32 x.inc))) := hid (fun z kz => ⟨(rg_M (rg_kept encM_ok HL.out (kept_trans HK4.out kz)) hm).1, (rg_M (rg_kept encM_ok HL.out (kept_trans HK4.out kz)) hm).2, (rg_M (rg_kept encM_ok HX.out kz) hx).1, (rg_M (rg_kept encM_ok HX.out kz) hx).2⟩)
                  have hS0 := HS.out _ (kept_drew HKi.out)
                  clear es hx hm hnm
                  go_wp2_with fail
                  refine wp_region_noPanic ?_
                  refine wp_region_held_drew (S := (fun w' => (w'.cell? ⟨gw, ow + k * 2, none⟩ = some (.int .u8 m.st)) ∧ (w'.cell? ⟨gw, ow + k * 2 + 1, none⟩ = some (.int .u32 m.inc)) ∧ (w'.cell? ⟨gx, ox + k * 2, none⟩ = some (.int .u8 x.st)) ∧ (w'.cell? ⟨gx, ox + k * 2 + 1, none⟩ = some (.int .u32 x.inc)))) (by kernel_rfl) (by assumption) (fun hHeld => ?_)
                  replace HKi := hid (kept_drew HKi.out)
                  generalize wr.drew = wz at *
                  refine wpAnyH_take (i := 0) (v := .int .i64 (k : Int)) rfl (by kernel_rfl) (by kernel_rfl) (by kernel_rfl) (fun _ _ _ h => h) (Or.inl ⟨by rfl, fun w hSw => by (try dsimp only at hSw); go_simp⟩) (by assumption) ?_
                  try simp only [List.getElem_toArray, List.getElem_cons_zero, List.getElem_cons_succ, Act.put, List.setIfInBounds_toArray, List.set_cons_zero, List.set_cons_succ]
                  refine wpAnyH_take (i := 1) (v := .slice (some ⟨gw, ow, none⟩) nw capw) rfl (by kernel_rfl) (by kernel_rfl) (by kernel_rfl) (fun _ _ _ h => h) (Or.inl ⟨by rfl, fun w hSw => by (try dsimp only at hSw); go_simp⟩) (by assumption) ?_
                  try simp only [List.getElem_toArray, List.getElem_cons_zero, List.getElem_cons_succ, Act.put, List.setIfInBounds_toArray, List.set_cons_zero, List.set_cons_succ]
                  refine wpAnyH_take (i := 2) (v := .int .i64 (nw : Int)) rfl (by kernel_rfl) (by kernel_rfl) (by kernel_rfl) (fun _ _ _ h => h) (Or.inl ⟨by rfl, fun w hSw => by (try dsimp only at hSw); go_simp⟩) (by assumption) ?_
                  try simp only [List.getElem_toArray, List.getElem_cons_zero, List.getElem_cons_succ, Act.put, List.setIfInBounds_toArray, List.set_cons_zero, List.set_cons_succ]
                  refine wpAnyH_take (i := 3) (v := .bool true) rfl (by kernel_rfl) (by kernel_rfl) (by kernel_rfl) (fun _ _ _ h => h) (Or.inl ⟨by rfl, fun w hSw => by (try dsimp only at hSw); go_simp⟩) (by assumption) ?_
                  try simp only [List.getElem_toArray, List.getElem_cons_zero, List.getElem_cons_succ, Act.put, List.setIfInBounds_toArray, List.set_cons_zero, List.set_cons_succ]
                  refine wpAnyH_take (i := 4) (v := .bool true) rfl (by kernel_rfl) (by kernel_rfl) (by kernel_rfl) (fun _ _ _ h => h) (Or.inl ⟨by rfl, fun w hSw => by (try dsimp only at hSw); go_simp⟩) (by assumption) ?_
                  try simp only [List.getElem_toArray, List.getElem_cons_zero, List.getElem_cons_succ, Act.put, List.setIfInBounds_toArray, List.set_cons_zero, List.set_cons_succ]
                  refine wpAnyH_take (i := 5) (v := .int .i64 (k : Int)) rfl (by kernel_rfl) (by kernel_rfl) (by kernel_rfl) (fun _ _ _ h => h) (Or.inl ⟨by rfl, fun w hSw => by (try dsimp only at hSw); go_simp⟩) (by assumption) ?_
                  try simp only [List.getElem_toArray, List.getElem_cons_zero, List.getElem_cons_succ, Act.put, List.setIfInBounds_toArray, List.set_cons_zero, List.set_cons_succ]
                  refine wpAnyH_take (i := 6) (v := .int .u8 (k : Int)) rfl (by kernel_rfl) (by kernel_rfl) (by kernel_rfl) (fun _ _ _ h => h) (Or.inl ⟨by rfl, fun w hSw => by (try dsimp only at hSw); go_simp⟩) (by assumption) ?_
                  try simp only [List.getElem_toArray, List.getElem_cons_zero, List.getElem_cons_succ, Act.put, List.setIfInBounds_toArray, List.set_cons_zero, List.set_cons_succ]
                  refine wpAnyH_take (i := 7) (v := .int .u8 self) rfl (by kernel_rfl) (by kernel_rfl) (by kernel_rfl) (fun _ _ _ h => h) (Or.inl ⟨by rfl, fun w hSw => by (try dsimp only at hSw); go_simp⟩) (by assumption) ?_
                  try simp only [List.getElem_toArray, List.getElem_cons_zero, List.getElem_cons_succ, Act.put, List.setIfInBounds_toArray, List.set_cons_zero, List.set_cons_succ]
                  refine wpAnyH_take (i := 8) (v := .bool true) rfl (by kernel_rfl) (by kernel_rfl) (by kernel_rfl) (fun _ _ _ h => h) (Or.inl ⟨by rfl, fun w hSw => by (try dsimp only at hSw); go_simp⟩) (by assumption) ?_
                  try simp only [List.getElem_toArray, List.getElem_cons_zero, List.getElem_cons_succ, Act.put, List.setIfInBounds_toArray, List.set_cons_zero, List.set_cons_succ]
                  refine wpAnyH_take (i := 9) (v := .bool true) rfl (by kernel_rfl) (by kernel_rfl) (by kernel_rfl) (fun _ _ _ h => h) (Or.inl ⟨by rfl, fun w hSw => by (try dsimp only at hSw); go_simp⟩) (by assumption) ?_
                  try simp only [List.getElem_toArray, List.getElem_cons_zero, List.getElem_cons_succ, Act.put, List.setIfInBounds_toArray, List.set_cons_zero, List.set_cons_succ]
                  refine wpAnyH_take (i := 10) (v := .bool true) rfl (by kernel_rfl) (by kernel_rfl) (by kernel_rfl) (fun _ _ _ h => h) (Or.inl ⟨by rfl, fun w hSw => by (try dsimp only at hSw); go_simp⟩) (by assumption) ?_
                  try simp only [List.getElem_toArray, List.getElem_cons_zero, List.getElem_cons_succ, Act.put, List.setIfInBounds_toArray, List.set_cons_zero, List.set_cons_succ]
                  refine wpAnyH_take (i := 11) (v := .slice (some ⟨gw, ow, none⟩) nw capw) rfl (by kernel_rfl) (by kernel_rfl) (by kernel_rfl) (fun _ _ _ h => h) (Or.inl ⟨by rfl, fun w hSw => by (try dsimp only at hSw); go_simp⟩) (by assumption) ?_
                  try simp only [List.getElem_toArray, List.getElem_cons_zero, List.getElem_cons_succ, Act.put, List.setIfInBounds_toArray, List.set_cons_zero, List.set_cons_succ]
                  refine wpAnyH_take (i := 12) (v := .int .i64 (k : Int)) rfl (by kernel_rfl) (by kernel_rfl) (by kernel_rfl) (fun _ _ _ h => h) (Or.inl ⟨by rfl, fun w hSw => by (try dsimp only at hSw); go_simp⟩) (by assumption) ?_
                  try simp only [List.getElem_toArray, List.getElem_cons_zero, List.getElem_cons_succ, Act.put, List.setIfInBounds_toArray, List.set_cons_zero, List.set_cons_succ]
                  refine wpAnyH_take (i := 13) (v := .pointer (some ⟨gw, ow + k * 2, none⟩)) rfl (by kernel_rfl) (by kernel_rfl) (by kernel_rfl) (fun _ _ _ h => h) (Or.inl ⟨by rfl, fun w hSw => by (try dsimp only at hSw); go_simp⟩) (by assumption) ?_
                  try simp only [List.getElem_toArray, List.getElem_cons_zero, List.getElem_cons_succ, Act.put, List.setIfInBounds_toArray, List.set_cons_zero, List.set_cons_succ]
                  refine wpAnyH_take (i := 14) (v := .agg #[.int .u8 m.st, .int .u32 m.inc]) rfl (by kernel_rfl) (by kernel_rfl) (by kernel_rfl) (fun _ _ _ h => h) (Or.inl ⟨by rfl, fun w hSw => by (try dsimp only at hSw); go_simp⟩) (by assumption) ?_
                  try simp only [List.getElem_toArray, List.getElem_cons_zero, List.getElem_cons_succ, Act.put, List.setIfInBounds_toArray, List.set_cons_zero, List.set_cons_succ]
                  refine wpAnyH_take (i := 15) (v := .slice (some ⟨gx, ox, none⟩) n capx) rfl (by kernel_rfl) (by kernel_rfl) (by kernel_rfl) (fun _ _ _ h => h) (Or.inl ⟨by rfl, fun w hSw => by (try dsimp only at hSw); go_simp⟩) (by assumption) ?_
                  try simp only [List.getElem_toArray, List.getElem_cons_zero, List.getElem_cons_succ, Act.put, List.setIfInBounds_toArray, List.set_cons_zero, List.set_cons_succ]
                  refine wpAnyH_take (i := 16) (v := .int .i64 (k : Int)) rfl (by kernel_rfl) (by kernel_rfl) (by kernel_rfl) (fun _ _ _ h => h) (Or.inl ⟨by rfl, fun w hSw => by (try dsimp only at hSw); go_simp⟩) (by assumption) ?_
                  try simp only [List.getElem_toArray, List.getElem_cons_zero, List.getElem_cons_succ, Act.put, List.setIfInBounds_toArray, List.set_cons_zero, List.set_cons_succ]
                  refine wpAnyH_take (i := 17) (v := .pointer (some ⟨gx, ox + k * 2, none⟩)) rfl (by kernel_rfl) (by kernel_rfl) (by kernel_rfl) (fun _ _ _ h => h) (Or.inl ⟨by rfl, fun w hSw => by (try dsimp only at hSw); go_simp⟩) (by assumption) ?_
                  try simp only [List.getElem_toArray, List.getElem_cons_zero, List.getElem_cons_succ, Act.put, List.setIfInBounds_toArray, List.set_cons_zero, List.set_cons_succ]
                  refine wpAnyH_take (i := 18) (v := .agg #[.int .u8 x.st, .int .u32 x.inc]) rfl (by kernel_rfl) (by kernel_rfl) (by kernel_rfl) (fun _ _ _ h => h) (Or.inl ⟨by rfl, fun w hSw => by (try dsimp only at hSw); go_simp⟩) (by assumption) ?_
                  try simp only [List.getElem_toArray, List.getElem_cons_zero, List.getElem_cons_succ, Act.put, List.setIfInBounds_toArray, List.set_cons_zero, List.set_cons_succ]
                  refine wpAnyH_ready (rs := [19]) (by kernel_rfl) (by simp) ?_
                  refine AllReadyH.cons (i := 19) rfl (fun K hK => ?_) AllReadyH.nil
                  go_simp
                  refine (hNm _).mono ?_
                  rintro e w3 ⟨rfl, h3⟩
                  replace HKi := hid (kept_trans HKi.out h3)
                  clear h3
                  have hS := HS.out _ HKi.out
                  clear hHeld
                  show K _ _
                  refine hK.out _ _ (by assumption) (fun hHeld => ?_)
                  clear hK K
                  try simp only [List.getElem_toArray, List.getElem_cons_zero, List.getElem_cons_succ, Act.put, List.setIfInBounds_toArray, List.set_cons_zero, List.set_cons_succ]
                  refine wpAnyH_take (i := 20) (v := .bool false) rfl (by kernel_rfl) (by kernel_rfl) (by kernel_rfl) (fun _ _ _ h => h) (Or.inl ⟨by rfl, fun w hSw => by (try dsimp only at hSw); go_simp⟩) (by assumption) ?_
                  try simp only [List.getElem_toArray, List.getElem_cons_zero, List.getElem_cons_succ, Act.put, List.setIfInBounds_toArray, List.set_cons_zero, List.set_cons_succ]
                  refine wpAnyH_done (by kernel_rfl) ?_ _
                  refine NoPanic.normal ?_
                  clear hHeld hNm
                  go_wp2_with fail
                  go_roundw
                  case rel => exact ⟨k + 1, by omega, by go_num, HKi⟩
                  case measure => simp [intOf]; omega
              · have hdI : decide ((k : Int) < (nw : Int)) = false := by simp; omega
                have hinI : ¬ (k : Int) < (nw : Int) := by omega
                clear hx
                go_wp2_with fail
                refine wp_region_noPanic ?_
                refine wp_region_held_drew (S := (fun _ => True)) (by kernel_rfl) (trivial) (fun hHeld => ?_)
                replace HKi := hid (kept_drew HKi.out)
                generalize wr.drew = wz at *
                refine wpAnyH_take (i := 0) (v := .int .i64 (k : Int)) rfl (by kernel_rfl) (by kernel_rfl) (by kernel_rfl) (fun _ _ _ h => h) (Or.inl ⟨by rfl, fun w hSw => by (try dsimp only at hSw); go_simp⟩) (by assumption) ?_
                try simp only [List.getElem_toArray, List.getElem_cons_zero, List.getElem_cons_succ, Act.put, List.setIfInBounds_toArray, List.set_cons_zero, List.set_cons_succ]
                refine wpAnyH_take (i := 1) (v := .slice dw nw capw) rfl (by kernel_rfl) (by kernel_rfl) (by kernel_rfl) (fun _ _ _ h => h) (Or.inl ⟨by rfl, fun w hSw => by (try dsimp only at hSw); go_simp⟩) (by assumption) ?_
                try simp only [List.getElem_toArray, List.getElem_cons_zero, List.getElem_cons_succ, Act.put, List.setIfInBounds_toArray, List.set_cons_zero, List.set_cons_succ]
                refine wpAnyH_take (i := 2) (v := .int .i64 (nw : Int)) rfl (by kernel_rfl) (by kernel_rfl) (by kernel_rfl) (fun _ _ _ h => h) (Or.inl ⟨by rfl, fun w hSw => by (try dsimp only at hSw); go_simp⟩) (by assumption) ?_
                try simp only [List.getElem_toArray, List.getElem_cons_zero, List.getElem_cons_succ, Act.put, List.setIfInBounds_toArray, List.set_cons_zero, List.set_cons_succ]
                refine wpAnyH_take (i := 3) (v := .bool false) rfl (by kernel_rfl) (by kernel_rfl) (by kernel_rfl) (fun _ _ _ h => h) (Or.inl ⟨by rfl, fun w hSw => by (try dsimp only at hSw); go_simp⟩) (by assumption) ?_
                try simp only [List.getElem_toArray, List.getElem_cons_zero, List.getElem_cons_succ, Act.put, List.setIfInBounds_toArray, List.set_cons_zero, List.set_cons_succ]
                refine wpAnyH_take (i := 4) (v := .bool false) rfl (by kernel_rfl) (by kernel_rfl) (by kernel_rfl) (fun _ _ _ h => h) (Or.inl ⟨by rfl, fun w hSw => by (try dsimp only at hSw); go_simp⟩) (by assumption) ?_
                try simp only [List.getElem_toArray, List.getElem_cons_zero, List.getElem_cons_succ, Act.put, List.setIfInBounds_toArray, List.set_cons_zero, List.set_cons_succ]
                refine wpAnyH_take (i := 5) (v := undef) rfl (by kernel_rfl) (by kernel_rfl) (by kernel_rfl) (fun _ _ _ h => h) (Or.inr ⟨by rfl, rfl⟩) (by assumption) ?_
                try simp only [List.getElem_toArray, List.getElem_cons_zero, List.getElem_cons_succ, Act.put, List.setIfInBounds_toArray, List.set_cons_zero, List.set_cons_succ]
                refine wpAnyH_take (i := 6) (v := undef) rfl (by kernel_rfl) (by kernel_rfl) (by kernel_rfl) (fun _ _ _ h => h) (Or.inr ⟨by rfl, rfl⟩) (by assumption) ?_
                try simp only [List.getElem_toArray, List.getElem_cons_zero, List.getElem_cons_succ, Act.put, List.setIfInBounds_toArray, List.set_cons_zero, List.set_cons_succ]
                refine wpAnyH_take (i := 7) (v := undef) rfl (by kernel_rfl) (by kernel_rfl) (by kernel_rfl) (fun _ _ _ h => h) (Or.inr ⟨by rfl, rfl⟩) (by assumption) ?_
                try simp only [List.getElem_toArray, List.getElem_cons_zero, List.getElem_cons_succ, Act.put, List.setIfInBounds_toArray, List.set_cons_zero, List.set_cons_succ]
                refine wpAnyH_take (i := 8) (v := undef) rfl (by kernel_rfl) (by kernel_rfl) (by kernel_rfl) (fun _ _ _ h => h) (Or.inr ⟨by rfl, rfl⟩) (by assumption) ?_
                try simp only [List.getElem_toArray, List.getElem_cons_zero, List.getElem_cons_succ, Act.put, List.setIfInBounds_toArray, List.set_cons_zero, List.set_cons_succ]
                refine wpAnyH_take (i := 9) (v := .bool false) rfl (by kernel_rfl) (by kernel_rfl) (by kernel_rfl) (fun _ _ _ h => h) (Or.inl ⟨by rfl, fun w hSw => by (try dsimp only at hSw); go_simp⟩) (by assumption) ?_
                try simp only [List.getElem_toArray, List.getElem_cons_zero, List.getElem_cons_succ, Act.put, List.setIfInBounds_toArray, List.set_cons_zero, List.set_cons_succ]
                refine wpAnyH_take (i := 10) (v := .bool false) rfl (by kernel_rfl) (by kernel_rfl) (by kernel_rfl) (fun _ _ _ h => h) (Or.inl ⟨by rfl, fun w hSw => by (try dsimp only at hSw); go_simp⟩) (by assumption) ?_
                try simp only [List.getElem_toArray, List.getElem_cons_zero, List.getElem_cons_succ, Act.put, List.setIfInBounds_toArray, List.set_cons_zero, List.set_cons_succ]
                refine wpAnyH_take (i := 11) (v := undef) rfl (by kernel_rfl) (by kernel_rfl) (by kernel_rfl) (fun _ _ _ h => h) (Or.inr ⟨by rfl, rfl⟩) (by assumption) ?_
                try simp only [List.getElem_toArray, List.getElem_cons_zero, List.getElem_cons_succ, Act.put, List.setIfInBounds_toArray, List.set_cons_zero, List.set_cons_succ]
                refine wpAnyH_take (i := 12) (v := undef) rfl (by kernel_rfl) (by kernel_rfl) (by kernel_rfl) (fun _ _ _ h => h) (Or.inr ⟨by rfl, rfl⟩) (by assumption) ?_
                try simp only [List.getElem_toArray, List.getElem_cons_zero, List.getElem_cons_succ, Act.put, List.setIfInBounds_toArray, List.set_cons_zero, List.set_cons_succ]
                refine wpAnyH_take (i := 13) (v := undef) rfl (by kernel_rfl) (by kernel_rfl) (by kernel_rfl) (fun _ _ _ h => h) (Or.inr ⟨by rfl, rfl⟩) (by assumption) ?_
                try simp only [List.getElem_toArray, List.getElem_cons_zero, List.getElem_cons_succ, Act.put, List.setIfInBounds_toArray, List.set_cons_zero, List.set_cons_succ]
                refine wpAnyH_take (i := 14) (v := undef) rfl (by kernel_rfl) (by kernel_rfl) (by kernel_rfl) (fun _ _ _ h => h) (Or.inr ⟨by rfl, rfl⟩) (by assumption) ?_
                try simp only [List.getElem_toArray, List.getElem_cons_zero, List.getElem_cons_succ, Act.put, List.setIfInBounds_toArray, List.set_cons_zero, List.set_cons_succ]
                refine wpAnyH_take (i := 15) (v := undef) rfl (by kernel_rfl) (by kernel_rfl) (by kernel_rfl) (fun _ _ _ h => h) (Or.inr ⟨by rfl, rfl⟩) (by assumption) ?_
                try simp only [List.getElem_toArray, List.getElem_cons_zero, List.getElem_cons_succ, Act.put, List.setIfInBounds_toArray, List.set_cons_zero, List.set_cons_succ]
                refine wpAnyH_take (i := 16) (v := undef) rfl (by kernel_rfl) (by kernel_rfl) (by kernel_rfl) (fun _ _ _ h => h) (Or.inr ⟨by rfl, rfl⟩) (by assumption) ?_
                try simp only [List.getElem_toArray, List.getElem_cons_zero, List.getElem_cons_succ, Act.put, List.setIfInBounds_toArray, List.set_cons_zero, List.set_cons_succ]
                refine wpAnyH_take (i := 17) (v := undef) rfl (by kernel_rfl) (by kernel_rfl) (by kernel_rfl) (fun _ _ _ h => h) (Or.inr ⟨by rfl, rfl⟩) (by assumption) ?_
                try simp only [List.getElem_toArray, List.getElem_cons_zero, List.getElem_cons_succ, Act.put, List.setIfInBounds_toArray, List.set_cons_zero, List.set_cons_succ]
                refine wpAnyH_take (i := 18) (v := undef) rfl (by kernel_rfl) (by kernel_rfl) (by kernel_rfl) (fun _ _ _ h => h) (Or.inr ⟨by rfl, rfl⟩) (by assumption) ?_
                try simp only [List.getElem_toArray, List.getElem_cons_zero, List.getElem_cons_succ, Act.put, List.setIfInBounds_toArray, List.set_cons_zero, List.set_cons_succ]
                refine wpAnyH_take (i := 19) (v := undef) rfl (by kernel_rfl) (by kernel_rfl) (by kernel_rfl) (fun _ _ _ h => h) (Or.inr ⟨by rfl, rfl⟩) (by assumption) ?_
                try simp only [List.getElem_toArray, List.getElem_cons_zero, List.getElem_cons_succ, Act.put, List.setIfInBounds_toArray, List.set_cons_zero, List.set_cons_succ]
                refine wpAnyH_take (i := 20) (v := .bool false) rfl (by kernel_rfl) (by kernel_rfl) (by kernel_rfl) (fun _ _ _ h => h) (Or.inl ⟨by rfl, fun w hSw => by (try dsimp only at hSw); go_simp⟩) (by assumption) ?_
                try simp only [List.getElem_toArray, List.getElem_cons_zero, List.getElem_cons_succ, Act.put, List.setIfInBounds_toArray, List.set_cons_zero, List.set_cons_succ]
                refine wpAnyH_done (by kernel_rfl) ?_ _
                refine NoPanic.normal ?_
                clear hHeld
                go_wp2_with fail
                go_roundw
                case rel => exact ⟨k + 1, by omega, by go_num, HKi⟩
                case measure => simp [intOf]; omega
            · have he : k = n := by omega
              subst he
              have HK5 := hid (kept_trans HK4.out HKi.out)
              have HX5 := hid (rg_kept encM_ok HX.out HKi.out)
              go_wp2_with fail
              refine (HAl.out u _ wr HN.out.2 HOu.out (rg_kept encM_ok HL.out HK5.out)).mono ?_
              rintro e w6 ⟨v6, rfl, r6, k6⟩
              have HR6 := hid r6
              have HX6 := hid (rg_kept encM_ok HX5.out k6)
              have HK6 := hid (kept_trans HK5.out k6)
              clear r6 k6 HX5 HK5
              go_wp2_with fail
              refine (HH.out self p (allN u) _ _ w6 HSf.out.1 HSf.out.2 (by rw [HXl.out]; exact hn64) HLa.out HXo.out HOa.out HX6.out HR6.out).mono ?_
              rintro e w7 ⟨y1, y2, rfl, s1, s2, k7⟩
              rw [HSt.out.1] at s1
              rw [HSt.out.2] at s2
              have HY := hid s1
              have HX7 := hid (rg_kept encM_ok HX6.out k7)
              have HK7 := hid (kept_trans HK6.out k7)
              obtain ⟨ac, cc, rfl, -, -, -, -⟩ := s2
              clear s1 k7 HX6 HK6
              go_wp2_with fail
              refine (HFx.out w7).mono ?_
              rintro e w8 ⟨rfl, k8⟩
              have HY8 := hid (rg_kept encM_ok HY.out k8)
              have HX8 := hid (rg_kept encM_ok HX7.out k8)
              have HK8 := hid (kept_trans HK7.out k8)
              clear k8 HY HX7 HK7
              go_wp2_with fail
              refine (sameM_any p (by rw [HXl.out]; omega) _ _ w8 HX8.out HY8.out).mono ?_
              rintro e w9 ⟨rfl, k9⟩
              have HK9 := hid (kept_trans HK8.out k9)
              clear k9
              go_wp2_with fail
              go_ret
              exact ⟨rfl, HK9.out⟩
end Go.Proofs.Ytdcokccfannfmaa
