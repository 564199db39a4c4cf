/- The law on newer ones alone, walked. -/
import Derived.Test.YtdcokccfannfmaaVwFixed
import Derived.Deep.RegionHeld3
namespace Go.Proofs.Ytdcokccfannfmaa
open Go.ChangeShapes Go.WideShapes Go.ChangeAt Go.RowKit
set_option linter.unusedVariables false
set_option linter.unusedSimpArgs false
set_option maxRecDepth 100000

/- What a view behind news is to the one ahead of them. -/
theorem newer_self {self : Int} {v : List M} {l : List Nw} {i : Nat} {m x : M} (hi : (i : Int) = self) (hl : ∀ x ∈ l, okN x) (hm : v[i]? = some m) (hx : (hearV self v l)[i]? = some x) : m.inc ≤ x.inc ∧ (m.st = 1 → x.st = 1) := by
  rw [hearV_self hi l v m (fun y hy => (hl y hy).1.1) hm] at hx
  injection hx with hx
  rw [← hx]
  exact selfN_up l m i
theorem newer_other {self : Int} {v : List M} {l : List Nw} {i : Nat} {m x : M} (hi : (i : Int) ≠ self) (hl : ∀ x ∈ l, okN x) (hm : v[i]? = some m) (hx : (hearV self v l)[i]? = some x) : x = m ∨ Nr x m := by
  rw [hearV_get hi l v m (fun y hy => (hl y hy).1.1) hm] at hx
  injection hx with hx
  rw [← hx]
  exact (newest_is i l m).1
theorem at_cells3' {w : World} {X T : Nat} {a0 a1 a2 : Value} (h : At w X #[a0, a1, a2] T) : w.cell? ⟨X, 0, none⟩ = some a0 ∧ w.cell? ⟨X, 1, none⟩ = some a1 ∧ w.cell? ⟨X, 2, none⟩ = some a2 := ⟨at_cell h 0, at_cell h 1, at_cell h 2⟩
set_option maxHeartbeats 6400000 in
theorem newer_walk (hF : FreshIs) (hH : HearIs) (v : List M) (self : Int) (l : List Nw) (h1 : 0 ≤ self) (h2 : self < 256) (hv : ∀ m ∈ v, okM m) (hl : ∀ x ∈ l, okN x) (vv lv : Value) (w : World) (h : Rg encM 2 w vv v) (hn : Rg encN 3 w lv l) : Calls Try.prog 5 #[vv, .int .u8 self, lv] w fun e w' => e = .returned (.bool true) ∧ Kept w w' := by
  have HH := hid hH
  have HR := hid h
  have HL := hid hn
  have HFx := hid (fun w => fixed_any hF hH w)
  have HSf := hid (And.intro h1 h2)
  have HOv := hid hv
  have HOl := hid hl
  have HNs := hid (fun i m x hi hm hx => newer_self (self := self) (v := v) (l := l) (i := i) (m := m) (x := x) hi hl hm hx)
  have HNo := hid (fun i m x hi hm hx => newer_other (self := self) (v := v) (l := l) (i := i) (m := m) (x := x) hi hl hm hx)
  have HCh := hid (fun c hc => changes_are (self := self) l v (fun y hy => (hl y hy).1.1) c hc)
  have HGv : Hid (∀ k, k < v.length → ∃ y, v[k]? = some y) := hid (fun k hk => ⟨v[k], List.getElem?_eq_getElem hk⟩)
  obtain ⟨a, cap, rfl, -, -, -, -⟩ := h
  have HPv : Hid (0 < v.length → ∃ g o, a = some ⟨g, o, none⟩) := hid (fun hp => by
    obtain ⟨g, o, c, e⟩ := rg_pos HR.out hp
    injection e with e1
    exact ⟨g, o, e1⟩)
  obtain ⟨b, capb, rfl, -, -, -, -⟩ := hn
  clear hF hH h1 h2 hv hl
  obtain ⟨n, hvn⟩ : ∃ n, v.length = n := ⟨_, rfl⟩
  have HVn := hid hvn
  rw [hvn] at HR HGv HPv ⊢
  obtain ⟨m0, hlm⟩ : ∃ m, l.length = m := ⟨_, rfl⟩
  have HLm := hid hlm
  rw [hlm] at HL ⊢
  clear hvn hlm
  go_enter Try.func5, Try.ntmps5
  go_wp2_with fail
  refine (great_any a b n cap m0 capb w).mono ?_
  rintro e w1 ⟨b1, rfl, hb1, rfl⟩
  have HB1 := hid hb1
  clear hb1
  cases b1 with
  | true =>
    go_wp2_with fail
    refine (HFx.out w1).mono ?_
    rintro e w2 ⟨rfl, k2⟩
    have HK2 := hid k2
    clear k2
    go_wp2_with fail
    go_ret
    exact ⟨rfl, HK2.out⟩
  | false =>
    have HN : Hid (v.length ≤ 64 ∧ l.length ≤ 300) := hid (by rw [HVn.out, HLm.out]; exact HB1.out rfl)
    have hn64 : n ≤ 64 := (HB1.out rfl).1
    clear HB1
    go_wp2_with fail
    refine (HH.out self v l _ _ w1 HSf.out.1 HSf.out.2 HN.out.1 (by have := HN.out.2; omega) HOv.out HOl.out HR.out HL.out).mono ?_
    rintro e w2 ⟨x1, x2, rfl, r1, r2, k2⟩
    have HX1 := hid r1
    have HX2 := hid r2
    have HK2 := hid k2
    have HWl : Hid ((hearV self v l).length = n) := hid (by rw [hearV_len, HVn.out])
    have HCl : Hid ((hearC self v l).length ≤ 300) := hid (by have := hearC_len (self := self) l v; have := HN.out.2; omega)
    clear r1 r2 k2
    generalize hearV self v l = W at *
    generalize hearC self v l = C at *
    have HGw : Hid (∀ k, k < n → ∃ y, W[k]? = some y) := hid (fun k hk => ⟨W[k]'(by rw [HWl.out]; exact hk), List.getElem?_eq_getElem (by rw [HWl.out]; exact hk)⟩)
    have HGc : Hid (∀ k, k < C.length → ∃ y, C[k]? = some y) := hid (fun k hk => ⟨C[k], List.getElem?_eq_getElem hk⟩)
    obtain ⟨aw, capw, rfl, -, -, -, -⟩ := HX1.out
    obtain ⟨ac, capc, rfl, -, -, -, -⟩ := HX2.out
    have HPw : Hid (0 < W.length → ∃ g o, aw = some ⟨g, o, none⟩) := hid (fun hp => by
      obtain ⟨g, o, c, e⟩ := rg_pos HX1.out hp
      injection e with e1
      exact ⟨g, o, e1⟩)
    have HPc : Hid (0 < C.length → ∃ g o, ac = some ⟨g, o, none⟩) := hid (fun hp => by
      obtain ⟨g, o, c, e⟩ := rg_pos HX2.out hp
      injection e with e1
      exact ⟨g, o, e1⟩)
    rw [HWl.out] at HX1 HPw ⊢
    obtain ⟨cn, hcn⟩ : ∃ cn, C.length = cn := ⟨_, rfl⟩
    rw [hcn] at HX2 HGc HPc HCl ⊢
    have hc300 := HCl.out
    clear hcn
    go_wp2_with fail
    obtain ⟨W0, rfl⟩ : ∃ W0, W0 = w2 := ⟨w2, rfl⟩
    go_loopw [30] (fun j wq => ∃ (k : Nat), k ≤ n ∧ j = .int .i64 (k : Int) ∧ Hid (Kept W0 wq)) (fun j _ => n - (intOf j).toNat)
    case atStart => exact ⟨0, Nat.zero_le _, rfl, hid (kept_refl _)⟩
    case round =>
      obtain ⟨k, hk, rfl, HKi⟩ := hrel
      by_cases hlt : k < n
      · obtain ⟨m, hm⟩ := HGv.out k hlt
        obtain ⟨x, hx⟩ := HGw.out k hlt
        obtain ⟨g, o, rfl⟩ := HPv.out (by omega)
        obtain ⟨gw, ow, rfl⟩ := HPw.out (by omega)
        have HS : Hid (∀ u, Kept W0 u → (u.cell? ⟨gw, ow + k * 2, none⟩ = some (.int .u8 x.st)) ∧ (u.cell? ⟨gw, ow + k * 2 + 1, none⟩ = some (.int .u32 x.inc)) ∧ (u.cell? ⟨g, o + k * 2, none⟩ = some (.int .u8 m.st)) ∧ (u.cell? ⟨g, o + k * 2 + 1, none⟩ = some (.int .u32 m.inc))) := hid (fun u ku => ⟨(rg_M (rg_kept encM_ok HX1.out ku) hx).1, (rg_M (rg_kept encM_ok HX1.out ku) hx).2, (rg_M (rg_kept encM_ok HR.out (kept_trans HK2.out ku)) hm).1, (rg_M (rg_kept encM_ok HR.out (kept_trans HK2.out ku)) hm).2⟩)
        have hw := u8_wrap (k : Int) (by omega) (by omega)
        by_cases es : (k : Int) = self
        · have hb : ((k : Int) == self) = true := by simpa using es
          obtain ⟨n1, n2⟩ := HNs.out k m x es hm hx
          have hd : decide (x.inc < m.inc) = false := by simp; omega
          obtain ⟨s0, s1, s2, s3⟩ := HS.out wr HKi.out
          clear es hm hx n1
          by_cases hs : m.st = 1
          · have b1 : (m.st == 1) = true := by simpa using hs
            have b2 : (x.st != 1) = false := by simpa using n2 hs
            clear hs n2
            go_wp2_with fail
            go_quiet (fail)
            go_wp2_with fail
            go_roundw
            case rel => exact ⟨k + 1, by omega, by go_num, hid (kept_drewN HKi.out _)⟩
            case measure => simp [intOf]; omega
          · have b1 : (m.st == 1) = false := by simpa using hs
            clear hs n2
            go_wp2_with fail
            go_quiet (fail)
            go_wp2_with fail
            go_roundw
            case rel => exact ⟨k + 1, by omega, by go_num, hid (kept_drewN HKi.out _)⟩
            case measure => simp [intOf]; omega
        · have hb : ((k : Int) == self) = false := by simpa using es
          have hor := HNo.out k m x es hm hx
          have heq := eq_M x m
          clear es hm hx
          cases hsm : sameM x m with
          | true =>
            simp only [hsm] at heq
            obtain ⟨s0, s1, s2, s3⟩ := HS.out wr HKi.out
            clear hsm hor
            go_wp2_with fail
            go_quiet (fail)
            go_wp2_with fail
            go_roundw
            case rel => exact ⟨k + 1, by omega, by go_num, hid (kept_drewN HKi.out _)⟩
            case measure => simp [intOf]; omega
          | false =>
            simp only [hsm] at heq
            have hnr : nwr x m = true := (nwr_iff _ _).2 (hor.resolve_left ((sameM_false _ _).1 hsm))
            have hNm := rnewer_any x m
            rw [hnr] at hNm
            have hS0 := HS.out _ (kept_drew HKi.out)
            clear hsm hor hnr
            go_wp2_with fail
            refine wp_region_noPanic ?_
            refine wp_region_held_drew (S := (fun w' => (w'.cell? ⟨gw, ow + k * 2, none⟩ = some (.int .u8 x.st)) ∧ (w'.cell? ⟨gw, ow + k * 2 + 1, none⟩ = some (.int .u32 x.inc)) ∧ (w'.cell? ⟨g, o + k * 2, none⟩ = some (.int .u8 m.st)) ∧ (w'.cell? ⟨g, o + k * 2 + 1, none⟩ = some (.int .u32 m.inc)))) (by kernel_rfl) (by assumption) (fun hHeld => ?_)
            replace HKi := hid (kept_drew HKi.out)
            generalize wr.drew = wz at *
            refine wpAnyH_take (i := 0) (v := .slice (some ⟨gw, ow, none⟩) n capw) rfl (by kernel_rfl) (by kernel_rfl) (by kernel_rfl) (fun _ _ _ h => h) (Or.inl ⟨by rfl, fun w hSw => by (try dsimp only at hSw); go_simp⟩) (by assumption) ?_
            try simp only [List.getElem_toArray, List.getElem_cons_zero, List.getElem_cons_succ, Act.put, List.setIfInBounds_toArray, List.set_cons_zero, List.set_cons_succ]
            refine wpAnyH_take (i := 1) (v := .int .i64 (k : Int)) rfl (by kernel_rfl) (by kernel_rfl) (by kernel_rfl) (fun _ _ _ h => h) (Or.inl ⟨by rfl, fun w hSw => by (try dsimp only at hSw); go_simp⟩) (by assumption) ?_
            try simp only [List.getElem_toArray, List.getElem_cons_zero, List.getElem_cons_succ, Act.put, List.setIfInBounds_toArray, List.set_cons_zero, List.set_cons_succ]
            refine wpAnyH_take (i := 2) (v := .pointer (some ⟨gw, ow + k * 2, none⟩)) rfl (by kernel_rfl) (by kernel_rfl) (by kernel_rfl) (fun _ _ _ h => h) (Or.inl ⟨by rfl, fun w hSw => by (try dsimp only at hSw); go_simp⟩) (by assumption) ?_
            try simp only [List.getElem_toArray, List.getElem_cons_zero, List.getElem_cons_succ, Act.put, List.setIfInBounds_toArray, List.set_cons_zero, List.set_cons_succ]
            refine wpAnyH_take (i := 3) (v := .agg #[.int .u8 x.st, .int .u32 x.inc]) rfl (by kernel_rfl) (by kernel_rfl) (by kernel_rfl) (fun _ _ _ h => h) (Or.inl ⟨by rfl, fun w hSw => by (try dsimp only at hSw); go_simp⟩) (by assumption) ?_
            try simp only [List.getElem_toArray, List.getElem_cons_zero, List.getElem_cons_succ, Act.put, List.setIfInBounds_toArray, List.set_cons_zero, List.set_cons_succ]
            refine wpAnyH_take (i := 4) (v := .slice (some ⟨g, o, none⟩) n cap) rfl (by kernel_rfl) (by kernel_rfl) (by kernel_rfl) (fun _ _ _ h => h) (Or.inl ⟨by rfl, fun w hSw => by (try dsimp only at hSw); go_simp⟩) (by assumption) ?_
            try simp only [List.getElem_toArray, List.getElem_cons_zero, List.getElem_cons_succ, Act.put, List.setIfInBounds_toArray, List.set_cons_zero, List.set_cons_succ]
            refine wpAnyH_take (i := 5) (v := .int .i64 (k : Int)) rfl (by kernel_rfl) (by kernel_rfl) (by kernel_rfl) (fun _ _ _ h => h) (Or.inl ⟨by rfl, fun w hSw => by (try dsimp only at hSw); go_simp⟩) (by assumption) ?_
            try simp only [List.getElem_toArray, List.getElem_cons_zero, List.getElem_cons_succ, Act.put, List.setIfInBounds_toArray, List.set_cons_zero, List.set_cons_succ]
            refine wpAnyH_take (i := 6) (v := .pointer (some ⟨g, o + k * 2, none⟩)) rfl (by kernel_rfl) (by kernel_rfl) (by kernel_rfl) (fun _ _ _ h => h) (Or.inl ⟨by rfl, fun w hSw => by (try dsimp only at hSw); go_simp⟩) (by assumption) ?_
            try simp only [List.getElem_toArray, List.getElem_cons_zero, List.getElem_cons_succ, Act.put, List.setIfInBounds_toArray, List.set_cons_zero, List.set_cons_succ]
            refine wpAnyH_take (i := 7) (v := .agg #[.int .u8 m.st, .int .u32 m.inc]) rfl (by kernel_rfl) (by kernel_rfl) (by kernel_rfl) (fun _ _ _ h => h) (Or.inl ⟨by rfl, fun w hSw => by (try dsimp only at hSw); go_simp⟩) (by assumption) ?_
            try simp only [List.getElem_toArray, List.getElem_cons_zero, List.getElem_cons_succ, Act.put, List.setIfInBounds_toArray, List.set_cons_zero, List.set_cons_succ]
            refine wpAnyH_take (i := 8) (v := .bool true) rfl (by kernel_rfl) (by kernel_rfl) (by kernel_rfl) (fun _ _ _ h => h) (Or.inl ⟨by rfl, fun w hSw => by (try dsimp only at hSw); go_simp⟩) (by assumption) ?_
            try simp only [List.getElem_toArray, List.getElem_cons_zero, List.getElem_cons_succ, Act.put, List.setIfInBounds_toArray, List.set_cons_zero, List.set_cons_succ]
            refine wpAnyH_take (i := 9) (v := .bool true) rfl (by kernel_rfl) (by kernel_rfl) (by kernel_rfl) (fun _ _ _ h => h) (Or.inl ⟨by rfl, fun w hSw => by (try dsimp only at hSw); go_simp⟩) (by assumption) ?_
            try simp only [List.getElem_toArray, List.getElem_cons_zero, List.getElem_cons_succ, Act.put, List.setIfInBounds_toArray, List.set_cons_zero, List.set_cons_succ]
            refine wpAnyH_take (i := 10) (v := .slice (some ⟨gw, ow, none⟩) n capw) rfl (by kernel_rfl) (by kernel_rfl) (by kernel_rfl) (fun _ _ _ h => h) (Or.inl ⟨by rfl, fun w hSw => by (try dsimp only at hSw); go_simp⟩) (by assumption) ?_
            try simp only [List.getElem_toArray, List.getElem_cons_zero, List.getElem_cons_succ, Act.put, List.setIfInBounds_toArray, List.set_cons_zero, List.set_cons_succ]
            refine wpAnyH_take (i := 11) (v := .int .i64 (k : Int)) rfl (by kernel_rfl) (by kernel_rfl) (by kernel_rfl) (fun _ _ _ h => h) (Or.inl ⟨by rfl, fun w hSw => by (try dsimp only at hSw); go_simp⟩) (by assumption) ?_
            try simp only [List.getElem_toArray, List.getElem_cons_zero, List.getElem_cons_succ, Act.put, List.setIfInBounds_toArray, List.set_cons_zero, List.set_cons_succ]
            refine wpAnyH_take (i := 12) (v := .pointer (some ⟨gw, ow + k * 2, none⟩)) rfl (by kernel_rfl) (by kernel_rfl) (by kernel_rfl) (fun _ _ _ h => h) (Or.inl ⟨by rfl, fun w hSw => by (try dsimp only at hSw); go_simp⟩) (by assumption) ?_
            try simp only [List.getElem_toArray, List.getElem_cons_zero, List.getElem_cons_succ, Act.put, List.setIfInBounds_toArray, List.set_cons_zero, List.set_cons_succ]
            refine wpAnyH_take (i := 13) (v := .agg #[.int .u8 x.st, .int .u32 x.inc]) rfl (by kernel_rfl) (by kernel_rfl) (by kernel_rfl) (fun _ _ _ h => h) (Or.inl ⟨by rfl, fun w hSw => by (try dsimp only at hSw); go_simp⟩) (by assumption) ?_
            try simp only [List.getElem_toArray, List.getElem_cons_zero, List.getElem_cons_succ, Act.put, List.setIfInBounds_toArray, List.set_cons_zero, List.set_cons_succ]
            refine wpAnyH_take (i := 14) (v := .slice (some ⟨g, o, none⟩) n cap) rfl (by kernel_rfl) (by kernel_rfl) (by kernel_rfl) (fun _ _ _ h => h) (Or.inl ⟨by rfl, fun w hSw => by (try dsimp only at hSw); go_simp⟩) (by assumption) ?_
            try simp only [List.getElem_toArray, List.getElem_cons_zero, List.getElem_cons_succ, Act.put, List.setIfInBounds_toArray, List.set_cons_zero, List.set_cons_succ]
            refine wpAnyH_take (i := 15) (v := .int .i64 (k : Int)) rfl (by kernel_rfl) (by kernel_rfl) (by kernel_rfl) (fun _ _ _ h => h) (Or.inl ⟨by rfl, fun w hSw => by (try dsimp only at hSw); go_simp⟩) (by assumption) ?_
            try simp only [List.getElem_toArray, List.getElem_cons_zero, List.getElem_cons_succ, Act.put, List.setIfInBounds_toArray, List.set_cons_zero, List.set_cons_succ]
            refine wpAnyH_take (i := 16) (v := .pointer (some ⟨g, o + k * 2, none⟩)) rfl (by kernel_rfl) (by kernel_rfl) (by kernel_rfl) (fun _ _ _ h => h) (Or.inl ⟨by rfl, fun w hSw => by (try dsimp only at hSw); go_simp⟩) (by assumption) ?_
            try simp only [List.getElem_toArray, List.getElem_cons_zero, List.getElem_cons_succ, Act.put, List.setIfInBounds_toArray, List.set_cons_zero, List.set_cons_succ]
            refine wpAnyH_take (i := 17) (v := .agg #[.int .u8 m.st, .int .u32 m.inc]) rfl (by kernel_rfl) (by kernel_rfl) (by kernel_rfl) (fun _ _ _ h => h) (Or.inl ⟨by rfl, fun w hSw => by (try dsimp only at hSw); go_simp⟩) (by assumption) ?_
            try simp only [List.getElem_toArray, List.getElem_cons_zero, List.getElem_cons_succ, Act.put, List.setIfInBounds_toArray, List.set_cons_zero, List.set_cons_succ]
            refine wpAnyH_ready (rs := [18]) (by kernel_rfl) (by simp) ?_
            refine AllReadyH.cons (i := 18) rfl (fun K hK => ?_) AllReadyH.nil
            go_simp
            refine (hNm _).mono ?_
            rintro e w3 ⟨rfl, h3⟩
            replace HKi := hid (kept_trans HKi.out h3)
            clear h3
            have hS := HS.out _ HKi.out
            clear hHeld
            show K _ _
            refine hK.out _ _ (by assumption) (fun hHeld => ?_)
            clear hK K
            try simp only [List.getElem_toArray, List.getElem_cons_zero, List.getElem_cons_succ, Act.put, List.setIfInBounds_toArray, List.set_cons_zero, List.set_cons_succ]
            refine wpAnyH_take (i := 19) (v := .bool false) rfl (by kernel_rfl) (by kernel_rfl) (by kernel_rfl) (fun _ _ _ h => h) (Or.inl ⟨by rfl, fun w hSw => by (try dsimp only at hSw); go_simp⟩) (by assumption) ?_
            try simp only [List.getElem_toArray, List.getElem_cons_zero, List.getElem_cons_succ, Act.put, List.setIfInBounds_toArray, List.set_cons_zero, List.set_cons_succ]
            refine wpAnyH_take (i := 20) (v := .bool false) rfl (by kernel_rfl) (by kernel_rfl) (by kernel_rfl) (fun _ _ _ h => h) (Or.inl ⟨by rfl, fun w hSw => by (try dsimp only at hSw); go_simp⟩) (by assumption) ?_
            try simp only [List.getElem_toArray, List.getElem_cons_zero, List.getElem_cons_succ, Act.put, List.setIfInBounds_toArray, List.set_cons_zero, List.set_cons_succ]
            refine wpAnyH_done (by kernel_rfl) ?_ _
            refine NoPanic.normal ?_
            clear hHeld heq hNm
            go_wp2_with fail
            go_roundw
            case rel => exact ⟨k + 1, by omega, by go_num, HKi⟩
            case measure => simp [intOf]; omega
      · have he : k = n := by omega
        subst he
        go_wp2_with fail
        obtain ⟨W1, rfl⟩ : ∃ W1, W1 = wr := ⟨wr, rfl⟩
        have HK1 := hid (kept_trans HK2.out HKi.out)
        have HX21 := hid (rg_kept encN_ok HX2.out HKi.out)
        clear HKi
        go_loopw [88] (fun j wq => ∃ (i : Nat), i ≤ cn ∧ j = .int .i64 (i : Int) ∧ Hid (Kept W1 wq)) (fun j _ => cn - (intOf j).toNat)
        case atStart => exact ⟨0, Nat.zero_le _, rfl, hid (kept_refl _)⟩
        case round =>
          obtain ⟨i, hi, rfl, HKi⟩ := hrel
          by_cases hlt2 : i < cn
          · obtain ⟨x, hx⟩ := HGc.out i hlt2
            obtain ⟨gc, oc, rfl⟩ := HPc.out (by omega)
            obtain ⟨hx0, m, hm, hor⟩ := HCh.out x (List.mem_of_getElem? hx)
            obtain ⟨c0, c1, c2⟩ := rg_N (rg_kept encN_ok HX21.out HKi.out) hx
            obtain ⟨nd, xm, hxe⟩ : ∃ (nd : Nat) (xm : M), x = ⟨(nd : Int), xm⟩ := ⟨x.node.toNat, x.m, by cases x; simp only at hx0 ⊢; congr 1; omega⟩
            subst hxe
            simp only [Int.toNat_natCast] at hm
            have hndl : nd < k := by
              have := (List.getElem?_eq_some_iff.1 hm).1
              rw [HVn.out] at this
              exact this
            obtain ⟨g, o, rfl⟩ := HPv.out (by omega)
            have hw := (show wrap64 (nd : Int) = (nd : Int) by unfold wrap64; omega)
            have HW2 : Hid (IntKind.i64.wrap (nd : Int) = (nd : Int)) := hid (by rw [IntKind.wrap_i64]; omega)
            have hge : ¬ (k : Int) ≤ (nd : Int) := by omega
            have hged : decide ((k : Int) ≤ (nd : Int)) = false := by simpa using hge
            have zs := zeroN wr
            have HAx := hid (at_new wr #[.int .u8 (nd : Int), .int .u8 xm.st, .int .u32 xm.inc] 42)
            have HKa := hid (kept_alloc HKi.out (.cells #[.int .u8 (nd : Int), .int .u8 xm.st, .int .u32 xm.inc] 42))
            have HMv := hid (fun u (ku : Kept W1 u) => rg_M (rg_kept encM_ok HR.out (kept_trans HK1.out ku)) hm)
            clear hx hm hx0 HKi
            go_wp2_with fail
            clear c0 c1 c2 zs
            generalize wr.alloc (.cells #[.int .u8 (nd : Int), .int .u8 xm.st, .int .u32 xm.inc] 42) = wA at *
            generalize wr.heap.size = X at *
            by_cases es : (nd : Int) = self
            · have hb : ((nd : Int) != self) = false := by simpa using es
              have HKi := hid (kept_refl wA)
              have hS0 := at_cells3' (at_kept HAx.out (kept_drew HKi.out))
              obtain ⟨n, hne⟩ : ∃ n, n = k := ⟨k, rfl⟩
              subst hne
              clear es hor hw
              have hw2 := HW2.out
              refine wp_region_noPanic ?_
              refine wp_region_held_drew (S := (fun w' => (w'.cell? ⟨X, 0, none⟩ = some (.int .u8 (nd : Int))) ∧ (w'.cell? ⟨X, 1, none⟩ = some (.int .u8 xm.st)) ∧ (w'.cell? ⟨X, 2, none⟩ = some (.int .u32 xm.inc)))) (by kernel_rfl) (by assumption) (fun hHeld => ?_)
              replace HKi := hid (kept_drew HKi.out)
              generalize wA.drew = wz at *
              refine wpAnyH_take (i := 0) (v := .pointer (some ⟨X, 0, none⟩)) rfl (by kernel_rfl) (by kernel_rfl) (by kernel_rfl) (fun _ _ _ h => h) (Or.inl ⟨by rfl, fun w hSw => by (try dsimp only at hSw); go_simp⟩) (by assumption) ?_
              try simp only [List.getElem_toArray, List.getElem_cons_zero, List.getElem_cons_succ, Act.put, List.setIfInBounds_toArray, List.set_cons_zero, List.set_cons_succ]
              refine wpAnyH_take (i := 1) (v := .int .u8 (nd : Int)) rfl (by kernel_rfl) (by kernel_rfl) (by kernel_rfl) (fun _ _ _ h => h) (Or.inl ⟨by rfl, fun w hSw => by (try dsimp only at hSw); go_simp⟩) (by assumption) ?_
              try simp only [List.getElem_toArray, List.getElem_cons_zero, List.getElem_cons_succ, Act.put, List.setIfInBounds_toArray, List.set_cons_zero, List.set_cons_succ]
              refine wpAnyH_take (i := 2) (v := .int .i64 (nd : Int)) rfl (by kernel_rfl) (by kernel_rfl) (by kernel_rfl) (fun _ _ _ h => h) (Or.inl ⟨by rfl, fun w hSw => by (try dsimp only at hSw); go_simp⟩) (by assumption) ?_
              try simp only [List.getElem_toArray, List.getElem_cons_zero, List.getElem_cons_succ, Act.put, List.setIfInBounds_toArray, List.set_cons_zero, List.set_cons_succ]
              refine wpAnyH_take (i := 3) (v := .slice (some ⟨g, o, none⟩) n cap) rfl (by kernel_rfl) (by kernel_rfl) (by kernel_rfl) (fun _ _ _ h => h) (Or.inl ⟨by rfl, fun w hSw => by (try dsimp only at hSw); go_simp⟩) (by assumption) ?_
              try simp only [List.getElem_toArray, List.getElem_cons_zero, List.getElem_cons_succ, Act.put, List.setIfInBounds_toArray, List.set_cons_zero, List.set_cons_succ]
              refine wpAnyH_take (i := 4) (v := .int .i64 (n : Int)) rfl (by kernel_rfl) (by kernel_rfl) (by kernel_rfl) (fun _ _ _ h => h) (Or.inl ⟨by rfl, fun w hSw => by (try dsimp only at hSw); go_simp⟩) (by assumption) ?_
              try simp only [List.getElem_toArray, List.getElem_cons_zero, List.getElem_cons_succ, Act.put, List.setIfInBounds_toArray, List.set_cons_zero, List.set_cons_succ]
              refine wpAnyH_take (i := 5) (v := .bool false) rfl (by kernel_rfl) (by kernel_rfl) (by kernel_rfl) (fun _ _ _ h => h) (Or.inl ⟨by rfl, fun w hSw => by (try dsimp only at hSw); go_simp⟩) (by assumption) ?_
              try simp only [List.getElem_toArray, List.getElem_cons_zero, List.getElem_cons_succ, Act.put, List.setIfInBounds_toArray, List.set_cons_zero, List.set_cons_succ]
              refine wpAnyH_take (i := 6) (v := .bool false) rfl (by kernel_rfl) (by kernel_rfl) (by kernel_rfl) (fun _ _ _ h => h) (Or.inl ⟨by rfl, fun w hSw => by (try dsimp only at hSw); go_simp⟩) (by assumption) ?_
              try simp only [List.getElem_toArray, List.getElem_cons_zero, List.getElem_cons_succ, Act.put, List.setIfInBounds_toArray, List.set_cons_zero, List.set_cons_succ]
              refine wpAnyH_take (i := 7) (v := .pointer (some ⟨X, 0, none⟩)) rfl (by kernel_rfl) (by kernel_rfl) (by kernel_rfl) (fun _ _ _ h => h) (Or.inl ⟨by rfl, fun w hSw => by (try dsimp only at hSw); go_simp⟩) (by assumption) ?_
              try simp only [List.getElem_toArray, List.getElem_cons_zero, List.getElem_cons_succ, Act.put, List.setIfInBounds_toArray, List.set_cons_zero, List.set_cons_succ]
              refine wpAnyH_take (i := 8) (v := .int .u8 (nd : Int)) rfl (by kernel_rfl) (by kernel_rfl) (by kernel_rfl) (fun _ _ _ h => h) (Or.inl ⟨by rfl, fun w hSw => by (try dsimp only at hSw); go_simp⟩) (by assumption) ?_
              try simp only [List.getElem_toArray, List.getElem_cons_zero, List.getElem_cons_succ, Act.put, List.setIfInBounds_toArray, List.set_cons_zero, List.set_cons_succ]
              refine wpAnyH_take (i := 9) (v := .int .u8 self) rfl (by kernel_rfl) (by kernel_rfl) (by kernel_rfl) (fun _ _ _ h => h) (Or.inl ⟨by rfl, fun w hSw => by (try dsimp only at hSw); go_simp⟩) (by assumption) ?_
              try simp only [List.getElem_toArray, List.getElem_cons_zero, List.getElem_cons_succ, Act.put, List.setIfInBounds_toArray, List.set_cons_zero, List.set_cons_succ]
              refine wpAnyH_take (i := 10) (v := .bool false) rfl (by kernel_rfl) (by kernel_rfl) (by kernel_rfl) (fun _ _ _ h => h) (Or.inl ⟨by rfl, fun w hSw => by (try dsimp only at hSw); go_simp⟩) (by assumption) ?_
              try simp only [List.getElem_toArray, List.getElem_cons_zero, List.getElem_cons_succ, Act.put, List.setIfInBounds_toArray, List.set_cons_zero, List.set_cons_succ]
              refine wpAnyH_take (i := 11) (v := .bool false) rfl (by kernel_rfl) (by kernel_rfl) (by kernel_rfl) (fun _ _ _ h => h) (Or.inl ⟨by rfl, fun w hSw => by (try dsimp only at hSw); go_simp⟩) (by assumption) ?_
              try simp only [List.getElem_toArray, List.getElem_cons_zero, List.getElem_cons_succ, Act.put, List.setIfInBounds_toArray, List.set_cons_zero, List.set_cons_succ]
              refine wpAnyH_take (i := 12) (v := undef) rfl (by kernel_rfl) (by kernel_rfl) (by kernel_rfl) (fun _ _ _ h => h) (Or.inr ⟨by rfl, rfl⟩) (by assumption) ?_
              try simp only [List.getElem_toArray, List.getElem_cons_zero, List.getElem_cons_succ, Act.put, List.setIfInBounds_toArray, List.set_cons_zero, List.set_cons_succ]
              refine wpAnyH_take (i := 13) (v := undef) rfl (by kernel_rfl) (by kernel_rfl) (by kernel_rfl) (fun _ _ _ h => h) (Or.inr ⟨by rfl, rfl⟩) (by assumption) ?_
              try simp only [List.getElem_toArray, List.getElem_cons_zero, List.getElem_cons_succ, Act.put, List.setIfInBounds_toArray, List.set_cons_zero, List.set_cons_succ]
              refine wpAnyH_take (i := 14) (v := undef) rfl (by kernel_rfl) (by kernel_rfl) (by kernel_rfl) (fun _ _ _ h => h) (Or.inr ⟨by rfl, rfl⟩) (by assumption) ?_
              try simp only [List.getElem_toArray, List.getElem_cons_zero, List.getElem_cons_succ, Act.put, List.setIfInBounds_toArray, List.set_cons_zero, List.set_cons_succ]
              refine wpAnyH_take (i := 15) (v := undef) rfl (by kernel_rfl) (by kernel_rfl) (by kernel_rfl) (fun _ _ _ h => h) (Or.inr ⟨by rfl, rfl⟩) (by assumption) ?_
              try simp only [List.getElem_toArray, List.getElem_cons_zero, List.getElem_cons_succ, Act.put, List.setIfInBounds_toArray, List.set_cons_zero, List.set_cons_succ]
              refine wpAnyH_take (i := 16) (v := undef) rfl (by kernel_rfl) (by kernel_rfl) (by kernel_rfl) (fun _ _ _ h => h) (Or.inr ⟨by rfl, rfl⟩) (by assumption) ?_
              try simp only [List.getElem_toArray, List.getElem_cons_zero, List.getElem_cons_succ, Act.put, List.setIfInBounds_toArray, List.set_cons_zero, List.set_cons_succ]
              refine wpAnyH_take (i := 17) (v := undef) rfl (by kernel_rfl) (by kernel_rfl) (by kernel_rfl) (fun _ _ _ h => h) (Or.inr ⟨by rfl, rfl⟩) (by assumption) ?_
              try simp only [List.getElem_toArray, List.getElem_cons_zero, List.getElem_cons_succ, Act.put, List.setIfInBounds_toArray, List.set_cons_zero, List.set_cons_succ]
              refine wpAnyH_take (i := 18) (v := undef) rfl (by kernel_rfl) (by kernel_rfl) (by kernel_rfl) (fun _ _ _ h => h) (Or.inr ⟨by rfl, rfl⟩) (by assumption) ?_
              try simp only [List.getElem_toArray, List.getElem_cons_zero, List.getElem_cons_succ, Act.put, List.setIfInBounds_toArray, List.set_cons_zero, List.set_cons_succ]
              refine wpAnyH_take (i := 19) (v := undef) rfl (by kernel_rfl) (by kernel_rfl) (by kernel_rfl) (fun _ _ _ h => h) (Or.inr ⟨by rfl, rfl⟩) (by assumption) ?_
              try simp only [List.getElem_toArray, List.getElem_cons_zero, List.getElem_cons_succ, Act.put, List.setIfInBounds_toArray, List.set_cons_zero, List.set_cons_succ]
              refine wpAnyH_take (i := 20) (v := undef) rfl (by kernel_rfl) (by kernel_rfl) (by kernel_rfl) (fun _ _ _ h => h) (Or.inr ⟨by rfl, rfl⟩) (by assumption) ?_
              try simp only [List.getElem_toArray, List.getElem_cons_zero, List.getElem_cons_succ, Act.put, List.setIfInBounds_toArray, List.set_cons_zero, List.set_cons_succ]
              refine wpAnyH_take (i := 21) (v := .bool false) rfl (by kernel_rfl) (by kernel_rfl) (by kernel_rfl) (fun _ _ _ h => h) (Or.inl ⟨by rfl, fun w hSw => by (try dsimp only at hSw); go_simp⟩) (by assumption) ?_
              try simp only [List.getElem_toArray, List.getElem_cons_zero, List.getElem_cons_succ, Act.put, List.setIfInBounds_toArray, List.set_cons_zero, List.set_cons_succ]
              refine wpAnyH_take (i := 22) (v := .bool false) rfl (by kernel_rfl) (by kernel_rfl) (by kernel_rfl) (fun _ _ _ h => h) (Or.inl ⟨by rfl, fun w hSw => by (try dsimp only at hSw); go_simp⟩) (by assumption) ?_
              try simp only [List.getElem_toArray, List.getElem_cons_zero, List.getElem_cons_succ, Act.put, List.setIfInBounds_toArray, List.set_cons_zero, List.set_cons_succ]
              refine wpAnyH_done (by kernel_rfl) ?_ _
              refine NoPanic.normal ?_
              clear hHeld hw2
              have HKz := hid (kept_trans HKa.out HKi.out)
              go_wp2_with fail
              go_roundw
              case rel => exact ⟨i + 1, by omega, by go_num, HKz⟩
              case measure => simp [intOf]; omega
            · have hb : ((nd : Int) != self) = true := by simpa using es
              have hnr : nwr xm m = true := (nwr_iff _ _).2 (hor.resolve_left es)
              have hNm := rnewer_any xm m
              rw [hnr] at hNm
              have HAk : Hid (∀ u, Kept wA u → u.cell? ⟨X, 0, none⟩ = some (.int .u8 (nd : Int)) ∧ u.cell? ⟨X, 1, none⟩ = some (.int .u8 xm.st) ∧ u.cell? ⟨X, 2, none⟩ = some (.int .u32 xm.inc)) := hid (fun u ku => at_cells3' (at_kept HAx.out ku))
              have HS : Hid (∀ u, Kept wA u → (u.cell? ⟨X, 0, none⟩ = some (.int .u8 (nd : Int))) ∧ (u.cell? ⟨X, 1, none⟩ = some (.int .u8 xm.st)) ∧ (u.cell? ⟨X, 2, none⟩ = some (.int .u32 xm.inc)) ∧ (u.cell? ⟨g, o + nd * 2, none⟩ = some (.int .u8 m.st)) ∧ (u.cell? ⟨g, o + nd * 2 + 1, none⟩ = some (.int .u32 m.inc))) := hid (fun u ku => ⟨(HAk.out u ku).1, (HAk.out u ku).2.1, (HAk.out u ku).2.2, (HMv.out u (kept_trans HKa.out ku)).1, (HMv.out u (kept_trans HKa.out ku)).2⟩)
              have HKi := hid (kept_refl wA)
              have hS0 := HS.out _ (kept_drew HKi.out)
              obtain ⟨n, hne⟩ : ∃ n, n = k := ⟨k, rfl⟩
              subst hne
              clear es hor hnr hw
              have hw2 := HW2.out
              refine wp_region_noPanic ?_
              refine wp_region_held_drew (S := (fun w' => (w'.cell? ⟨X, 0, none⟩ = some (.int .u8 (nd : Int))) ∧ (w'.cell? ⟨X, 1, none⟩ = some (.int .u8 xm.st)) ∧ (w'.cell? ⟨X, 2, none⟩ = some (.int .u32 xm.inc)) ∧ (w'.cell? ⟨g, o + nd * 2, none⟩ = some (.int .u8 m.st)) ∧ (w'.cell? ⟨g, o + nd * 2 + 1, none⟩ = some (.int .u32 m.inc)))) (by kernel_rfl) (by assumption) (fun hHeld => ?_)
              replace HKi := hid (kept_drew HKi.out)
              generalize wA.drew = wz at *
              refine wpAnyH_take (i := 0) (v := .pointer (some ⟨X, 0, none⟩)) rfl (by kernel_rfl) (by kernel_rfl) (by kernel_rfl) (fun _ _ _ h => h) (Or.inl ⟨by rfl, fun w hSw => by (try dsimp only at hSw); go_simp⟩) (by assumption) ?_
              try simp only [List.getElem_toArray, List.getElem_cons_zero, List.getElem_cons_succ, Act.put, List.setIfInBounds_toArray, List.set_cons_zero, List.set_cons_succ]
              refine wpAnyH_take (i := 1) (v := .int .u8 (nd : Int)) rfl (by kernel_rfl) (by kernel_rfl) (by kernel_rfl) (fun _ _ _ h => h) (Or.inl ⟨by rfl, fun w hSw => by (try dsimp only at hSw); go_simp⟩) (by assumption) ?_
              try simp only [List.getElem_toArray, List.getElem_cons_zero, List.getElem_cons_succ, Act.put, List.setIfInBounds_toArray, List.set_cons_zero, List.set_cons_succ]
              refine wpAnyH_take (i := 2) (v := .int .i64 (nd : Int)) rfl (by kernel_rfl) (by kernel_rfl) (by kernel_rfl) (fun _ _ _ h => h) (Or.inl ⟨by rfl, fun w hSw => by (try dsimp only at hSw); go_simp⟩) (by assumption) ?_
              try simp only [List.getElem_toArray, List.getElem_cons_zero, List.getElem_cons_succ, Act.put, List.setIfInBounds_toArray, List.set_cons_zero, List.set_cons_succ]
              refine wpAnyH_take (i := 3) (v := .slice (some ⟨g, o, none⟩) n cap) rfl (by kernel_rfl) (by kernel_rfl) (by kernel_rfl) (fun _ _ _ h => h) (Or.inl ⟨by rfl, fun w hSw => by (try dsimp only at hSw); go_simp⟩) (by assumption) ?_
              try simp only [List.getElem_toArray, List.getElem_cons_zero, List.getElem_cons_succ, Act.put, List.setIfInBounds_toArray, List.set_cons_zero, List.set_cons_succ]
              refine wpAnyH_take (i := 4) (v := .int .i64 (n : Int)) rfl (by kernel_rfl) (by kernel_rfl) (by kernel_rfl) (fun _ _ _ h => h) (Or.inl ⟨by rfl, fun w hSw => by (try dsimp only at hSw); go_simp⟩) (by assumption) ?_
              try simp only [List.getElem_toArray, List.getElem_cons_zero, List.getElem_cons_succ, Act.put, List.setIfInBounds_toArray, List.set_cons_zero, List.set_cons_succ]
              refine wpAnyH_take (i := 5) (v := .bool false) rfl (by kernel_rfl) (by kernel_rfl) (by kernel_rfl) (fun _ _ _ h => h) (Or.inl ⟨by rfl, fun w hSw => by (try dsimp only at hSw); go_simp⟩) (by assumption) ?_
              try simp only [List.getElem_toArray, List.getElem_cons_zero, List.getElem_cons_succ, Act.put, List.setIfInBounds_toArray, List.set_cons_zero, List.set_cons_succ]
              refine wpAnyH_take (i := 6) (v := .bool false) rfl (by kernel_rfl) (by kernel_rfl) (by kernel_rfl) (fun _ _ _ h => h) (Or.inl ⟨by rfl, fun w hSw => by (try dsimp only at hSw); go_simp⟩) (by assumption) ?_
              try simp only [List.getElem_toArray, List.getElem_cons_zero, List.getElem_cons_succ, Act.put, List.setIfInBounds_toArray, List.set_cons_zero, List.set_cons_succ]
              refine wpAnyH_take (i := 7) (v := .pointer (some ⟨X, 0, none⟩)) rfl (by kernel_rfl) (by kernel_rfl) (by kernel_rfl) (fun _ _ _ h => h) (Or.inl ⟨by rfl, fun w hSw => by (try dsimp only at hSw); go_simp⟩) (by assumption) ?_
              try simp only [List.getElem_toArray, List.getElem_cons_zero, List.getElem_cons_succ, Act.put, List.setIfInBounds_toArray, List.set_cons_zero, List.set_cons_succ]
              refine wpAnyH_take (i := 8) (v := .int .u8 (nd : Int)) rfl (by kernel_rfl) (by kernel_rfl) (by kernel_rfl) (fun _ _ _ h => h) (Or.inl ⟨by rfl, fun w hSw => by (try dsimp only at hSw); go_simp⟩) (by assumption) ?_
              try simp only [List.getElem_toArray, List.getElem_cons_zero, List.getElem_cons_succ, Act.put, List.setIfInBounds_toArray, List.set_cons_zero, List.set_cons_succ]
              refine wpAnyH_take (i := 9) (v := .int .u8 self) rfl (by kernel_rfl) (by kernel_rfl) (by kernel_rfl) (fun _ _ _ h => h) (Or.inl ⟨by rfl, fun w hSw => by (try dsimp only at hSw); go_simp⟩) (by assumption) ?_
              try simp only [List.getElem_toArray, List.getElem_cons_zero, List.getElem_cons_succ, Act.put, List.setIfInBounds_toArray, List.set_cons_zero, List.set_cons_succ]
              refine wpAnyH_take (i := 10) (v := .bool true) rfl (by kernel_rfl) (by kernel_rfl) (by kernel_rfl) (fun _ _ _ h => h) (Or.inl ⟨by rfl, fun w hSw => by (try dsimp only at hSw); go_simp⟩) (by assumption) ?_
              try simp only [List.getElem_toArray, List.getElem_cons_zero, List.getElem_cons_succ, Act.put, List.setIfInBounds_toArray, List.set_cons_zero, List.set_cons_succ]
              refine wpAnyH_take (i := 11) (v := .bool true) rfl (by kernel_rfl) (by kernel_rfl) (by kernel_rfl) (fun _ _ _ h => h) (Or.inl ⟨by rfl, fun w hSw => by (try dsimp only at hSw); go_simp⟩) (by assumption) ?_
              try simp only [List.getElem_toArray, List.getElem_cons_zero, List.getElem_cons_succ, Act.put, List.setIfInBounds_toArray, List.set_cons_zero, List.set_cons_succ]
              refine wpAnyH_take (i := 12) (v := .pointer (some ⟨X, 1, none⟩)) rfl (by kernel_rfl) (by kernel_rfl) (by kernel_rfl) (fun _ _ _ h => h) (Or.inl ⟨by rfl, fun w hSw => by (try dsimp only at hSw); go_simp⟩) (by assumption) ?_
              try simp only [List.getElem_toArray, List.getElem_cons_zero, List.getElem_cons_succ, Act.put, List.setIfInBounds_toArray, List.set_cons_zero, List.set_cons_succ]
              refine wpAnyH_take (i := 13) (v := .agg #[.int .u8 xm.st, .int .u32 xm.inc]) rfl (by kernel_rfl) (by kernel_rfl) (by kernel_rfl) (fun _ _ _ h => h) (Or.inl ⟨by rfl, fun w hSw => by (try dsimp only at hSw); go_simp⟩) (by assumption) ?_
              try simp only [List.getElem_toArray, List.getElem_cons_zero, List.getElem_cons_succ, Act.put, List.setIfInBounds_toArray, List.set_cons_zero, List.set_cons_succ]
              refine wpAnyH_take (i := 14) (v := .slice (some ⟨g, o, none⟩) n cap) rfl (by kernel_rfl) (by kernel_rfl) (by kernel_rfl) (fun _ _ _ h => h) (Or.inl ⟨by rfl, fun w hSw => by (try dsimp only at hSw); go_simp⟩) (by assumption) ?_
              try simp only [List.getElem_toArray, List.getElem_cons_zero, List.getElem_cons_succ, Act.put, List.setIfInBounds_toArray, List.set_cons_zero, List.set_cons_succ]
              refine wpAnyH_take (i := 15) (v := .pointer (some ⟨X, 0, none⟩)) rfl (by kernel_rfl) (by kernel_rfl) (by kernel_rfl) (fun _ _ _ h => h) (Or.inl ⟨by rfl, fun w hSw => by (try dsimp only at hSw); go_simp⟩) (by assumption) ?_
              try simp only [List.getElem_toArray, List.getElem_cons_zero, List.getElem_cons_succ, Act.put, List.setIfInBounds_toArray, List.set_cons_zero, List.set_cons_succ]
              refine wpAnyH_take (i := 16) (v := .int .u8 (nd : Int)) rfl (by kernel_rfl) (by kernel_rfl) (by kernel_rfl) (fun _ _ _ h => h) (Or.inl ⟨by rfl, fun w hSw => by (try dsimp only at hSw); go_simp⟩) (by assumption) ?_
              try simp only [List.getElem_toArray, List.getElem_cons_zero, List.getElem_cons_succ, Act.put, List.setIfInBounds_toArray, List.set_cons_zero, List.set_cons_succ]
              refine wpAnyH_take (i := 17) (v := .pointer (some ⟨g, o + nd * 2, none⟩)) rfl (by kernel_rfl) (by kernel_rfl) (by kernel_rfl) (fun _ _ _ h => h) (Or.inl ⟨by rfl, fun w hSw => by (try dsimp only at hSw); go_simp⟩) (by assumption) ?_
              try simp only [List.getElem_toArray, List.getElem_cons_zero, List.getElem_cons_succ, Act.put, List.setIfInBounds_toArray, List.set_cons_zero, List.set_cons_succ]
              refine wpAnyH_take (i := 18) (v := .agg #[.int .u8 m.st, .int .u32 m.inc]) rfl (by kernel_rfl) (by kernel_rfl) (by kernel_rfl) (fun _ _ _ h => h) (Or.inl ⟨by rfl, fun w hSw => by (try dsimp only at hSw); go_simp⟩) (by assumption) ?_
              try simp only [List.getElem_toArray, List.getElem_cons_zero, List.getElem_cons_succ, Act.put, List.setIfInBounds_toArray, List.set_cons_zero, List.set_cons_succ]
              refine wpAnyH_ready (rs := [19]) (by kernel_rfl) (by simp) ?_
              refine AllReadyH.cons (i := 19) rfl (fun K hK => ?_) AllReadyH.nil
              go_simp
              refine (hNm _).mono ?_
              rintro e w3 ⟨rfl, h3⟩
              replace HKi := hid (kept_trans HKi.out h3)
              clear h3
              have hS := HS.out _ HKi.out
              clear hHeld
              show K _ _
              refine hK.out _ _ (by assumption) (fun hHeld => ?_)
              clear hK K
              try simp only [List.getElem_toArray, List.getElem_cons_zero, List.getElem_cons_succ, Act.put, List.setIfInBounds_toArray, List.set_cons_zero, List.set_cons_succ]
              refine wpAnyH_take (i := 20) (v := .bool false) rfl (by kernel_rfl) (by kernel_rfl) (by kernel_rfl) (fun _ _ _ h => h) (Or.inl ⟨by rfl, fun w hSw => by (try dsimp only at hSw); go_simp⟩) (by assumption) ?_
              try simp only [List.getElem_toArray, List.getElem_cons_zero, List.getElem_cons_succ, Act.put, List.setIfInBounds_toArray, List.set_cons_zero, List.set_cons_succ]
              refine wpAnyH_take (i := 21) (v := .bool false) rfl (by kernel_rfl) (by kernel_rfl) (by kernel_rfl) (fun _ _ _ h => h) (Or.inl ⟨by rfl, fun w hSw => by (try dsimp only at hSw); go_simp⟩) (by assumption) ?_
              try simp only [List.getElem_toArray, List.getElem_cons_zero, List.getElem_cons_succ, Act.put, List.setIfInBounds_toArray, List.set_cons_zero, List.set_cons_succ]
              refine wpAnyH_take (i := 22) (v := .bool false) rfl (by kernel_rfl) (by kernel_rfl) (by kernel_rfl) (fun _ _ _ h => h) (Or.inl ⟨by rfl, fun w hSw => by (try dsimp only at hSw); go_simp⟩) (by assumption) ?_
              try simp only [List.getElem_toArray, List.getElem_cons_zero, List.getElem_cons_succ, Act.put, List.setIfInBounds_toArray, List.set_cons_zero, List.set_cons_succ]
              refine wpAnyH_done (by kernel_rfl) ?_ _
              refine NoPanic.normal ?_
              clear hHeld hNm hw2
              have HKz := hid (kept_trans HKa.out HKi.out)
              go_wp2_with fail
              go_roundw
              case rel => exact ⟨i + 1, by omega, by go_num, HKz⟩
              case measure => simp [intOf]; omega
          · have he2 : i = cn := by omega
            subst he2
            go_wp2_with fail
            refine (HFx.out wr).mono ?_
            rintro e w3 ⟨rfl, k3⟩
            have HK3 := hid (kept_trans HK1.out (kept_trans HKi.out k3))
            clear k3
            go_wp2_with fail
            go_ret
            exact ⟨rfl, HK3.out⟩
end Go.Proofs.Ytdcokccfannfmaa
