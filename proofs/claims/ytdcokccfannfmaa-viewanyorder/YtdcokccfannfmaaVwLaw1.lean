/- The laws on what is heard and on what is told, walked. -/
import Derived.Test.YtdcokccfannfmaaVwFixed
import Derived.Deep.RegionHeld3
namespace Go.Proofs.Ytdcokccfannfmaa
open Go.ChangeShapes Go.WideShapes Go.ChangeAt Go.RowKit
set_option linter.unusedVariables false
set_option linter.unusedSimpArgs false
set_option maxRecDepth 100000

set_option maxHeartbeats 3200000 in
theorem hears_walk (hF : FreshIs) (hH : HearIs) (v : List M) (self : Int) (l : List Nw) (h1 : 0 ≤ self) (h2 : self < 256) (hv : ∀ m ∈ v, okM m) (hl : ∀ x ∈ l, okN x) (vv lv : Value) (w : World) (h : Rg encM 2 w vv v) (hn : Rg encN 3 w lv l) : Calls Try.prog 3 #[vv, .int .u8 self, lv] w fun e w' => e = .returned (.bool true) ∧ Kept w w' := by
  have HH := hid hH
  have HR := hid h
  have HL := hid hn
  have HFx := hid (fun w => fixed_any hF hH w)
  have HS := hid (And.intro h1 h2)
  have HOv := hid hv
  have HOl := hid hl
  obtain ⟨a, cap, rfl, -, -, -, -⟩ := h
  obtain ⟨b, capb, rfl, -, -, -, -⟩ := hn
  clear hF hH h1 h2 hv hl
  obtain ⟨n, hvn⟩ : ∃ n, v.length = n := ⟨_, rfl⟩
  have HVn := hid hvn
  rw [hvn] at HR ⊢
  obtain ⟨m, hlm⟩ : ∃ m, l.length = m := ⟨_, rfl⟩
  have HLm := hid hlm
  rw [hlm] at HL ⊢
  clear hvn hlm
  go_enter Try.func3, Try.ntmps3
  go_wp2_with fail
  refine (great_any a b n cap m capb w).mono ?_
  rintro e w1 ⟨b1, rfl, hb1, rfl⟩
  have HB1 := hid hb1
  clear hb1
  cases b1 with
  | true =>
    go_wp2_with fail
    refine (HFx.out w1).mono ?_
    rintro e w2 ⟨rfl, k2⟩
    have HK2 := hid k2
    clear k2
    go_wp2_with fail
    go_ret
    exact ⟨rfl, HK2.out⟩
  | false =>
    have HN : Hid (v.length ≤ 64 ∧ l.length ≤ 300) := hid (by rw [HVn.out, HLm.out]; exact HB1.out rfl)
    clear HB1
    have HO0 := hid (builtM w1)
    have HK0 := hid (kept_alloc (kept_refl w1) (.cells #[] 33))
    have HR0 := hid (rg_kept encM_ok HR.out HK0.out)
    have HBw : Hid (w1.heap.size ≤ (w1.alloc (.cells #[] 33)).heap.size) := hid HK0.out.2
    go_wp2_with (at_builtin; go_must (refine wpList_gapp rfl (.tmp 16) (.tmp 17) rfl encM_ok tyM (by decide) w1.heap.size _ _ _ _ rfl HO0.out rfl HR0.out (by have := HN.out.1; simp; omega) HBw.out ?_; intro v3 w3 hown3 hgrow3 hnil3))
    rw [List.nil_append] at hown3
    have HR3 := hid (rg_own encM_ok hown3)
    have HK3 := hid (kept_gr HK0.out hgrow3 (fun j hj => og_lt HO0.out hj))
    clear hown3 hgrow3 hnil3 HO0 HK0 HR0 HBw
    refine (HH.out self v l _ _ w3 HS.out.1 HS.out.2 HN.out.1 (by have := HN.out.2; omega) HOv.out HOl.out HR3.out (rg_kept encN_ok HL.out HK3.out)).mono ?_
    rintro e w4 ⟨x1, x2, rfl, r1, r2, k4⟩
    have HX1 := hid r1
    have HX2 := hid r2
    have HR4 := hid (rg_kept encM_ok HR3.out k4)
    have HK4 := hid (kept_trans HK3.out k4)
    clear r1 r2 k4 HR3 HK3
    go_wp2_with fail
    refine (rhear_any self v l HN.out.1 (by have := HN.out.2; omega) HOv.out HOl.out _ _ w4 (rg_kept encM_ok HR.out HK4.out) (rg_kept encN_ok HL.out HK4.out)).mono ?_
    rintro e w5 ⟨y1, y2, rfl, s1, s2, k5⟩
    have HY1 := hid s1
    have HY2 := hid s2
    have HX15 := hid (rg_kept encM_ok HX1.out k5)
    have HX25 := hid (rg_kept encN_ok HX2.out k5)
    have HR5 := hid (rg_kept encM_ok HR4.out k5)
    have HK5 := hid (kept_trans HK4.out k5)
    clear s1 s2 k5 HX1 HX2 HR4 HK4
    go_wp2_with fail
    refine (HFx.out w5).mono ?_
    rintro e w6 ⟨rfl, k6⟩
    have HY16 := hid (rg_kept encM_ok HY1.out k6)
    have HY26 := hid (rg_kept encN_ok HY2.out k6)
    have HX16 := hid (rg_kept encM_ok HX15.out k6)
    have HX26 := hid (rg_kept encN_ok HX25.out k6)
    have HR6 := hid (rg_kept encM_ok HR5.out k6)
    have HK6 := hid (kept_trans HK5.out k6)
    clear k6 HY1 HY2 HX15 HX25 HR5 HK5
    go_wp2_with fail
    refine (sameM_any (hearV self v l) (by rw [hearV_len]; have := HN.out.1; omega) _ _ w6 HX16.out HY16.out).mono ?_
    rintro e w7 ⟨rfl, k7⟩
    have HY27 := hid (rg_kept encN_ok HY26.out k7)
    have HX27 := hid (rg_kept encN_ok HX26.out k7)
    have HR7 := hid (rg_kept encM_ok HR6.out k7)
    have HK7 := hid (kept_trans HK6.out k7)
    clear k7 HY16 HY26 HX16 HX26 HR6 HK6
    go_wp2_with fail
    refine (sameN_any (hearC self v l) (by have := hearC_len (self := self) l v; have := HN.out.2; omega) _ _ w7 HX27.out HY27.out).mono ?_
    rintro e w8 ⟨rfl, k8⟩
    have HR8 := hid (rg_kept encM_ok HR7.out k8)
    have HK8 := hid (kept_trans HK7.out k8)
    clear k8 HY27 HX27 HR7 HK7
    go_wp2_with fail
    refine (sameM_any v (by have := HN.out.1; omega) _ _ w8 HR8.out (by have := rg_kept encM_ok HR.out HK8.out; exact this)).mono ?_
    rintro e w9 ⟨rfl, k9⟩
    have HK9 := hid (kept_trans HK8.out k9)
    clear k9
    go_wp2_with fail
    go_ret
    exact ⟨rfl, HK9.out⟩
set_option maxHeartbeats 6400000 in
theorem tells_walk (hNw : NewerIs) (hF : FreshIs) (hH : HearIs) (hU : UpIs) (hA : AllIs) (a b : M) (n : Int) (hn : (Lit.int .i64 n).wf = true) (l : List M) (hl : ∀ m ∈ l, okM m) (v : Value) (w : World) (h : Rg encM 2 w v l) : Calls Try.prog 4 #[.agg #[.int .u8 a.st, .int .u32 a.inc], .agg #[.int .u8 b.st, .int .u32 b.inc], .int .i64 n, v] w fun e w' => e = .returned (.bool true) ∧ Kept w w' := by
  have HNw := hid hNw
  have HFr := hid hF
  have HUp := hid hU
  have HAl := hid hA
  have HFx := hid (fun w => fixed_any hF hH w)
  have HNf := hid hn
  have HOk := hid hl
  have HFl : Hid ((fresh n).length ≤ 4096) := hid (by unfold fresh; split <;> simp; omega)
  have K0 := kept_alloc (kept_alloc (kept_refl w) (.cells #[.int .u8 a.st, .int .u32 a.inc] 33)) (.cells #[.int .u8 b.st, .int .u32 b.inc] 33)
  have A0 := at_alloc (at_new w #[.int .u8 a.st, .int .u32 a.inc] 33) (.cells #[.int .u8 b.st, .int .u32 b.inc] 33)
  have B0 := at_new (w.alloc (.cells #[.int .u8 a.st, .int .u32 a.inc] 33)) #[.int .u8 b.st, .int .u32 b.inc] 33
  simp only [World.size_alloc] at B0
  have HRv := hid (rg_kept encM_ok h K0)
  have HK0 := hid K0
  obtain ⟨d, cap, rfl, -, -, -, -⟩ := h
  obtain ⟨len, hvn⟩ : ∃ len, l.length = len := ⟨_, rfl⟩
  have HVn := hid hvn
  rw [hvn] at HRv ⊢
  have HA := hid A0
  have HB := hid B0
  clear hNw hF hH hU hA hn hl hvn K0 A0 B0
  go_enter Try.func4, Try.ntmps4
  go_wp2_with fail
  generalize (w.alloc (.cells #[.int .u8 a.st, .int .u32 a.inc] 33)).alloc (.cells #[.int .u8 b.st, .int .u32 b.inc] 33) = wB at *
  generalize w.heap.size = X at *
  generalize X + 1 = Y at *
  refine (great_any d none len cap 0 0 wB).mono ?_
  rintro e w1 ⟨b1, rfl, hb1, rfl⟩
  have HB1 := hid hb1
  clear hb1
  cases b1 with
  | true =>
    go_wp2_with fail
    refine (HFx.out _).mono ?_
    rintro e w2 ⟨rfl, k2⟩
    have HK2 := hid (kept_trans HK0.out k2)
    clear k2
    go_wp2_with fail
    go_ret
    exact ⟨rfl, HK2.out⟩
  | false =>
    have HLs : Hid (l.length ≤ 64) := hid (by rw [HVn.out]; exact (HB1.out rfl).1)
    have HUl : Hid ((upN l).length ≤ 4096) := hid (by have := upFrom_len l 0; unfold upN; have := HLs.out; omega)
    have HAll : Hid ((allN l).length ≤ 4096) := hid (by rw [allN_len]; have := HLs.out; omega)
    clear HB1
    obtain ⟨wB, rfl⟩ : ∃ wB, wB = w1 := ⟨w1, rfl⟩
    have HS : Hid (∀ u, Kept wB u → (u.cell? ⟨X, 0, none⟩ = some (.int .u8 a.st)) ∧ (u.cell? ⟨X, 1, none⟩ = some (.int .u32 a.inc)) ∧ (u.cell? ⟨Y, 0, none⟩ = some (.int .u8 b.st)) ∧ (u.cell? ⟨Y, 1, none⟩ = some (.int .u32 b.inc))) := hid (fun u ku => ⟨(at_cells2 (at_kept HA.out ku)).1, (at_cells2 (at_kept HA.out ku)).2, (at_cells2 (at_kept HB.out ku)).1, (at_cells2 (at_kept HB.out ku)).2⟩)
    have hS0 := HS.out _ (kept_drew (kept_refl wB))
    go_wp2_with fail
    refine wp_region_noPanic ?_
    refine wp_region_held_drew (S := (fun w' => (w'.cell? ⟨X, 0, none⟩ = some (.int .u8 a.st)) ∧ (w'.cell? ⟨X, 1, none⟩ = some (.int .u32 a.inc)) ∧ (w'.cell? ⟨Y, 0, none⟩ = some (.int .u8 b.st)) ∧ (w'.cell? ⟨Y, 1, none⟩ = some (.int .u32 b.inc)))) (by kernel_rfl) (by assumption) (fun hHeld => ?_)
    have HK := hid (kept_drew (kept_refl wB))
    generalize wB.drew = wz at *
    refine wpAnyH_ready (rs := [0]) (by kernel_rfl) (by simp) ?_
    refine AllReadyH.cons (i := 0) rfl (fun K hK => ?_) AllReadyH.nil
    go_simp
    refine (HFx.out _).mono ?_
    rintro e w3 ⟨rfl, k3⟩
    replace HK := hid (kept_trans HK.out k3)
    clear k3
    have hS := HS.out _ HK.out
    clear hHeld
    show K _ _
    refine hK.out _ _ (by assumption) (fun hHeld => ?_)
    clear hK K
    try simp only [List.getElem_toArray, List.getElem_cons_zero, List.getElem_cons_succ, Act.put, List.setIfInBounds_toArray, List.set_cons_zero, List.set_cons_succ]
    refine wpAnyH_take (i := 1) (v := .bool true) rfl (by kernel_rfl) (by kernel_rfl) (by kernel_rfl) (fun _ _ _ h => h) (Or.inl ⟨by rfl, fun w hSw => by (try dsimp only at hSw); go_simp⟩) (by assumption) ?_
    try simp only [List.getElem_toArray, List.getElem_cons_zero, List.getElem_cons_succ, Act.put, List.setIfInBounds_toArray, List.set_cons_zero, List.set_cons_succ]
    refine wpAnyH_take (i := 2) (v := .agg #[.int .u8 a.st, .int .u32 a.inc]) rfl (by kernel_rfl) (by kernel_rfl) (by kernel_rfl) (fun _ _ _ h => h) (Or.inl ⟨by rfl, fun w hSw => by (try dsimp only at hSw); go_simp⟩) (by assumption) ?_
    try simp only [List.getElem_toArray, List.getElem_cons_zero, List.getElem_cons_succ, Act.put, List.setIfInBounds_toArray, List.set_cons_zero, List.set_cons_succ]
    refine wpAnyH_take (i := 3) (v := .agg #[.int .u8 b.st, .int .u32 b.inc]) rfl (by kernel_rfl) (by kernel_rfl) (by kernel_rfl) (fun _ _ _ h => h) (Or.inl ⟨by rfl, fun w hSw => by (try dsimp only at hSw); go_simp⟩) (by assumption) ?_
    try simp only [List.getElem_toArray, List.getElem_cons_zero, List.getElem_cons_succ, Act.put, List.setIfInBounds_toArray, List.set_cons_zero, List.set_cons_succ]
    refine wpAnyH_take (i := 5) (v := .agg #[.int .u8 a.st, .int .u32 a.inc]) rfl (by kernel_rfl) (by kernel_rfl) (by kernel_rfl) (fun _ _ _ h => h) (Or.inl ⟨by rfl, fun w hSw => by (try dsimp only at hSw); go_simp⟩) (by assumption) ?_
    try simp only [List.getElem_toArray, List.getElem_cons_zero, List.getElem_cons_succ, Act.put, List.setIfInBounds_toArray, List.set_cons_zero, List.set_cons_succ]
    refine wpAnyH_take (i := 6) (v := .agg #[.int .u8 b.st, .int .u32 b.inc]) rfl (by kernel_rfl) (by kernel_rfl) (by kernel_rfl) (fun _ _ _ h => h) (Or.inl ⟨by rfl, fun w hSw => by (try dsimp only at hSw); go_simp⟩) (by assumption) ?_
    try simp only [List.getElem_toArray, List.getElem_cons_zero, List.getElem_cons_succ, Act.put, List.setIfInBounds_toArray, List.set_cons_zero, List.set_cons_succ]
    refine wpAnyH_ready (rs := [4]) (by kernel_rfl) (by simp) ?_
    refine AllReadyH.cons (i := 4) rfl (fun K hK => ?_) AllReadyH.nil
    go_simp
    refine (HNw.out a b _).mono ?_
    rintro e w4 ⟨rfl, k4⟩
    replace HK := hid (kept_trans HK.out k4)
    clear k4
    have hS := HS.out _ HK.out
    clear hHeld
    show K _ _
    refine hK.out _ _ (by assumption) (fun hHeld => ?_)
    clear hK K
    try simp only [List.getElem_toArray, List.getElem_cons_zero, List.getElem_cons_succ, Act.put, List.setIfInBounds_toArray, List.set_cons_zero, List.set_cons_succ]
    refine wpAnyH_ready (rs := [7]) (by kernel_rfl) (by simp) ?_
    refine AllReadyH.cons (i := 7) rfl (fun K hK => ?_) AllReadyH.nil
    go_simp
    refine (rnewer_any a b _).mono ?_
    rintro e w5 ⟨rfl, k5⟩
    replace HK := hid (kept_trans HK.out k5)
    clear k5
    have hS := HS.out _ HK.out
    have hbb : (nwr a b == nwr a b) = true := by simp
    clear hHeld
    show K _ _
    refine hK.out _ _ (by assumption) (fun hHeld => ?_)
    clear hK K
    try simp only [List.getElem_toArray, List.getElem_cons_zero, List.getElem_cons_succ, Act.put, List.setIfInBounds_toArray, List.set_cons_zero, List.set_cons_succ]
    refine wpAnyH_take (i := 8) (v := .bool true) rfl (by kernel_rfl) (by kernel_rfl) (by kernel_rfl) (fun _ _ _ h => h) (Or.inl ⟨by rfl, fun w hSw => by (try dsimp only at hSw); go_simp⟩) (by assumption) ?_
    try simp only [List.getElem_toArray, List.getElem_cons_zero, List.getElem_cons_succ, Act.put, List.setIfInBounds_toArray, List.set_cons_zero, List.set_cons_succ]
    refine wpAnyH_take (i := 9) (v := .bool true) rfl (by kernel_rfl) (by kernel_rfl) (by kernel_rfl) (fun _ _ _ h => h) (Or.inl ⟨by rfl, fun w hSw => by (try dsimp only at hSw); go_simp⟩) (by assumption) ?_
    try simp only [List.getElem_toArray, List.getElem_cons_zero, List.getElem_cons_succ, Act.put, List.setIfInBounds_toArray, List.set_cons_zero, List.set_cons_succ]
    refine wpAnyH_take (i := 10) (v := .bool true) rfl (by kernel_rfl) (by kernel_rfl) (by kernel_rfl) (fun _ _ _ h => h) (Or.inl ⟨by rfl, fun w hSw => by (try dsimp only at hSw); go_simp⟩) (by assumption) ?_
    try simp only [List.getElem_toArray, List.getElem_cons_zero, List.getElem_cons_succ, Act.put, List.setIfInBounds_toArray, List.set_cons_zero, List.set_cons_succ]
    refine wpAnyH_take (i := 11) (v := .int .i64 n) rfl (by kernel_rfl) (by kernel_rfl) (by kernel_rfl) (fun _ _ _ h => h) (Or.inl ⟨by rfl, fun w hSw => by (try dsimp only at hSw); go_simp⟩) (by assumption) ?_
    try simp only [List.getElem_toArray, List.getElem_cons_zero, List.getElem_cons_succ, Act.put, List.setIfInBounds_toArray, List.set_cons_zero, List.set_cons_succ]
    refine wpAnyH_take (i := 13) (v := .int .i64 n) rfl (by kernel_rfl) (by kernel_rfl) (by kernel_rfl) (fun _ _ _ h => h) (Or.inl ⟨by rfl, fun w hSw => by (try dsimp only at hSw); go_simp⟩) (by assumption) ?_
    try simp only [List.getElem_toArray, List.getElem_cons_zero, List.getElem_cons_succ, Act.put, List.setIfInBounds_toArray, List.set_cons_zero, List.set_cons_succ]
    refine wpAnyH_ready (rs := [12]) (by kernel_rfl) (by simp) ?_
    refine AllReadyH.cons (i := 12) rfl (fun K hK => ?_) AllReadyH.nil
    go_simp
    refine (HFr.out n _ HNf.out).mono ?_
    rintro e w6 ⟨v6, rfl, r6, k6⟩
    have HR6 := hid r6
    clear r6
    replace HK := hid (kept_trans HK.out k6)
    clear k6
    have hS := HS.out _ HK.out
    clear hHeld
    show K _ _
    refine hK.out _ _ (by assumption) (fun hHeld => ?_)
    clear hK K
    try simp only [List.getElem_toArray, List.getElem_cons_zero, List.getElem_cons_succ, Act.put, List.setIfInBounds_toArray, List.set_cons_zero, List.set_cons_succ]
    refine wpAnyH_ready (rs := [14]) (by kernel_rfl) (by simp) ?_
    refine AllReadyH.cons (i := 14) rfl (fun K hK => ?_) AllReadyH.nil
    go_simp
    refine (rfresh_any n _).mono ?_
    rintro e w7 ⟨v7, rfl, o7, -, k7⟩
    have HR7 := hid (rg_own encM_ok o7)
    have HR6b := hid (rg_kept encM_ok HR6.out k7)
    clear o7 HR6
    replace HK := hid (kept_trans HK.out k7)
    clear k7
    have hS := HS.out _ HK.out
    clear hHeld
    show K _ _
    refine hK.out _ _ (by assumption) (fun hHeld => ?_)
    clear hK K
    try simp only [List.getElem_toArray, List.getElem_cons_zero, List.getElem_cons_succ, Act.put, List.setIfInBounds_toArray, List.set_cons_zero, List.set_cons_succ]
    refine wpAnyH_ready (rs := [15]) (by kernel_rfl) (by simp) ?_
    refine AllReadyH.cons (i := 15) rfl (fun K hK => ?_) AllReadyH.nil
    go_simp
    refine (sameM_any (fresh n) HFl.out _ _ _ HR6b.out HR7.out).mono ?_
    rintro e w8 ⟨rfl, k8⟩
    clear HR6b HR7
    replace HK := hid (kept_trans HK.out k8)
    clear k8
    have hS := HS.out _ HK.out
    clear hHeld
    show K _ _
    refine hK.out _ _ (by assumption) (fun hHeld => ?_)
    clear hK K
    try simp only [List.getElem_toArray, List.getElem_cons_zero, List.getElem_cons_succ, Act.put, List.setIfInBounds_toArray, List.set_cons_zero, List.set_cons_succ]
    refine wpAnyH_take (i := 16) (v := .bool true) rfl (by kernel_rfl) (by kernel_rfl) (by kernel_rfl) (fun _ _ _ h => h) (Or.inl ⟨by rfl, fun w hSw => by (try dsimp only at hSw); go_simp⟩) (by assumption) ?_
    try simp only [List.getElem_toArray, List.getElem_cons_zero, List.getElem_cons_succ, Act.put, List.setIfInBounds_toArray, List.set_cons_zero, List.set_cons_succ]
    refine wpAnyH_take (i := 17) (v := .bool true) rfl (by kernel_rfl) (by kernel_rfl) (by kernel_rfl) (fun _ _ _ h => h) (Or.inl ⟨by rfl, fun w hSw => by (try dsimp only at hSw); go_simp⟩) (by assumption) ?_
    try simp only [List.getElem_toArray, List.getElem_cons_zero, List.getElem_cons_succ, Act.put, List.setIfInBounds_toArray, List.set_cons_zero, List.set_cons_succ]
    refine wpAnyH_take (i := 18) (v := .slice d len cap) rfl (by kernel_rfl) (by kernel_rfl) (by kernel_rfl) (fun _ _ _ h => h) (Or.inl ⟨by rfl, fun w hSw => by (try dsimp only at hSw); go_simp⟩) (by assumption) ?_
    try simp only [List.getElem_toArray, List.getElem_cons_zero, List.getElem_cons_succ, Act.put, List.setIfInBounds_toArray, List.set_cons_zero, List.set_cons_succ]
    refine wpAnyH_take (i := 20) (v := .slice d len cap) rfl (by kernel_rfl) (by kernel_rfl) (by kernel_rfl) (fun _ _ _ h => h) (Or.inl ⟨by rfl, fun w hSw => by (try dsimp only at hSw); go_simp⟩) (by assumption) ?_
    try simp only [List.getElem_toArray, List.getElem_cons_zero, List.getElem_cons_succ, Act.put, List.setIfInBounds_toArray, List.set_cons_zero, List.set_cons_succ]
    refine wpAnyH_ready (rs := [19]) (by kernel_rfl) (by simp) ?_
    refine AllReadyH.cons (i := 19) rfl (fun K hK => ?_) AllReadyH.nil
    go_simp
    refine (HUp.out l _ _ HLs.out HOk.out (rg_kept encM_ok HRv.out HK.out)).mono ?_
    rintro e w9 ⟨v9, rfl, r9, k9⟩
    have HR9 := hid r9
    clear r9
    replace HK := hid (kept_trans HK.out k9)
    clear k9
    have hS := HS.out _ HK.out
    clear hHeld
    show K _ _
    refine hK.out _ _ (by assumption) (fun hHeld => ?_)
    clear hK K
    try simp only [List.getElem_toArray, List.getElem_cons_zero, List.getElem_cons_succ, Act.put, List.setIfInBounds_toArray, List.set_cons_zero, List.set_cons_succ]
    refine wpAnyH_ready (rs := [21]) (by kernel_rfl) (by simp) ?_
    refine AllReadyH.cons (i := 21) rfl (fun K hK => ?_) AllReadyH.nil
    go_simp
    refine (rup_any l (by have := HLs.out; omega) _ _ (rg_kept encM_ok HRv.out HK.out)).mono ?_
    rintro e wa ⟨va, rfl, oa, -, ka⟩
    have HRa := hid (rg_own encU_ok oa)
    have HR9b := hid (rg_kept encU_ok HR9.out ka)
    clear oa HR9
    replace HK := hid (kept_trans HK.out ka)
    clear ka
    have hS := HS.out _ HK.out
    clear hHeld
    show K _ _
    refine hK.out _ _ (by assumption) (fun hHeld => ?_)
    clear hK K
    try simp only [List.getElem_toArray, List.getElem_cons_zero, List.getElem_cons_succ, Act.put, List.setIfInBounds_toArray, List.set_cons_zero, List.set_cons_succ]
    refine wpAnyH_ready (rs := [22]) (by kernel_rfl) (by simp) ?_
    refine AllReadyH.cons (i := 22) rfl (fun K hK => ?_) AllReadyH.nil
    go_simp
    refine (sameU_any (upN l) HUl.out _ _ _ HR9b.out HRa.out).mono ?_
    rintro e wb ⟨rfl, kb⟩
    clear HR9b HRa
    replace HK := hid (kept_trans HK.out kb)
    clear kb
    have hS := HS.out _ HK.out
    clear hHeld
    show K _ _
    refine hK.out _ _ (by assumption) (fun hHeld => ?_)
    clear hK K
    try simp only [List.getElem_toArray, List.getElem_cons_zero, List.getElem_cons_succ, Act.put, List.setIfInBounds_toArray, List.set_cons_zero, List.set_cons_succ]
    refine wpAnyH_take (i := 23) (v := .bool true) rfl (by kernel_rfl) (by kernel_rfl) (by kernel_rfl) (fun _ _ _ h => h) (Or.inl ⟨by rfl, fun w hSw => by (try dsimp only at hSw); go_simp⟩) (by assumption) ?_
    try simp only [List.getElem_toArray, List.getElem_cons_zero, List.getElem_cons_succ, Act.put, List.setIfInBounds_toArray, List.set_cons_zero, List.set_cons_succ]
    refine wpAnyH_take (i := 24) (v := .bool true) rfl (by kernel_rfl) (by kernel_rfl) (by kernel_rfl) (fun _ _ _ h => h) (Or.inl ⟨by rfl, fun w hSw => by (try dsimp only at hSw); go_simp⟩) (by assumption) ?_
    try simp only [List.getElem_toArray, List.getElem_cons_zero, List.getElem_cons_succ, Act.put, List.setIfInBounds_toArray, List.set_cons_zero, List.set_cons_succ]
    refine wpAnyH_take (i := 25) (v := .slice d len cap) rfl (by kernel_rfl) (by kernel_rfl) (by kernel_rfl) (fun _ _ _ h => h) (Or.inl ⟨by rfl, fun w hSw => by (try dsimp only at hSw); go_simp⟩) (by assumption) ?_
    try simp only [List.getElem_toArray, List.getElem_cons_zero, List.getElem_cons_succ, Act.put, List.setIfInBounds_toArray, List.set_cons_zero, List.set_cons_succ]
    refine wpAnyH_take (i := 27) (v := .slice d len cap) rfl (by kernel_rfl) (by kernel_rfl) (by kernel_rfl) (fun _ _ _ h => h) (Or.inl ⟨by rfl, fun w hSw => by (try dsimp only at hSw); go_simp⟩) (by assumption) ?_
    try simp only [List.getElem_toArray, List.getElem_cons_zero, List.getElem_cons_succ, Act.put, List.setIfInBounds_toArray, List.set_cons_zero, List.set_cons_succ]
    refine wpAnyH_ready (rs := [26]) (by kernel_rfl) (by simp) ?_
    refine AllReadyH.cons (i := 26) rfl (fun K hK => ?_) AllReadyH.nil
    go_simp
    refine (HAl.out l _ _ HLs.out HOk.out (rg_kept encM_ok HRv.out HK.out)).mono ?_
    rintro e wc ⟨vc, rfl, rc, kc⟩
    have HRc := hid rc
    clear rc
    replace HK := hid (kept_trans HK.out kc)
    clear kc
    have hS := HS.out _ HK.out
    clear hHeld
    show K _ _
    refine hK.out _ _ (by assumption) (fun hHeld => ?_)
    clear hK K
    try simp only [List.getElem_toArray, List.getElem_cons_zero, List.getElem_cons_succ, Act.put, List.setIfInBounds_toArray, List.set_cons_zero, List.set_cons_succ]
    refine wpAnyH_ready (rs := [28]) (by kernel_rfl) (by simp) ?_
    refine AllReadyH.cons (i := 28) rfl (fun K hK => ?_) AllReadyH.nil
    go_simp
    refine (rall_any l (by have := HLs.out; omega) _ _ (rg_kept encM_ok HRv.out HK.out)).mono ?_
    rintro e wd ⟨vd, rfl, od, -, kd⟩
    have HRd := hid (rg_own encN_ok od)
    have HRcb := hid (rg_kept encN_ok HRc.out kd)
    clear od HRc
    replace HK := hid (kept_trans HK.out kd)
    clear kd
    have hS := HS.out _ HK.out
    clear hHeld
    show K _ _
    refine hK.out _ _ (by assumption) (fun hHeld => ?_)
    clear hK K
    try simp only [List.getElem_toArray, List.getElem_cons_zero, List.getElem_cons_succ, Act.put, List.setIfInBounds_toArray, List.set_cons_zero, List.set_cons_succ]
    refine wpAnyH_ready (rs := [29]) (by kernel_rfl) (by simp) ?_
    refine AllReadyH.cons (i := 29) rfl (fun K hK => ?_) AllReadyH.nil
    go_simp
    refine (sameN_any (allN l) HAll.out _ _ _ HRcb.out HRd.out).mono ?_
    rintro e we ⟨rfl, ke⟩
    clear HRcb HRd
    replace HK := hid (kept_trans HK.out ke)
    clear ke
    have hS := HS.out _ HK.out
    clear hHeld
    show K _ _
    refine hK.out _ _ (by assumption) (fun hHeld => ?_)
    clear hK K
    try simp only [List.getElem_toArray, List.getElem_cons_zero, List.getElem_cons_succ, Act.put, List.setIfInBounds_toArray, List.set_cons_zero, List.set_cons_succ]
    refine wpAnyH_take (i := 30) (v := .bool true) rfl (by kernel_rfl) (by kernel_rfl) (by kernel_rfl) (fun _ _ _ h => h) (Or.inl ⟨by rfl, fun w hSw => by (try dsimp only at hSw); go_simp⟩) (by assumption) ?_
    try simp only [List.getElem_toArray, List.getElem_cons_zero, List.getElem_cons_succ, Act.put, List.setIfInBounds_toArray, List.set_cons_zero, List.set_cons_succ]
    refine wpAnyH_take (i := 31) (v := .bool true) rfl (by kernel_rfl) (by kernel_rfl) (by kernel_rfl) (fun _ _ _ h => h) (Or.inl ⟨by rfl, fun w hSw => by (try dsimp only at hSw); go_simp⟩) (by assumption) ?_
    try simp only [List.getElem_toArray, List.getElem_cons_zero, List.getElem_cons_succ, Act.put, List.setIfInBounds_toArray, List.set_cons_zero, List.set_cons_succ]
    refine wpAnyH_done (by kernel_rfl) ?_ _
    refine NoPanic.normal ?_
    clear hHeld
    have HKe := hid (kept_trans HK0.out HK.out)
    go_wp2_with fail
    go_ret
    exact ⟨rfl, HKe.out⟩
end Go.Proofs.Ytdcokccfannfmaa
