/- The contract of the reference's Drop: it answers what the plain function does, with a table of its own. It turns nothing that was there. -/
import Derived.Test.YtibdnhnomjcclaaRefSet
namespace Go.Proofs.Ytibdnhnomjcclaa
open Go.ChangeShapes Go.WideShapes Go.ChangeAt Go.RowKit
set_option linter.unusedVariables false
set_option linter.unusedSimpArgs false

section
variable {w : World} {X T G m o a : Nat} {L : Tb} {x y : Value}
theorem test_cells (h : At w X #[x, y] T) (r : RowT w 46 G m (upd L o no)) (ha : a < m) (hn : a ≠ o) : (w.cell? ⟨X, 0, none⟩ = some x ∧ w.cell? ⟨X, 1, none⟩ = some y) ∧ w.cell? ⟨G, a * 3 + 1, none⟩ = some (.string (L a).key) := by
  obtain ⟨_, g1, _, _⟩ := row_cells r ha
  rw [upd_ne _ _ hn] at g1
  exact ⟨cells2 h, g1⟩
theorem move_cells (h : At w X #[x, y] T) (r : RowT w 46 G m L) (ha : a < m) : w.cell? ⟨X, 0, none⟩ = some x ∧ w.cell? ⟨G, a * 3, none⟩ = some (.bool (L a).taken) ∧ w.cell? ⟨G, a * 3 + 1, none⟩ = some (.string (L a).key) ∧ w.cell? ⟨G, a * 3 + 2, none⟩ = some (.int .i64 (L a).v) := by
  obtain ⟨g0, g1, g2, _⟩ := row_cells r ha
  exact ⟨(cells2 h).1, g0, g1, g2⟩
end
set_option maxHeartbeats 3200000 in
set_option maxRecDepth 100000 in
theorem refdrop_any {Q m most : Nat} {L : Tb} (h4 : m ≤ 4096) (ok : Ok (hm m) m L) (free : cnt L m < m) (sm : ∀ i, (L i).key.size ≤ 1000) (k : ByteArray) (w : World) (h : RowT w 46 Q m L) :
    Calls Try.prog 14 #[.agg #[.slice (some ⟨Q, 0, none⟩) m m, .int .i64 (most : Int)], .string k] w (GiveC (.bool (dropT (hm m) m L k).1) m most (dropT (hm m) m L k).2 w) := by
  have hz := zero29
  obtain ⟨w1, hw1⟩ : ∃ w1, w.alloc (.cells #[.slice (some ⟨Q, 0, none⟩) m m, .int .i64 (most : Int)] 29) = w1 := ⟨_, rfl⟩
  obtain ⟨w2, hw2⟩ : ∃ w2, w1.alloc (.cells #[.slice none 0 0, .int .i64 0] 29) = w2 := ⟨_, rfl⟩
  have A1 := at_new w #[.slice (some ⟨Q, 0, none⟩) m m, .int .i64 (most : Int)] 29
  have A2 := at_new w1 #[.slice none 0 0, .int .i64 0] 29
  have k1 := kept_alloc (kept_refl w) (.cells #[.slice (some ⟨Q, 0, none⟩) m m, .int .i64 (most : Int)] 29)
  have k2 := kept_alloc (kept_refl w1) (.cells #[.slice none 0 0, .int .i64 0] 29)
  have s1 : w1.heap.size = w.heap.size + 1 := by rw [← hw1]; simp
  have hQ := row_lt h
  rw [hw1] at A1 k1
  rw [hw2] at A2 k2
  obtain ⟨X, hX⟩ : ∃ X, w.heap.size = X := ⟨_, rfl⟩
  obtain ⟨Y, hY⟩ : ∃ Y, w1.heap.size = Y := ⟨_, rfl⟩
  have HXY : Hid (w.heap.size ≤ X ∧ w.heap.size ≤ Y ∧ Y ≠ X ∧ Q ≠ Y) := hid (by omega)
  rw [hX] at A1
  rw [hY] at A2
  have HA1 := hid (at_kept A1 k2)
  have HA2 := hid A2
  have HK2 := hid (kept_trans k1 k2)
  have HR2 := hid (row_kept h HK2.out)
  have HOk := hid ok
  have HFr := hid free
  have HSm := hid sm
  have hF := spot_found (k := k) ok free
  have ha := hF.lt
  have HSl : Hid (slotI m L k = if (L (spot (hm m) m L k)).taken = true then ((spot (hm m) m L k : Nat) : Int) else -1) := rfl
  have HE : Hid (dropT (hm m) m L k = if (L (spot (hm m) m L k)).taken = true then (true, closed (hm m) m L (spot (hm m) m L k)) else (false, L)) := rfl
  obtain ⟨a0, a1, af⟩ := at_cells2 HA1.out
  clear A1 A2 k1 k2 s1 h ok free sm hQ hF
  generalize spot (hm m) m L k = p at *
  go_enter Try.func14, Try.ntmps14
  go_wp2_with fail
  refine (refat_any h4 HOk.out HFr.out k _ HR2.out).mono ?_
  rintro e w3 ⟨rfl, k3⟩
  have HA3 := hid (at_kept HA1.out k3)
  have HB3 := hid (at_kept HA2.out k3)
  have HK3 := hid (kept_trans HK2.out k3)
  have HR3 := hid (row_kept HR2.out k3)
  clear k3 HA1 HA2 HK2 HR2 a0 a1 af
  obtain ⟨a0, a1, af⟩ := at_cells2 HA3.out
  obtain ⟨b0, b1, bf⟩ := at_cells2 HB3.out
  cases t : (L p).taken with
  | false =>
    have hsl : slotI m L k = -1 := by rw [HSl.out, if_neg (by rw [t]; simp)]
    have HE2 : Hid (dropT (hm m) m L k = (false, L)) := hid (by rw [HE.out, if_neg (by rw [t]; simp)])
    rw [hsl]
    have HR7 := hid (row_other2 HR3.out HXY.out.2.2.2 (.slice (some ⟨Q, 0, none⟩) m m) (.int .i64 (most : Int)))
    have HB7 := hid (at_set2 HB3.out (.slice (some ⟨Q, 0, none⟩) m m) (.int .i64 (most : Int)))
    have HK7 := hid (kept_set2 HK3.out HXY.out.2.1 (.slice (some ⟨Q, 0, none⟩) m m) (.int .i64 (most : Int)))
    clear t HE HSl hsl
    go_wp2_with fail
    go_region
    unfold set2 at HR7 HB7 HK7
    go_wp2_with fail
    refine bodyPost_ret (res3 rfl _ rfl rfl (at_drew HB7.out)) rfl ?_
    rw [HE2.out]
    exact ⟨Q, rfl, kept_drew HK7.out, row_drew HR7.out⟩
  | true =>
    have hsl : slotI m L k = (p : Int) := by rw [HSl.out, if_pos t]
    have HE2 : Hid (dropT (hm m) m L k = (true, closed (hm m) m L p)) := hid (by rw [HE.out, if_pos t])
    rw [hsl]
    obtain ⟨e, ce, he⟩ := cl_begin HOk.out HFr.out t
    have HCl := hid ce
    have HW := hid he
    have h0 := HOk.out.pos
    have HH := hid HOk.out.home
    clear t HE HSl hsl ce he b0 b1 bf
    go_wp2_with fail
    refine (copied_any h4 _ HR3.out).mono ?_
    rintro e1 w4 ⟨G, rfl, hG, k4, r4⟩
    have HG : Hid (w.heap.size ≤ G) := hid (Nat.le_trans HK3.out.2 hG)
    have HGX : Hid (G ≠ X ∧ G ≠ Y) := hid (by have := at_lt HA3.out; have := at_lt HB3.out; omega)
    have HA4 := hid (at_kept HA3.out k4)
    obtain ⟨w5, hw5⟩ : ∃ w5, (w4.setCell ⟨X, 0, none⟩ (.slice (some ⟨G, 0, none⟩) m m)).setCell ⟨X, 1, none⟩ (.int .i64 (most : Int)) = w5 := ⟨_, rfl⟩
    obtain ⟨w6, hw6⟩ : ∃ w6, ((w5.setCell ⟨G, p * 3, none⟩ (.bool false)).setCell ⟨G, p * 3 + 1, none⟩ (.string ⟨#[]⟩)).setCell ⟨G, p * 3 + 2, none⟩ (.int .i64 0) = w6 := ⟨_, rfl⟩
    have A5 := at_set2 HA4.out (.slice (some ⟨G, 0, none⟩) m m) (.int .i64 (most : Int))
    have B5 := at_other2 (at_kept HB3.out k4) HXY.out.2.2.1 (.slice (some ⟨G, 0, none⟩) m m) (.int .i64 (most : Int))
    have K5 := kept_set2 (kept_trans HK3.out k4) HXY.out.1 (.slice (some ⟨G, 0, none⟩) m m) (.int .i64 (most : Int))
    have R5 := row_other2 r4 HGX.out.1 (.slice (some ⟨G, 0, none⟩) m m) (.int .i64 (most : Int))
    unfold set2 at A5 B5 K5 R5
    rw [hw5] at A5 B5 K5 R5
    have R6 : RowT (set3 w5 G (p * 3) (.bool false) (.string ⟨#[]⟩) (.int .i64 0)) 46 G m (upd L p no) := row_set3 R5 ha no
    have A6 := set3_at (o := p * 3) (a := .bool false) (b := .string ⟨#[]⟩) (c := .int .i64 0) A5 (Ne.symm HGX.out.1)
    have B6 := set3_at (o := p * 3) (a := .bool false) (b := .string ⟨#[]⟩) (c := .int .i64 0) B5 (Ne.symm HGX.out.2)
    have K6 := kept_set3 K5 HG.out (p * 3) (.bool false) (.string ⟨#[]⟩) (.int .i64 0)
    unfold set3 at R6 A6 B6 K6
    rw [hw6] at R6 A6 B6 K6
    obtain ⟨c0, c1, cf⟩ := at_cells2 HA4.out
    obtain ⟨d0, d1, df⟩ := at_cells2 A5
    obtain ⟨f0, f1, ff⟩ := at_cells2 A6
    obtain ⟨r0, r1, r2, rf⟩ := row_cells R5 ha
    have HA6 := hid A6
    have HB6 := hid B6
    have HK6 := hid K6
    have HR6 := hid R6
    have hnx := nxt_rem ha
    clear A5 B5 K5 R5 A6 B6 K6 R6 hG k4 r4 HA3 HB3 HK3 HR3 a0 a1 af
    go_wp2_with fail
    clear c0 c1 cf d0 d1 df f0 f1 ff r0 r1 r2 rf
    clear hw1 hw2 hw5 hw6 HA4
    have HEnd : Hid (∀ (o : Nat) (L2 : Tb), (cl (hm m) m m L p (nxt m p)) = (L2, o) → (dropT (hm m) m L k).2 = upd L2 o no) := hid (fun o L2 hh => by rw [HE2.out]; unfold closed; rw [hh])
    have HE3 := hid (congrArg Prod.fst HE2.out)
    go_loopw [6, 7] (fun i j wr => ∃ (f o a : Nat) (L2 : Tb), i = .int .i64 (o : Int) ∧ j = .int .i64 (a : Int) ∧ o < m ∧ a < m ∧ Hid (Cl (hm m) m L2 o a e) ∧ Hid (way m a e ≤ f) ∧ Hid (cl (hm m) m f L2 o a = cl (hm m) m m L p (nxt m p)) ∧ Hid (∀ i, (L2 i).key.size ≤ 1000) ∧ Hid (Kept w wr) ∧ Hid (RowT wr 46 G m (upd L2 o no)) ∧ Hid (At wr X #[.slice (some ⟨G, 0, none⟩) m m, .int .i64 (most : Int)] 29) ∧ Hid (At wr Y #[.slice none 0 0, .int .i64 0] 29)) (fun _ j _ => way m (intOf j).toNat e)
    case atStart => exact ⟨m, p, nxt m p, L, rfl, by first | rfl | rw [hnx], ha, HCl.out.ha, HCl, HW, hid rfl, HSm, HK6, HR6, HA6, HB6⟩
    case round =>
      clear HCl HW HSm HK6 HR6 HA6 HB6 hnx
      rename_i ha_
      obtain ⟨f, o, a, L2, rfl, rfl, ho, ha, HCl, HW, HFe, HSm, HKr, HRr, HX, HY⟩ := hrel
      have HN := hid HCl.out.nea
      obtain ⟨f0, f1, ff⟩ := at_cells2 HX.out
      obtain ⟨r0, r1, r2, rf⟩ := row_cells HRr.out ha
      rw [upd_ne _ _ HN.out] at r0 r1 r2
      cases t : (L2 a).taken with
      | false =>
        rw [t] at r0
        have HE4 := hid (HEnd.out o L2 (HFe.out.symm.trans (cl_stop (hm m) m f L2 o a t)))
        have HR7 := hid (row_other2 HRr.out HGX.out.2 (.slice (some ⟨G, 0, none⟩) m m) (.int .i64 (most : Int)))
        have HB7 := hid (at_set2 HY.out (.slice (some ⟨G, 0, none⟩) m m) (.int .i64 (most : Int)))
        have HK7 := hid (kept_set2 HKr.out HXY.out.2.1 (.slice (some ⟨G, 0, none⟩) m m) (.int .i64 (most : Int)))
        obtain ⟨g0, g1, gf⟩ := at_cells2 HY.out
        clear t
        go_wp2_with fail
        go_region
        unfold set2 at HR7 HB7 HK7
        go_wp2_with fail
        refine bodyPost_ret (res3 rfl _ rfl rfl (at_drew HB7.out)) rfl ?_
        rw [HE3.out, HE4.out]
        exact ⟨G, rfl, kept_drew HK7.out, row_drew HR7.out⟩
      | true =>
        rw [t] at r0
        have hks : (L2 a).key.size ≤ maxLen := by have := HSm.out a; unfold maxLen; omega
        have HD := hid t
        have hf : ∃ f2, f = f2 + 1 := by
          have h1 := cl_free HCl.out t
          have h2 := HW.out
          cases f with
          | zero => exact absurd (way_inj HCl.out.ha HCl.out.ha HCl.out.he (by rw [way_self]; omega)) h1
          | succ f => exact ⟨f, rfl⟩
        obtain ⟨f2, rfl⟩ := hf
        have hnx := nxt_rem ha
        clear t
        by_cases hw : way m o a ≤ way m (hm m (L2 a).key) a
        · obtain ⟨c5, hd5⟩ := cl_move HH.out HCl.out HD.out hw
          have HC5 := hid c5
          have HD5 := hid hd5
          have HF5 := hid ((cl_on (hm m) m f2 L2 o a HD.out hw).symm.trans HFe.out)
          have hd : decide (way m (hm m (L2 a).key) a < way m o a) = false := by simp; omega
          clear hw c5 hd5
          go_wp2_with fail
          clear f0 f1 ff r0 r1 r2 rf
          replace HX := hid (at_drew HX.out)
          replace HY := hid (at_drew HY.out)
          replace HKr := hid (kept_drew HKr.out)
          replace HRr := hid (row_drew HRr.out)
          have hS := test_cells HX.out HRr.out ha HN.out
          refine wp_region_noPanic ?_
          refine wp_region_held_drew (S := (fun w' => (w'.cell? ⟨X, 0, none⟩ = some (.slice (some ⟨G, 0, none⟩) m m) ∧ w'.cell? ⟨X, 1, none⟩ = some (.int .i64 (most : Int))) ∧ w'.cell? ⟨G, a * 3 + 1, none⟩ = some (.string (L2 a).key))) (by kernel_rfl) (by assumption) (fun hHeld => ?_)
          generalize wr.drew = w5 at *
          refine wpAnyH_take (i := 0) (v := .agg #[.slice (some ⟨G, 0, none⟩) m m, .int .i64 (most : Int)]) rfl (by kernel_rfl) (by kernel_rfl) (by kernel_rfl) (fun _ _ _ h => h) (Or.inl ⟨by rfl, fun w hSw => by (try dsimp only at hSw); go_simp⟩) (by assumption) ?_
          try simp only [List.getElem_toArray, List.getElem_cons_zero, List.getElem_cons_succ, Act.put, List.setIfInBounds_toArray, List.set_cons_zero, List.set_cons_succ]
          refine wpAnyH_take (i := 1) (v := .agg #[.slice (some ⟨G, 0, none⟩) m m, .int .i64 (most : Int)]) rfl (by kernel_rfl) (by kernel_rfl) (by kernel_rfl) (fun _ _ _ h => h) (Or.inl ⟨by rfl, fun w hSw => by (try dsimp only at hSw); go_simp⟩) (by assumption) ?_
          try simp only [List.getElem_toArray, List.getElem_cons_zero, List.getElem_cons_succ, Act.put, List.setIfInBounds_toArray, List.set_cons_zero, List.set_cons_succ]
          refine wpAnyH_take (i := 2) (v := .pointer (some ⟨X, 0, none⟩)) rfl (by kernel_rfl) (by kernel_rfl) (by kernel_rfl) (fun _ _ _ h => h) (Or.inl ⟨by rfl, fun w hSw => by (try dsimp only at hSw); go_simp⟩) (by assumption) ?_
          try simp only [List.getElem_toArray, List.getElem_cons_zero, List.getElem_cons_succ, Act.put, List.setIfInBounds_toArray, List.set_cons_zero, List.set_cons_succ]
          refine wpAnyH_take (i := 3) (v := .slice (some ⟨G, 0, none⟩) m m) rfl (by kernel_rfl) (by kernel_rfl) (by kernel_rfl) (fun _ _ _ h => h) (Or.inl ⟨by rfl, fun w hSw => by (try dsimp only at hSw); go_simp⟩) (by assumption) ?_
          try simp only [List.getElem_toArray, List.getElem_cons_zero, List.getElem_cons_succ, Act.put, List.setIfInBounds_toArray, List.set_cons_zero, List.set_cons_succ]
          refine wpAnyH_take (i := 4) (v := .int .i64 (a : Int)) rfl (by kernel_rfl) (by kernel_rfl) (by kernel_rfl) (fun _ _ _ h => h) (Or.inl ⟨by rfl, fun w hSw => by (try dsimp only at hSw); go_simp⟩) (by assumption) ?_
          try simp only [List.getElem_toArray, List.getElem_cons_zero, List.getElem_cons_succ, Act.put, List.setIfInBounds_toArray, List.set_cons_zero, List.set_cons_succ]
          refine wpAnyH_take (i := 5) (v := .pointer (some ⟨G, a * 3, none⟩)) rfl (by kernel_rfl) (by kernel_rfl) (by kernel_rfl) (fun _ _ _ h => h) (Or.inl ⟨by rfl, fun w hSw => by (try dsimp only at hSw); go_simp⟩) (by assumption) ?_
          try simp only [List.getElem_toArray, List.getElem_cons_zero, List.getElem_cons_succ, Act.put, List.setIfInBounds_toArray, List.set_cons_zero, List.set_cons_succ]
          refine wpAnyH_take (i := 6) (v := .pointer (some ⟨G, a * 3 + 1, none⟩)) rfl (by kernel_rfl) (by kernel_rfl) (by kernel_rfl) (fun _ _ _ h => h) (Or.inl ⟨by rfl, fun w hSw => by (try dsimp only at hSw); go_simp⟩) (by assumption) ?_
          try simp only [List.getElem_toArray, List.getElem_cons_zero, List.getElem_cons_succ, Act.put, List.setIfInBounds_toArray, List.set_cons_zero, List.set_cons_succ]
          refine wpAnyH_take (i := 7) (v := .string (L2 a).key) rfl (by kernel_rfl) (by kernel_rfl) (by kernel_rfl) (fun _ _ _ h => h) (Or.inl ⟨by rfl, fun w hSw => by (try dsimp only at hSw); go_simp⟩) (by assumption) ?_
          try simp only [List.getElem_toArray, List.getElem_cons_zero, List.getElem_cons_succ, Act.put, List.setIfInBounds_toArray, List.set_cons_zero, List.set_cons_succ]
          refine wpAnyH_take (i := 9) (v := .int .i64 (o : Int)) rfl (by kernel_rfl) (by kernel_rfl) (by kernel_rfl) (fun _ _ _ h => h) (Or.inl ⟨by rfl, fun w hSw => by (try dsimp only at hSw); go_simp⟩) (by assumption) ?_
          try simp only [List.getElem_toArray, List.getElem_cons_zero, List.getElem_cons_succ, Act.put, List.setIfInBounds_toArray, List.set_cons_zero, List.set_cons_succ]
          refine wpAnyH_take (i := 10) (v := .int .i64 (a : Int)) rfl (by kernel_rfl) (by kernel_rfl) (by kernel_rfl) (fun _ _ _ h => h) (Or.inl ⟨by rfl, fun w hSw => by (try dsimp only at hSw); go_simp⟩) (by assumption) ?_
          try simp only [List.getElem_toArray, List.getElem_cons_zero, List.getElem_cons_succ, Act.put, List.setIfInBounds_toArray, List.set_cons_zero, List.set_cons_succ]
          refine wpAnyH_ready (rs := [8]) (by kernel_rfl) (by simp) ?_
          refine AllReadyH.cons (i := 8) rfl (fun K hK => ?_) AllReadyH.nil
          go_simp
          refine (refhome_any (L := L2) (L2 a).key hks h0 h4 _).mono ?_
          rintro e1 w6 ⟨rfl, k8⟩
          replace HX := hid (at_kept HX.out k8)
          replace HY := hid (at_kept HY.out k8)
          replace HKr := hid (kept_trans HKr.out k8)
          replace HRr := hid (row_kept HRr.out k8)
          clear k8
          have hS := test_cells HX.out HRr.out ha HN.out
          clear hHeld
          show K _ _
          refine hK.out _ _ (by assumption) (fun hHeld => ?_)
          clear hK K
          try simp only [List.getElem_toArray, List.getElem_cons_zero, List.getElem_cons_succ, Act.put, List.setIfInBounds_toArray, List.set_cons_zero, List.set_cons_succ]
          refine wpAnyH_ready (rs := [11]) (by kernel_rfl) (by simp) ?_
          refine AllReadyH.cons (i := 11) rfl (fun K hK => ?_) AllReadyH.nil
          go_simp
          refine (between_any (hm m (L2 a).key) o a (HH.out _) ho ha h4 _).mono ?_
          rintro e1 w7 ⟨rfl, k8⟩
          replace HX := hid (at_kept HX.out k8)
          replace HY := hid (at_kept HY.out k8)
          replace HKr := hid (kept_trans HKr.out k8)
          replace HRr := hid (row_kept HRr.out k8)
          clear k8
          have hS := test_cells HX.out HRr.out ha HN.out
          rw [hd]
          clear hHeld
          show K _ _
          refine hK.out _ _ (by assumption) (fun hHeld => ?_)
          clear hK K
          try simp only [List.getElem_toArray, List.getElem_cons_zero, List.getElem_cons_succ, Act.put, List.setIfInBounds_toArray, List.set_cons_zero, List.set_cons_succ]
          refine wpAnyH_take (i := 12) (v := .bool true) rfl (by kernel_rfl) (by kernel_rfl) (by kernel_rfl) (fun _ _ _ h => h) (Or.inl ⟨by rfl, fun w hSw => by (try dsimp only at hSw); go_simp⟩) (by assumption) ?_
          try simp only [List.getElem_toArray, List.getElem_cons_zero, List.getElem_cons_succ, Act.put, List.setIfInBounds_toArray, List.set_cons_zero, List.set_cons_succ]
          refine wpAnyH_done (by kernel_rfl) ?_ _
          refine NoPanic.normal ?_
          clear hS hHeld
          go_wp2_with fail
          replace HX := hid (at_drew HX.out)
          replace HY := hid (at_drew HY.out)
          replace HKr := hid (kept_drew HKr.out)
          replace HRr := hid (row_drew HRr.out)
          have hS := move_cells HX.out HRr.out ha
          rw [upd_ne _ _ HN.out] at hS
          have R8 := row_set3 HRr.out ho (L2 a)
          rw [upd_upd] at R8
          have A8 := set3_at (o := o * 3) (a := .bool (L2 a).taken) (b := .string (L2 a).key) (c := .int .i64 (L2 a).v) HX.out (Ne.symm HGX.out.1)
          have B8 := set3_at (o := o * 3) (a := .bool (L2 a).taken) (b := .string (L2 a).key) (c := .int .i64 (L2 a).v) HY.out (Ne.symm HGX.out.2)
          have K8 := kept_set3 HKr.out HG.out (o * 3) (.bool (L2 a).taken) (.string (L2 a).key) (.int .i64 (L2 a).v)
          have HS4 := hid (move_cells A8 R8 ha)
          rw [upd_ne _ _ HN.out] at HS4
          have HR8 := hid R8
          have HA8 := hid A8
          have HB8 := hid B8
          have HK8 := hid K8
          clear R8 A8 B8 K8
          unfold set3 at HR8 HA8 HB8 HK8 HS4
          refine wp_region_noPanic ?_
          refine wp_region_held_drew (S := (fun w' => w'.cell? ⟨X, 0, none⟩ = some (.slice (some ⟨G, 0, none⟩) m m) ∧ w'.cell? ⟨G, a * 3, none⟩ = some (.bool (L2 a).taken) ∧ w'.cell? ⟨G, a * 3 + 1, none⟩ = some (.string (L2 a).key) ∧ w'.cell? ⟨G, a * 3 + 2, none⟩ = some (.int .i64 (L2 a).v))) (by kernel_rfl) (by assumption) (fun hHeld => ?_)
          generalize w7.drew = w8 at *
          refine wpAnyH_take (i := 0) (v := .pointer (some ⟨X, 0, none⟩)) rfl (by kernel_rfl) (by kernel_rfl) (by kernel_rfl) (fun _ _ _ h => h) (Or.inl ⟨by rfl, fun w hSw => by (try dsimp only at hSw); go_simp⟩) (by assumption) ?_
          try simp only [List.getElem_toArray, List.getElem_cons_zero, List.getElem_cons_succ, Act.put, List.setIfInBounds_toArray, List.set_cons_zero, List.set_cons_succ]
          refine wpAnyH_take (i := 1) (v := .slice (some ⟨G, 0, none⟩) m m) rfl (by kernel_rfl) (by kernel_rfl) (by kernel_rfl) (fun _ _ _ h => h) (Or.inl ⟨by rfl, fun w hSw => by (try dsimp only at hSw); go_simp⟩) (by assumption) ?_
          try simp only [List.getElem_toArray, List.getElem_cons_zero, List.getElem_cons_succ, Act.put, List.setIfInBounds_toArray, List.set_cons_zero, List.set_cons_succ]
          refine wpAnyH_take (i := 2) (v := .int .i64 (o : Int)) rfl (by kernel_rfl) (by kernel_rfl) (by kernel_rfl) (fun _ _ _ h => h) (Or.inl ⟨by rfl, fun w hSw => by (try dsimp only at hSw); go_simp⟩) (by assumption) ?_
          try simp only [List.getElem_toArray, List.getElem_cons_zero, List.getElem_cons_succ, Act.put, List.setIfInBounds_toArray, List.set_cons_zero, List.set_cons_succ]
          refine wpAnyH_take (i := 3) (v := .pointer (some ⟨X, 0, none⟩)) rfl (by kernel_rfl) (by kernel_rfl) (by kernel_rfl) (fun _ _ _ h => h) (Or.inl ⟨by rfl, fun w hSw => by (try dsimp only at hSw); go_simp⟩) (by assumption) ?_
          try simp only [List.getElem_toArray, List.getElem_cons_zero, List.getElem_cons_succ, Act.put, List.setIfInBounds_toArray, List.set_cons_zero, List.set_cons_succ]
          refine wpAnyH_take (i := 4) (v := .slice (some ⟨G, 0, none⟩) m m) rfl (by kernel_rfl) (by kernel_rfl) (by kernel_rfl) (fun _ _ _ h => h) (Or.inl ⟨by rfl, fun w hSw => by (try dsimp only at hSw); go_simp⟩) (by assumption) ?_
          try simp only [List.getElem_toArray, List.getElem_cons_zero, List.getElem_cons_succ, Act.put, List.setIfInBounds_toArray, List.set_cons_zero, List.set_cons_succ]
          refine wpAnyH_take (i := 5) (v := .int .i64 (a : Int)) rfl (by kernel_rfl) (by kernel_rfl) (by kernel_rfl) (fun _ _ _ h => h) (Or.inl ⟨by rfl, fun w hSw => by (try dsimp only at hSw); go_simp⟩) (by assumption) ?_
          try simp only [List.getElem_toArray, List.getElem_cons_zero, List.getElem_cons_succ, Act.put, List.setIfInBounds_toArray, List.set_cons_zero, List.set_cons_succ]
          refine wpAnyH_take (i := 6) (v := .pointer (some ⟨G, a * 3, none⟩)) rfl (by kernel_rfl) (by kernel_rfl) (by kernel_rfl) (fun _ _ _ h => h) (Or.inl ⟨by rfl, fun w hSw => by (try dsimp only at hSw); go_simp⟩) (by assumption) ?_
          try simp only [List.getElem_toArray, List.getElem_cons_zero, List.getElem_cons_succ, Act.put, List.setIfInBounds_toArray, List.set_cons_zero, List.set_cons_succ]
          refine wpAnyH_take (i := 7) (v := .agg #[.bool (L2 a).taken, .string (L2 a).key, .int .i64 (L2 a).v]) rfl (by kernel_rfl) (by kernel_rfl) (by kernel_rfl) (fun _ _ _ h => h) (Or.inl ⟨by rfl, fun w hSw => by (try dsimp only at hSw); go_simp⟩) (by assumption) ?_
          try simp only [List.getElem_toArray, List.getElem_cons_zero, List.getElem_cons_succ, Act.put, List.setIfInBounds_toArray, List.set_cons_zero, List.set_cons_succ]
          refine wpAnyH_take (i := 8) (v := .pointer (some ⟨G, o * 3, none⟩)) rfl (by kernel_rfl) (by kernel_rfl) (by kernel_rfl) (fun _ _ _ h => h) (Or.inl ⟨by rfl, fun w hSw => by (try dsimp only at hSw); go_simp⟩) (by assumption) ?_
          try simp only [List.getElem_toArray, List.getElem_cons_zero, List.getElem_cons_succ, Act.put, List.setIfInBounds_toArray, List.set_cons_zero, List.set_cons_succ]
          refine wpAnyH_ready (rs := [9]) (by kernel_rfl) (by simp) ?_
          refine AllReadyH.cons (i := 9) rfl (fun K hK => ?_) AllReadyH.nil
          obtain ⟨o0, o1, o2, of⟩ := row_cells HRr.out ho
          go_simp
          have hS := HS4.out
          clear hHeld
          show K _ _
          refine hK.out _ _ (by assumption) (fun hHeld => ?_)
          clear hK K
          try simp only [List.getElem_toArray, List.getElem_cons_zero, List.getElem_cons_succ, Act.put, List.setIfInBounds_toArray, List.set_cons_zero, List.set_cons_succ]
          refine wpAnyH_done (by kernel_rfl) ?_ _
          refine NoPanic.normal ?_
          clear hS hHeld HS4 o0 o1 o2 of HX HY HRr HKr
          generalize ((w8.setCell ⟨G, o * 3, none⟩ (.bool (L2 a).taken)).setCell ⟨G, o * 3 + 1, none⟩ (.string (L2 a).key)).setCell ⟨G, o * 3 + 2, none⟩ (.int .i64 (L2 a).v) = w9 at *
          obtain ⟨w10, hw10⟩ : ∃ w10, ((w9.setCell ⟨G, a * 3, none⟩ (.bool false)).setCell ⟨G, a * 3 + 1, none⟩ (.string ⟨#[]⟩)).setCell ⟨G, a * 3 + 2, none⟩ (.int .i64 0) = w10 := ⟨_, rfl⟩
          have R9 : RowT (set3 w9 G (a * 3) (.bool false) (.string ⟨#[]⟩) (.int .i64 0)) 46 G m (upd (upd L2 o (L2 a)) a no) := row_set3 HR8.out ha no
          have A9 := set3_at (o := a * 3) (a := .bool false) (b := .string ⟨#[]⟩) (c := .int .i64 0) HA8.out (Ne.symm HGX.out.1)
          have B9 := set3_at (o := a * 3) (a := .bool false) (b := .string ⟨#[]⟩) (c := .int .i64 0) HB8.out (Ne.symm HGX.out.2)
          have K9 := kept_set3 HK8.out HG.out (a * 3) (.bool false) (.string ⟨#[]⟩) (.int .i64 0)
          unfold set3 at R9 A9 B9 K9
          rw [hw10] at R9 A9 B9 K9
          obtain ⟨f0, f1, ff⟩ := at_cells2 HA8.out
          obtain ⟨g0, g1, gf⟩ := at_cells2 A9
          obtain ⟨r0, r1, r2, rf⟩ := row_cells HR8.out ha
          have HR9 := hid R9
          have HA9 := hid A9
          have HB9 := hid B9
          have HK9 := hid K9
          clear R9 A9 B9 K9 HR8 HA8 HB8 HK8
          go_wp2_with fail
          go_roundw
          case rel => exact ⟨f2, a, nxt m a, upd L2 o (L2 a), rfl, by first | rfl | rw [hnx], ha, HC5.out.ha, HC5, hid (by have := HD5.out; have := HW.out; omega), HF5, hid (small_upd HSm.out (HSm.out a) o), HK9, HR9, HA9, HB9⟩
          case measure => have := HD5.out; simp [intOf, hnx]; omega
        · obtain ⟨c5, hd5⟩ := cl_stay HH.out HCl.out HD.out hw
          have HC5 := hid c5
          have HD5 := hid hd5
          have HF5 := hid ((cl_by (hm m) m f2 L2 o a HD.out hw).symm.trans HFe.out)
          have hd : decide (way m (hm m (L2 a).key) a < way m o a) = true := by simp; omega
          clear hw c5 hd5
          go_wp2_with fail
          clear f0 f1 ff r0 r1 r2 rf
          replace HX := hid (at_drew HX.out)
          replace HY := hid (at_drew HY.out)
          replace HKr := hid (kept_drew HKr.out)
          replace HRr := hid (row_drew HRr.out)
          have hS := test_cells HX.out HRr.out ha HN.out
          refine wp_region_noPanic ?_
          refine wp_region_held_drew (S := (fun w' => (w'.cell? ⟨X, 0, none⟩ = some (.slice (some ⟨G, 0, none⟩) m m) ∧ w'.cell? ⟨X, 1, none⟩ = some (.int .i64 (most : Int))) ∧ w'.cell? ⟨G, a * 3 + 1, none⟩ = some (.string (L2 a).key))) (by kernel_rfl) (by assumption) (fun hHeld => ?_)
          generalize wr.drew = w5 at *
          refine wpAnyH_take (i := 0) (v := .agg #[.slice (some ⟨G, 0, none⟩) m m, .int .i64 (most : Int)]) rfl (by kernel_rfl) (by kernel_rfl) (by kernel_rfl) (fun _ _ _ h => h) (Or.inl ⟨by rfl, fun w hSw => by (try dsimp only at hSw); go_simp⟩) (by assumption) ?_
          try simp only [List.getElem_toArray, List.getElem_cons_zero, List.getElem_cons_succ, Act.put, List.setIfInBounds_toArray, List.set_cons_zero, List.set_cons_succ]
          refine wpAnyH_take (i := 1) (v := .agg #[.slice (some ⟨G, 0, none⟩) m m, .int .i64 (most : Int)]) rfl (by kernel_rfl) (by kernel_rfl) (by kernel_rfl) (fun _ _ _ h => h) (Or.inl ⟨by rfl, fun w hSw => by (try dsimp only at hSw); go_simp⟩) (by assumption) ?_
          try simp only [List.getElem_toArray, List.getElem_cons_zero, List.getElem_cons_succ, Act.put, List.setIfInBounds_toArray, List.set_cons_zero, List.set_cons_succ]
          refine wpAnyH_take (i := 2) (v := .pointer (some ⟨X, 0, none⟩)) rfl (by kernel_rfl) (by kernel_rfl) (by kernel_rfl) (fun _ _ _ h => h) (Or.inl ⟨by rfl, fun w hSw => by (try dsimp only at hSw); go_simp⟩) (by assumption) ?_
          try simp only [List.getElem_toArray, List.getElem_cons_zero, List.getElem_cons_succ, Act.put, List.setIfInBounds_toArray, List.set_cons_zero, List.set_cons_succ]
          refine wpAnyH_take (i := 3) (v := .slice (some ⟨G, 0, none⟩) m m) rfl (by kernel_rfl) (by kernel_rfl) (by kernel_rfl) (fun _ _ _ h => h) (Or.inl ⟨by rfl, fun w hSw => by (try dsimp only at hSw); go_simp⟩) (by assumption) ?_
          try simp only [List.getElem_toArray, List.getElem_cons_zero, List.getElem_cons_succ, Act.put, List.setIfInBounds_toArray, List.set_cons_zero, List.set_cons_succ]
          refine wpAnyH_take (i := 4) (v := .int .i64 (a : Int)) rfl (by kernel_rfl) (by kernel_rfl) (by kernel_rfl) (fun _ _ _ h => h) (Or.inl ⟨by rfl, fun w hSw => by (try dsimp only at hSw); go_simp⟩) (by assumption) ?_
          try simp only [List.getElem_toArray, List.getElem_cons_zero, List.getElem_cons_succ, Act.put, List.setIfInBounds_toArray, List.set_cons_zero, List.set_cons_succ]
          refine wpAnyH_take (i := 5) (v := .pointer (some ⟨G, a * 3, none⟩)) rfl (by kernel_rfl) (by kernel_rfl) (by kernel_rfl) (fun _ _ _ h => h) (Or.inl ⟨by rfl, fun w hSw => by (try dsimp only at hSw); go_simp⟩) (by assumption) ?_
          try simp only [List.getElem_toArray, List.getElem_cons_zero, List.getElem_cons_succ, Act.put, List.setIfInBounds_toArray, List.set_cons_zero, List.set_cons_succ]
          refine wpAnyH_take (i := 6) (v := .pointer (some ⟨G, a * 3 + 1, none⟩)) rfl (by kernel_rfl) (by kernel_rfl) (by kernel_rfl) (fun _ _ _ h => h) (Or.inl ⟨by rfl, fun w hSw => by (try dsimp only at hSw); go_simp⟩) (by assumption) ?_
          try simp only [List.getElem_toArray, List.getElem_cons_zero, List.getElem_cons_succ, Act.put, List.setIfInBounds_toArray, List.set_cons_zero, List.set_cons_succ]
          refine wpAnyH_take (i := 7) (v := .string (L2 a).key) rfl (by kernel_rfl) (by kernel_rfl) (by kernel_rfl) (fun _ _ _ h => h) (Or.inl ⟨by rfl, fun w hSw => by (try dsimp only at hSw); go_simp⟩) (by assumption) ?_
          try simp only [List.getElem_toArray, List.getElem_cons_zero, List.getElem_cons_succ, Act.put, List.setIfInBounds_toArray, List.set_cons_zero, List.set_cons_succ]
          refine wpAnyH_take (i := 9) (v := .int .i64 (o : Int)) rfl (by kernel_rfl) (by kernel_rfl) (by kernel_rfl) (fun _ _ _ h => h) (Or.inl ⟨by rfl, fun w hSw => by (try dsimp only at hSw); go_simp⟩) (by assumption) ?_
          try simp only [List.getElem_toArray, List.getElem_cons_zero, List.getElem_cons_succ, Act.put, List.setIfInBounds_toArray, List.set_cons_zero, List.set_cons_succ]
          refine wpAnyH_take (i := 10) (v := .int .i64 (a : Int)) rfl (by kernel_rfl) (by kernel_rfl) (by kernel_rfl) (fun _ _ _ h => h) (Or.inl ⟨by rfl, fun w hSw => by (try dsimp only at hSw); go_simp⟩) (by assumption) ?_
          try simp only [List.getElem_toArray, List.getElem_cons_zero, List.getElem_cons_succ, Act.put, List.setIfInBounds_toArray, List.set_cons_zero, List.set_cons_succ]
          refine wpAnyH_ready (rs := [8]) (by kernel_rfl) (by simp) ?_
          refine AllReadyH.cons (i := 8) rfl (fun K hK => ?_) AllReadyH.nil
          go_simp
          refine (refhome_any (L := L2) (L2 a).key hks h0 h4 _).mono ?_
          rintro e1 w6 ⟨rfl, k8⟩
          replace HX := hid (at_kept HX.out k8)
          replace HY := hid (at_kept HY.out k8)
          replace HKr := hid (kept_trans HKr.out k8)
          replace HRr := hid (row_kept HRr.out k8)
          clear k8
          have hS := test_cells HX.out HRr.out ha HN.out
          clear hHeld
          show K _ _
          refine hK.out _ _ (by assumption) (fun hHeld => ?_)
          clear hK K
          try simp only [List.getElem_toArray, List.getElem_cons_zero, List.getElem_cons_succ, Act.put, List.setIfInBounds_toArray, List.set_cons_zero, List.set_cons_succ]
          refine wpAnyH_ready (rs := [11]) (by kernel_rfl) (by simp) ?_
          refine AllReadyH.cons (i := 11) rfl (fun K hK => ?_) AllReadyH.nil
          go_simp
          refine (between_any (hm m (L2 a).key) o a (HH.out _) ho ha h4 _).mono ?_
          rintro e1 w7 ⟨rfl, k8⟩
          replace HX := hid (at_kept HX.out k8)
          replace HY := hid (at_kept HY.out k8)
          replace HKr := hid (kept_trans HKr.out k8)
          replace HRr := hid (row_kept HRr.out k8)
          clear k8
          have hS := test_cells HX.out HRr.out ha HN.out
          rw [hd]
          clear hHeld
          show K _ _
          refine hK.out _ _ (by assumption) (fun hHeld => ?_)
          clear hK K
          try simp only [List.getElem_toArray, List.getElem_cons_zero, List.getElem_cons_succ, Act.put, List.setIfInBounds_toArray, List.set_cons_zero, List.set_cons_succ]
          refine wpAnyH_take (i := 12) (v := .bool false) rfl (by kernel_rfl) (by kernel_rfl) (by kernel_rfl) (fun _ _ _ h => h) (Or.inl ⟨by rfl, fun w hSw => by (try dsimp only at hSw); go_simp⟩) (by assumption) ?_
          try simp only [List.getElem_toArray, List.getElem_cons_zero, List.getElem_cons_succ, Act.put, List.setIfInBounds_toArray, List.set_cons_zero, List.set_cons_succ]
          refine wpAnyH_done (by kernel_rfl) ?_ _
          refine NoPanic.normal ?_
          clear hS hHeld
          obtain ⟨f0, f1, ff⟩ := at_cells2 HX.out
          go_wp2_with fail
          go_roundw
          case rel => exact ⟨f2, o, nxt m a, L2, rfl, by first | rfl | rw [hnx], ho, HC5.out.ha, HC5, hid (by have := HD5.out; have := HW.out; omega), HF5, HSm, HKr, HRr, HX, HY⟩
          case measure => have := HD5.out; simp [intOf, hnx]; omega
end Go.Proofs.Ytibdnhnomjcclaa
