/- The contract of the reference's Node: a node reckoned from its leaves, row by row. -/
import Derived.Test.YtpfelbbhhoilpaaArrays
namespace Go.Proofs.Ytpfelbbhhoilpaa
open Go.ChangeShapes Go.WideShapes Go.ChangeAt Go.RowKit
set_option linter.unusedVariables false
set_option linter.unusedSimpArgs false
set_option maxRecDepth 100000

theorem op_run {P : Program} {w w' : World} {o : Oper} {a : Act} {K : Act → World → Prop} {Q : Exit → Act → World → Prop} (s x : Operand) (t tx : TypeId)
    (ho : o.op = .call { callee := .builtin .append, args := #[s, x], argTypes := #[t, tx] }) (v y v' : Value) (hs : a.eval s = v) (hx : a.eval x = y) (hr : (Builtin.append_ #[t, tx] o.type #[v, y]).run P w = .ok v' w')
    (h : K (a.put o.dst v') w') : o.wp P a w K Q := by
  simpa [Oper.wp, execOp, ho, resolve, invoke, builtin, hs, hx, hr, Oper.upon_value] using h
/- Nodes that stand side by side. -/
def pv (L : Nat → Int) (s j : Nat) : List Int := (List.range j).map (fun k => nod L (s + k))
theorem pv_len (L : Nat → Int) (s j : Nat) : (pv L s j).length = j := by simp [pv]
theorem pv_next (L : Nat → Int) (s j : Nat) : pv L s (j + 1) = pv L s j ++ [nod L (s + j)] := by unfold pv; rw [List.range_succ, List.map_append]; rfl
theorem pv_get (L : Nat → Int) (s : Nat) {j k : Nat} (h : k < j) : (pv L s j)[k]? = some (nod L (s + k)) := by
  unfold pv
  rw [List.getElem?_map, List.getElem?_range h]
  rfl
theorem nod_pair (L : Nat → Int) {a p j : Nat} (h0 : 1 ≤ a) (hp : 1 ≤ p) (h : (a + 1) * (2 * p) ≤ 128) (hj : j < p) : nod L (a * p + j) = twoI (nod L (a * (2 * p) + 2 * j)) (nod L (a * (2 * p) + (2 * j + 1))) ∧ a * (2 * p) + (2 * j + 1) < 128 := by
  have e1 : a * (2 * p) = 2 * (a * p) := by rw [Nat.mul_left_comm]
  have e2 : (a + 1) * (2 * p) = 2 * (a * p) + 2 * p := by rw [Nat.add_mul, e1, Nat.one_mul]
  have e3 : 1 ≤ a * p := Nat.mul_pos h0 hp
  rw [nod_up L (k := a * p + j) (by omega) (by omega), e1, Nat.mul_add]
  exact ⟨rfl, by omega⟩
def lenV : Value → Nat
  | .slice _ n _ => n
  | _ => 0
theorem built0 (w : World) : Own .u64 26 (w.alloc (.cells #[] 26)) w.heap.size (.slice (some ⟨w.heap.size, 0, none⟩) 0 0) [] := own_built .u64 26 w _ (Nat.le_refl _) [] (by decide)
theorem built0i (w : World) : Own .i64 3 (w.alloc (.cells #[] 3)) w.heap.size (.slice (some ⟨w.heap.size, 0, none⟩) 0 0) [] := own_built .i64 3 w _ (Nat.le_refl _) [] (by decide)
set_option maxHeartbeats 6400000 in
theorem refnode_ok {L : Nat → Int} (hL : Wl L) (l i : Nat) (hl : l ≤ 6) (hi : i < 2 ^ l) (w : World) :
    Calls Try.prog 14 #[.agg (nv L 64), .int .i64 (l : Int), .int .i64 (i : Int)] w fun e w' => e = .returned (.int .u64 (nod L (2 ^ l + i))) ∧ Kept w w' := by
  obtain ⟨p, hp⟩ : ∃ p, 2 ^ l = p := ⟨_, rfl⟩
  obtain ⟨n, hn⟩ : ∃ n, 2 ^ (6 - l) = n := ⟨_, rfl⟩
  have hpn : p * n = 64 := by rw [← hp, ← hn, ← Nat.pow_add, show l + (6 - l) = 6 by omega]
  have hp64 : p ≤ 64 := by rw [← hp]; exact Nat.le_trans (Nat.pow_le_pow_right (by omega) hl) (by omega)
  have hn64 : n ≤ 64 := by rw [← hn]; exact Nat.le_trans (Nat.pow_le_pow_right (by omega) (show 6 - l ≤ 6 by omega)) (by omega)
  have hpw : (2 : Int) ^ l = (p : Int) := by rw [← hp]; simp
  have hn1 : 1 ≤ n := by rw [← hn]; exact Nat.pow_pos (by omega)
  have hp1 : 1 ≤ p := by rw [← hp]; exact Nat.pow_pos (by omega)
  have hdv : (64 : Int) / (p : Int) = (n : Int) := by
    have : (64 : Nat) / p = n := by rw [← hpn]; exact Nat.mul_div_cancel_left n (by omega)
    rw [← this, Int.natCast_ediv]
    rfl
  rw [hp] at hi ⊢
  obtain ⟨a, ha⟩ : ∃ a, p + i = a := ⟨_, rfl⟩
  have e1 : decide ((l : Int) < 0) = false := by simp
  have e2 : decide ((6 : Int) < (l : Int)) = false := by simp; omega
  have e3 : decide ((i : Int) < 0) = false := by simp
  have e4 : decide ((p : Int) ≤ (i : Int)) = false := by simp; omega
  have e5 : decide (p ≤ i) = false := by simp; omega
  have hin : i * n + n ≤ 64 := by rw [← hpn, ← Nat.succ_mul]; exact Nat.mul_le_mul_right n hi
  obtain ⟨c, hc⟩ : ∃ c, i * n = c := ⟨_, rfl⟩
  have hci : (i : Int) * (n : Int) = (c : Int) := by rw [← hc]; simp
  have han : a * n = 64 + c := by rw [← ha, Nat.add_mul, hpn, hc]
  have ha1 : (a + 1) * n ≤ 128 := by rw [Nat.add_mul, han, Nat.one_mul]; omega
  rw [hc] at hin
  have HW := hid hL
  rw [ha]
  have HA : Hid (1 ≤ a ∧ a * n = 64 + c ∧ (a + 1) * n ≤ 128 ∧ 2 ^ (6 - l) = n ∧ c + n ≤ 64) := hid ⟨by omega, han, ha1, hn, hin⟩
  have hcb : c ≤ 64 := by omega
  have hl6 : l ≤ 6 := hl
  clear hL hpn hp hn ha hc han ha1
  obtain ⟨w0, hw0⟩ : ∃ w0, w.alloc (.cells (nv L 64) 31) = w0 := ⟨_, rfl⟩
  obtain ⟨P, hP⟩ : ∃ P, w.heap.size = P := ⟨_, rfl⟩
  have HB0 := hid (at_new w (nv L 64) 31)
  have HK0 := hid (kept_alloc (kept_refl w) (.cells (nv L 64) 31))
  rw [hw0, hP] at HB0
  rw [hw0] at HK0
  have HO1 := hid (built0 w0)
  have HK1 := hid (kept_alloc (kept_refl w0) (.cells #[] 26))
  obtain ⟨nl, hnl⟩ : ∃ nl, nv L 64 = nl := ⟨_, rfl⟩
  rw [hnl] at hw0 ⊢
  have HNL := hid hnl
  clear hnl
  obtain ⟨w1, hw1⟩ : ∃ w1, w0.alloc (.cells #[] 26) = w1 := ⟨_, rfl⟩
  obtain ⟨B, hB⟩ : ∃ B, w0.heap.size = B := ⟨_, rfl⟩
  rw [hw1, hB] at HO1
  rw [hw1] at HK1
  have HBB := hid hB
  obtain ⟨i0, hi0, hz0, hz1, hz2⟩ := info_parts (P := Try.prog) (e := 26) info26
  have HI := hid (And.intro hi0 (And.intro hz0 (And.intro hz1 hz2)))
  clear hi0 hz0 hz1 hz2
  go_enter Try.func14, Try.ntmps14
  go_wp2_with fail
  clear e1 e2 e3 e4 e5 hw0 hw1 hB hP hdv
  go_loopw [8, 9] (fun v j wr => ∃ k : Nat, k ≤ n ∧ j = .int .i64 (k : Int) ∧ Hid (Own .u64 26 wr B v (pv L (64 + c) k)) ∧ Hid (Kept w0 wr)) (fun _ j _ => n - (intOf j).toNat)
  case atStart => exact ⟨0, Nat.zero_le _, rfl, HO1, HK1⟩
  case round =>
    obtain ⟨k, hk, rfl, HO, HK⟩ := hrel
    clear HO1 HK1
    by_cases hlt : k < n
    · obtain ⟨m, hm⟩ : ∃ m, c + k = m := ⟨_, rfl⟩
      have hmi : (c : Int) + (k : Int) = (m : Int) := by omega
      have hm64 : m < 64 := by have := HA.out.2.2.2.2; omega
      have hm64i : (m : Int) < 64 := by omega
      have c0 := (at_cell (at_kept HB0.out HK.out) m).trans (nv_get L hm64)
      have HNx : Hid (pv L (64 + c) (k + 1) = pv L (64 + c) k ++ [L m]) := hid (by rw [pv_next, show 64 + c + k = 64 + m by omega, nod_at])
      generalize L m = x at *
      obtain ⟨va, vc, rfl⟩ := own_is HO.out
      have HO2 := hid (World.ownsRow.alloc HO.out (.cells #[.int .u64 x] 26))
      have HKa := hid (kept_alloc HK.out (.cells #[.int .u64 x] 26))
      have HBw : Hid (B ≤ wr.heap.size) := hid (by have := HK.out.2; have := HBB.out; omega)
      rw [pv_len] at HO2 ⊢
      clear hm
      go_wp2_with (at_builtin; go_must (refine wpList_append_own _ rfl (.tmp 36) (.tmp 44) 37 rfl B 26 i0 (.int .u64 0) 1 8 Try.underlying37 HI.out.1 HI.out.2.1 HI.out.2.2.1 HI.out.2.2.2 rfl (by decide) _ _ _ rfl HO2.out ⟨wr.heap.size, 0, none⟩ 1 1 [.int .u64 x] rfl rfl (cell_one _ _ _) (one_one _ _) (by unfold maxLen; omega) (by omega) (by have := HBw.out; simp; omega) ?_; intro v3 w3 hown3 hgrow3 hnil3))
      have HOn : Hid (Own .u64 26 w3 B v3 (pv L (64 + c) (k + 1))) := hid (by
        rw [HNx.out]
        refine own_len (m := k + 1) ?_ (by rw [List.length_append, pv_len]; rfl)
        rw [rv_app]
        exact hown3)
      have HKn := hid (kept_grown HKa.out hgrow3 (fun j hj => by have := (World.ownsRow.lt HO2.out j hj).1; have := HBB.out; omega))
      go_roundw
      case rel => exact ⟨k + 1, by omega, by go_num, HOn, HKn⟩
      case measure => simp [intOf]; omega
    · have hke : k = n := by omega
      have HR0 : Hid (Rw .u64 wr u8 (pv L (a * 2 ^ (6 - l)) (2 ^ (6 - l)))) := hid (by rw [HA.out.2.2.2.1, HA.out.2.1, ← hke]; exact rw_own HO.out)
      have HKw := hid (kept_trans HK0.out HK.out)
      have hkn : decide ((k : Int) < (n : Int)) = false := by simp; omega
      have hkn2 : decide (k < n) = false := by simp; omega
      obtain ⟨va, vc, hv8⟩ := own_is HO.out
      rw [pv_len] at hv8
      subst hv8
      have HH : Hid ((a + 1) * 2 ^ (6 - l) ≤ 128) := hid (by rw [HA.out.2.2.2.1]; exact HA.out.2.2.1)
      have H1a := hid HA.out.1
      clear HO HK hke HA HB0 HK0 hk hlt hin hcb hci hn64 hn1 hi HNL
      generalize 6 - l = h0 at *
      go_wp2_with fail
      go_loopw [8] (fun v wr => ∃ h : Nat, Hid (Rw .u64 wr v (pv L (a * 2 ^ h) (2 ^ h))) ∧ Hid ((a + 1) * 2 ^ h ≤ 128) ∧ Hid (Kept w wr)) (fun v _ => lenV v)
      case atStart => exact ⟨h0, HR0, HH, HKw⟩
      case round =>
        obtain ⟨h, HR, HHr, HKr⟩ := hrel
        clear HR0 HH HKw
        cases h with
        | zero =>
          obtain ⟨ra, rc, hv, hrw⟩ := HR.out
          rw [pv_len] at hv hrw
          simp only [Nat.pow_zero] at hv hrw
          subst hv
          obtain ⟨g, e0, rfl, hcell⟩ := hrw (by omega)
          have c0 := hcell 0 (nod L a) (by rw [Nat.mul_one]; exact pv_get L a (by omega))
          rw [Nat.add_zero] at c0
          clear hrw hcell
          go_wp2_with fail
          go_ret
          exact ⟨rfl, HKr.out⟩
        | succ h =>
          obtain ⟨p', hp'⟩ : ∃ p', 2 ^ h = p' := ⟨_, rfl⟩
          have hq2 : 2 ^ (h + 1) = 2 * p' := by rw [Nat.pow_succ, hp']; omega
          rw [hq2] at HR HHr
          have HP' := hid hp'
          have hp1' : 1 ≤ p' := by rw [← hp']; exact Nat.pow_pos (by omega)
          have hp2' : p' ≤ 64 := by
            have h1 := HHr.out
            have : 1 * (2 * p') ≤ (a + 1) * (2 * p') := Nat.mul_le_mul_right _ (by omega)
            omega
          obtain ⟨ra, rc, hv, hrw⟩ := HR.out
          rw [pv_len] at hv hrw
          subst hv
          obtain ⟨g, e0, hra, hcell⟩ := hrw (by omega)
          subst hra
          have HC : Hid (∀ j, j < p' → wr.cell? ⟨g, e0 + 2 * j, none⟩ = some (.int .u64 (nod L (a * (2 * p') + 2 * j))) ∧ wr.cell? ⟨g, e0 + (2 * j + 1), none⟩ = some (.int .u64 (nod L (a * (2 * p') + (2 * j + 1))))) := hid (fun j hj => ⟨hcell (2 * j) _ (pv_get L _ (by omega)), hcell (2 * j + 1) _ (pv_get L _ (by omega))⟩)
          obtain ⟨q, hq⟩ : ∃ q, 2 * p' = q := ⟨_, rfl⟩
          have HNd : Hid (∀ j, j < p' → nod L (a * p' + j) = twoI (nod L (a * (2 * p') + 2 * j)) (nod L (a * (2 * p') + (2 * j + 1))) ∧ U (nod L (a * (2 * p') + 2 * j))) := hid (fun j hj => by
            obtain ⟨e1, e2⟩ := nod_pair L H1a.out hp1' HHr.out hj
            exact ⟨e1, nod_wf HW.out (by omega)⟩)
          rw [hq] at HC HNd ⊢
          have HQ := hid hq
          have hq1 : 1 < q := by omega
          have hq3 : q ≤ 128 := by omega
          obtain ⟨w5, hw5⟩ : ∃ w5, w5 = wr := ⟨_, rfl⟩
          subst hw5
          have HO5 := hid (built0 w5)
          have HK5 := hid (kept_alloc (kept_refl w5) (.cells #[] 26))
          clear hcell hrw hq hq2 hp' HR
          have hq4 : decide ((1 : Int) < (q : Int)) = true := by simp; omega
          have hq5 : decide (1 < q) = true := by simp; omega
          go_wp2_with fail
          go_loopw [10, 11] (fun up j wi => ∃ t : Nat, t ≤ p' ∧ j = .int .i64 ((2 * t : Nat) : Int) ∧ Hid (Own .u64 26 wi w5.heap.size up (pv L (a * p') t)) ∧ Hid (Kept w5 wi)) (fun _ j _ => 2 * p' - (intOf j).toNat)
          case atStart => exact ⟨0, Nat.zero_le _, rfl, HO5, HK5⟩
          case round =>
            obtain ⟨t, ht, rfl, HO, HK⟩ := hrel
            clear HO5 HK5
            obtain ⟨wi, hwi⟩ : ∃ wi, wi = wr := ⟨_, rfl⟩
            subst hwi
            by_cases hlt : t < p'
            · obtain ⟨d, hd⟩ : ∃ d, 2 * t = d := ⟨_, rfl⟩
              obtain ⟨d1, hd1⟩ : ∃ d1, 2 * t + 1 = d1 := ⟨_, rfl⟩
              obtain ⟨d2, hd2⟩ : ∃ d2, 2 * (t + 1) = d2 := ⟨_, rfl⟩
              have hSx := HC.out t hlt
              obtain ⟨hNx, hUx⟩ := HNd.out t hlt
              rw [hd1, hd] at hSx hNx
              rw [hd] at hUx ⊢
              have HUx := hid hUx
              have HNx : Hid (pv L (a * p') (t + 1) = pv L (a * p') t ++ [twoI (nod L (a * q + d)) (nod L (a * q + d1))]) := hid (by rw [pv_next, hNx])
              generalize nod L (a * q + d) = x at *
              generalize nod L (a * q + d1) = y at *
              have hdq : (d : Int) < (q : Int) := by have := HQ.out; omega
              have hd1q : (d1 : Int) < (q : Int) := by have := HQ.out; omega
              have hdd : ¬ (q : Int) ≤ (d : Int) := by omega
              have hdd1 : ¬ (q : Int) ≤ (d1 : Int) := by omega
              have hwd : IntKind.i64.wrap ((d : Int) + 1) = (d1 : Int) := by rw [IntWalk.i64_in _ (by omega)]; omega
              have hd2i : (d : Int) + 2 = (d2 : Int) := by omega
              have hdb : d ≤ 200 := by omega
              have HD2 := hid hd2
              have HD0 := hid hd
              obtain ⟨ua, uc, hup⟩ := own_is HO.out
              rw [pv_len] at hup
              subst hup
              have HK1 := hid (kept_drew HK.out)
              have HO1 := hid (own_stays HO.out (kept_drew (kept_refl wi)))
              have hS0 : wi.cell? ⟨g, e0 + d, none⟩ = some (.int .u64 x) ∧ wi.cell? ⟨g, e0 + d1, none⟩ = some (.int .u64 y) := ⟨(kept_cell HK.out (cell_lt hSx.1)).trans hSx.1, (kept_cell HK.out (cell_lt hSx.2)).trans hSx.2⟩
              have hSj : wi.drew.cell? ⟨g, e0 + d, none⟩ = some (.int .u64 x) ∧ wi.drew.cell? ⟨g, e0 + d1, none⟩ = some (.int .u64 y) := ⟨(kept_cell HK1.out (cell_lt hSx.1)).trans hSx.1, (kept_cell HK1.out (cell_lt hSx.2)).trans hSx.2⟩
              have HO2 := hid (World.ownsRow.alloc HO1.out (.cells #[.int .u64 (twoI x y)] 26))
              have HK2 := hid (kept_alloc HK1.out (.cells #[.int .u64 (twoI x y)] 26))
              have hSa : (wi.drew.alloc (.cells #[.int .u64 (twoI x y)] 26)).cell? ⟨g, e0 + d, none⟩ = some (.int .u64 x) ∧ (wi.drew.alloc (.cells #[.int .u64 (twoI x y)] 26)).cell? ⟨g, e0 + d1, none⟩ = some (.int .u64 y) := ⟨(kept_cell HK2.out (cell_lt hSx.1)).trans hSx.1, (kept_cell HK2.out (cell_lt hSx.2)).trans hSx.2⟩
              rw [pv_len] at HO2
              obtain ⟨v3, w3, hrun, hown3, hgrow3, hnil3⟩ := run_append_own (P := Try.prog) (wi.drew.alloc (.cells #[.int .u64 (twoI x y)] 26)) w5.heap.size 37 37 26 i0 (.int .u64 0) 1 8 Try.underlying37 HI.out.1 HI.out.2.1 HI.out.2.2.1 HI.out.2.2.2 rfl (by decide) _ _ _ HO2.out ⟨wi.drew.heap.size, 0, none⟩ 1 1 [.int .u64 (twoI x y)] rfl (cell_one _ _ _) (one_one _ _) (by unfold maxLen; omega) (by omega) HK2.out.2
              have HK3 := hid (kept_grown HK2.out hgrow3 (fun j hj => (World.ownsRow.lt HO2.out j hj).1))
              have hSb : w3.cell? ⟨g, e0 + d, none⟩ = some (.int .u64 x) ∧ w3.cell? ⟨g, e0 + d1, none⟩ = some (.int .u64 y) := ⟨(kept_cell HK3.out (cell_lt hSx.1)).trans hSx.1, (kept_cell HK3.out (cell_lt hSx.2)).trans hSx.2⟩
              have HO3 : Hid (Own .u64 26 w3 w5.heap.size v3 (pv L (a * p') (t + 1))) := hid (by
                rw [HNx.out]
                refine own_len (m := t + 1) ?_ (by rw [List.length_append, pv_len]; rfl)
                rw [rv_app]
                exact hown3)
              clear hown3 hgrow3 hnil3 hSx hNx hUx HO HK HO1 HK1 HO2 HK2 hd hd1 hd2
              go_wp2_with fail
              refine wp_region_noPanic ?_
              refine wp_region_held_drew (S := (fun w' => (w'.cell? ⟨g, e0 + d, none⟩ = some (.int .u64 x)) ∧ (w'.cell? ⟨g, e0 + d1, none⟩ = some (.int .u64 y)))) (by kernel_rfl) (by assumption) (fun hHeld => ?_)
              generalize wi.drew = wj at *
              refine wpAnyH_take (i := 0) (v := .slice ua t uc) rfl (by kernel_rfl) (by kernel_rfl) (by kernel_rfl) (fun _ _ _ h => h) (Or.inl ⟨by rfl, fun w hSw => by (try dsimp only at hSw); go_simp⟩) (by assumption) ?_
              try simp only [List.getElem_toArray, List.getElem_cons_zero, List.getElem_cons_succ, Act.put, List.setIfInBounds_toArray, List.set_cons_zero, List.set_cons_succ]
              refine wpAnyH_take (i := 1) (v := .slice (some ⟨g, e0, none⟩) q rc) rfl (by kernel_rfl) (by kernel_rfl) (by kernel_rfl) (fun _ _ _ h => h) (Or.inl ⟨by rfl, fun w hSw => by (try dsimp only at hSw); go_simp⟩) (by assumption) ?_
              try simp only [List.getElem_toArray, List.getElem_cons_zero, List.getElem_cons_succ, Act.put, List.setIfInBounds_toArray, List.set_cons_zero, List.set_cons_succ]
              refine wpAnyH_take (i := 2) (v := .int .i64 (d : Int)) rfl (by kernel_rfl) (by kernel_rfl) (by kernel_rfl) (fun _ _ _ h => h) (Or.inl ⟨by rfl, fun w hSw => by (try dsimp only at hSw); go_simp⟩) (by assumption) ?_
              try simp only [List.getElem_toArray, List.getElem_cons_zero, List.getElem_cons_succ, Act.put, List.setIfInBounds_toArray, List.set_cons_zero, List.set_cons_succ]
              refine wpAnyH_take (i := 3) (v := .pointer (some ⟨g, e0 + d, none⟩)) rfl (by kernel_rfl) (by kernel_rfl) (by kernel_rfl) (fun _ _ _ h => h) (Or.inl ⟨by rfl, fun w hSw => by (try dsimp only at hSw); go_simp⟩) (by assumption) ?_
              try simp only [List.getElem_toArray, List.getElem_cons_zero, List.getElem_cons_succ, Act.put, List.setIfInBounds_toArray, List.set_cons_zero, List.set_cons_succ]
              refine wpAnyH_take (i := 4) (v := .int .u64 x) rfl (by kernel_rfl) (by kernel_rfl) (by kernel_rfl) (fun _ _ _ h => h) (Or.inl ⟨by rfl, fun w hSw => by (try dsimp only at hSw); go_simp⟩) (by assumption) ?_
              try simp only [List.getElem_toArray, List.getElem_cons_zero, List.getElem_cons_succ, Act.put, List.setIfInBounds_toArray, List.set_cons_zero, List.set_cons_succ]
              refine wpAnyH_take (i := 5) (v := .slice (some ⟨g, e0, none⟩) q rc) rfl (by kernel_rfl) (by kernel_rfl) (by kernel_rfl) (fun _ _ _ h => h) (Or.inl ⟨by rfl, fun w hSw => by (try dsimp only at hSw); go_simp⟩) (by assumption) ?_
              try simp only [List.getElem_toArray, List.getElem_cons_zero, List.getElem_cons_succ, Act.put, List.setIfInBounds_toArray, List.set_cons_zero, List.set_cons_succ]
              refine wpAnyH_take (i := 6) (v := .int .i64 (d : Int)) rfl (by kernel_rfl) (by kernel_rfl) (by kernel_rfl) (fun _ _ _ h => h) (Or.inl ⟨by rfl, fun w hSw => by (try dsimp only at hSw); go_simp⟩) (by assumption) ?_
              try simp only [List.getElem_toArray, List.getElem_cons_zero, List.getElem_cons_succ, Act.put, List.setIfInBounds_toArray, List.set_cons_zero, List.set_cons_succ]
              refine wpAnyH_take (i := 7) (v := .int .i64 (d1 : Int)) rfl (by kernel_rfl) (by kernel_rfl) (by kernel_rfl) (fun _ _ _ h => h) (Or.inl ⟨by rfl, fun w hSw => by (try dsimp only at hSw); go_simp⟩) (by assumption) ?_
              try simp only [List.getElem_toArray, List.getElem_cons_zero, List.getElem_cons_succ, Act.put, List.setIfInBounds_toArray, List.set_cons_zero, List.set_cons_succ]
              refine wpAnyH_take (i := 8) (v := .pointer (some ⟨g, e0 + d1, none⟩)) rfl (by kernel_rfl) (by kernel_rfl) (by kernel_rfl) (fun _ _ _ h => h) (Or.inl ⟨by rfl, fun w hSw => by (try dsimp only at hSw); go_simp⟩) (by assumption) ?_
              try simp only [List.getElem_toArray, List.getElem_cons_zero, List.getElem_cons_succ, Act.put, List.setIfInBounds_toArray, List.set_cons_zero, List.set_cons_succ]
              refine wpAnyH_take (i := 9) (v := .int .u64 y) rfl (by kernel_rfl) (by kernel_rfl) (by kernel_rfl) (fun _ _ _ h => h) (Or.inl ⟨by rfl, fun w hSw => by (try dsimp only at hSw); go_simp⟩) (by assumption) ?_
              try simp only [List.getElem_toArray, List.getElem_cons_zero, List.getElem_cons_succ, Act.put, List.setIfInBounds_toArray, List.set_cons_zero, List.set_cons_succ]
              refine wpAnyH_ready (rs := [10]) (by kernel_rfl) (by simp) ?_
              refine AllReadyH.cons (i := 10) rfl (fun K hK => ?_) AllReadyH.nil
              go_simp
              refine (reftwo_any x y HUx.out _).mono ?_
              rintro e wz ⟨rfl, rfl⟩
              have hS := hSj
              clear hHeld
              show K _ _
              refine hK.out _ _ (by assumption) (fun hHeld => ?_)
              clear hK K
              try simp only [List.getElem_toArray, List.getElem_cons_zero, List.getElem_cons_succ, Act.put, List.setIfInBounds_toArray, List.set_cons_zero, List.set_cons_succ]
              refine wpAnyH_ready (rs := [11]) (by kernel_rfl) (by simp) ?_
              refine AllReadyH.cons (i := 11) rfl (fun K hK => ?_) AllReadyH.nil
              go_simp
              have hS := hSa
              clear hHeld
              show K _ _
              refine hK.out _ _ (by assumption) (fun hHeld => ?_)
              clear hK K
              try simp only [List.getElem_toArray, List.getElem_cons_zero, List.getElem_cons_succ, Act.put, List.setIfInBounds_toArray, List.set_cons_zero, List.set_cons_succ]
              refine wpAnyH_ready (rs := [12]) (by kernel_rfl) (by simp) ?_
              refine AllReadyH.cons (i := 12) rfl (fun K hK => ?_) AllReadyH.nil
              refine op_run (.tmp 56) (.tmp 67) 37 37 rfl _ _ _ rfl rfl hrun ?_
              have hS := hSb
              clear hHeld
              show K _ _
              refine hK.out _ _ (by assumption) (fun hHeld => ?_)
              clear hK K
              try simp only [List.getElem_toArray, List.getElem_cons_zero, List.getElem_cons_succ, Act.put, List.setIfInBounds_toArray, List.set_cons_zero, List.set_cons_succ]
              refine wpAnyH_take (i := 13) (v := v3) rfl (by kernel_rfl) (by kernel_rfl) (by kernel_rfl) (fun _ _ _ h => h) (Or.inl ⟨by rfl, fun w hSw => by (try dsimp only at hSw); go_simp⟩) (by assumption) ?_
              try simp only [List.getElem_toArray, List.getElem_cons_zero, List.getElem_cons_succ, Act.put, List.setIfInBounds_toArray, List.set_cons_zero, List.set_cons_succ]
              refine wpAnyH_done (by kernel_rfl) ?_ _
              refine NoPanic.normal ?_
              clear hSj hSa hSb hrun hS0 hHeld
              go_wp2_with fail
              go_roundw
              case rel => exact ⟨t + 1, by omega, by rw [HD2.out], HO3, HK3⟩
              case measure => simp [intOf]; have := HD0.out; have := HD2.out; omega
            · have hte : t = p' := by omega
              subst hte
              have HRn := hid (rw_own HO.out)
              rw [← HP'.out] at HRn
              have HHn : Hid ((a + 1) * 2 ^ h ≤ 128) := hid (by
                rw [HP'.out]
                have := HHr.out
                have : (a + 1) * t ≤ (a + 1) * (2 * t) := Nat.mul_le_mul_left _ (by omega)
                omega)
              have HKn := hid (kept_trans HKr.out HK.out)
              obtain ⟨ua, uc, hup⟩ := own_is HO.out
              rw [pv_len] at hup
              subst hup
              have hd : decide (((2 * t : Nat) : Int) < (q : Int)) = false := by have := HQ.out; simp; omega
              have HT2 : Hid (t < 2 * t) := hid (by omega)
              generalize hd0 : 2 * t = d at *
              have hdd : decide (d < q) = false := by have := HQ.out; simp; omega
              clear HC HNd HHr HKr HO HK ht hlt hd0
              go_wp2_with fail
              go_roundw
              case rel => exact ⟨h, HRn, HHn, HKn⟩
              case measure => simp [lenV]; have := HQ.out; have := HT2.out; omega
set_option maxHeartbeats 1600000 in
theorem refnode_all {L : Nat → Int} (hL : Wl L) (l i : Int) (w : World) :
    Calls Try.prog 14 #[.agg (nv L 64), .int .i64 l, .int .i64 i] w fun e w' => e = .returned (.int .u64 (nodI L l i)) ∧ Kept w w' := by
  by_cases g : 0 ≤ l ∧ l ≤ 6 ∧ 0 ≤ i ∧ i < 2 ^ l.toNat
  · have HE : nodI L l i = nod L (2 ^ l.toNat + i.toNat) := if_pos g
    rw [HE]
    obtain ⟨g1, g2, g3, g4⟩ := g
    obtain ⟨l, rfl⟩ := Int.eq_ofNat_of_zero_le g1
    obtain ⟨i, rfl⟩ := Int.eq_ofNat_of_zero_le g3
    have g5 : i < 2 ^ l := by
      have : ((i : Nat) : Int) < ((2 ^ l : Nat) : Int) := by simpa using g4
      omega
    exact refnode_ok hL l i (by omega) g5 w
  · have HE : nodI L l i = 0 := if_neg g
    rw [HE]
    have HK := hid (kept_alloc (kept_refl w) (.cells (nv L 64) 31))
    generalize nv L 64 = nl at *
    clear HE hL
    by_cases g1 : l < 0
    · have e1 : decide (l < 0) = true := by simpa using g1
      clear g g1
      go_enter Try.func14, Try.ntmps14
      go_wp2_with fail
      go_ret
      exact ⟨rfl, HK.out⟩
    · have e1 : decide (l < 0) = false := by simpa using g1
      by_cases g2 : 6 < l
      · have e2 : decide (6 < l) = true := by simpa using g2
        clear g g1 g2
        go_enter Try.func14, Try.ntmps14
        go_wp2_with fail
        go_ret
        exact ⟨rfl, HK.out⟩
      · have e2 : decide (6 < l) = false := by simpa using g2
        by_cases g3 : i < 0
        · have e3 : decide (i < 0) = true := by simpa using g3
          clear g g1 g2 g3
          go_enter Try.func14, Try.ntmps14
          go_wp2_with fail
          go_ret
          exact ⟨rfl, HK.out⟩
        · have e3 : decide (i < 0) = false := by simpa using g3
          obtain ⟨l, rfl⟩ := Int.eq_ofNat_of_zero_le (show 0 ≤ l by omega)
          obtain ⟨p, hp⟩ : ∃ p, 2 ^ l = p := ⟨_, rfl⟩
          have hpw : (2 : Int) ^ l = (p : Int) := by rw [← hp]; simp
          have hp64 : p ≤ 64 := by rw [← hp]; exact Nat.le_trans (Nat.pow_le_pow_right (by omega) (show l ≤ 6 by omega)) (by omega)
          have hl6 : l ≤ 6 := by omega
          have e4 : decide ((p : Int) ≤ i) = true := by
            have : ¬ i < (p : Int) := fun h => g ⟨by omega, by omega, by omega, by rw [← hpw] at h; simpa using h⟩
            simp; omega
          clear g g1 g2 g3 hp
          go_enter Try.func14, Try.ntmps14
          go_wp2_with fail
          go_ret
          exact ⟨rfl, HK.out⟩
end Go.Proofs.Ytpfelbbhhoilpaa
