/- The contract of the reference's Walk. -/
import Derived.Test.YtpfelbbhhoilpaaRefApart
namespace Go.Proofs.Ytpfelbbhhoilpaa
open Go.ChangeShapes Go.WideShapes Go.ChangeAt Go.RowKit
set_option linter.unusedVariables false
set_option linter.unusedSimpArgs false
set_option maxRecDepth 100000

theorem exec_load31 {op : Oper} {act : Act} {w : World} (x : Operand) {Z : Nat} {cs : Array Value} (ho : op.op = .load 31 x) (hx : act.eval x = .pointer (some ⟨Z, 0, none⟩)) (hld : (loadVar 31 ⟨Z, 0, none⟩).run Try.prog w = .ok (.agg cs) w) : (execOp act.eval op).run Try.prog w = .ok (.value (.agg cs)) w := by
  unfold execOp
  simp only [ho, hx, Instr.loadAt, Instr.sureAddr, Sem.run_bind, Sem.run_pure, Result.andThen_ok, hld]
theorem wk_few (N M : Nat → Int) {l i : Nat} (hl : l ≤ 6) (hi : i < 2 ^ l) : (wk N M (2 ^ l + i)).length ≤ 64 ∧ cn N M (2 ^ l + i) ≤ 127 := by
  have e : 2 ^ l * 2 ^ (6 - l) = 64 := by rw [← Nat.pow_add, show l + (6 - l) = 6 by omega]
  have hn : 2 ^ (6 - l) ≤ 2 ^ 6 := Nat.pow_le_pow_right (by omega) (by omega)
  have h1 : 2 ^ l * 2 ^ (6 - l) ≤ (2 ^ l + i) * 2 ^ (6 - l) := Nat.mul_le_mul_right _ (by omega)
  have h2 : (2 ^ l + i + 1) * 2 ^ (6 - l) ≤ (2 ^ l + 2 ^ l) * 2 ^ (6 - l) := Nat.mul_le_mul_right _ (by omega)
  rw [Nat.add_mul (2 ^ l) (2 ^ l), e] at h2
  obtain ⟨_, _, h3, _, h5⟩ := wk_lies N M (6 - l) (2 ^ l + i) (by omega) h2
  omega
theorem own_some {w : World} {B : Nat} {v : Value} {xs : List Int} (h : Own .i64 3 w B v xs) (hn : v ≠ .slice none 0 0) : ∃ g c, v = .slice (some ⟨g, 0, none⟩) xs.length c := by
  rcases h.2 with ⟨e, _⟩ | ⟨g, cap, cur, e, _⟩
  · exact absurd e hn
  · exact ⟨g, cap, e⟩
theorem builtone (w : World) (i : Nat) : Own .i64 3 (w.alloc (.cells #[.int .i64 (i : Int)] 3)) w.heap.size (.slice (some ⟨w.heap.size, 0, none⟩) 1 1) (cs [i]) := own_built .i64 3 w _ (Nat.le_refl _) (cs [i]) (by simp [cs])
/- What it answers and leaves. -/
def RWalkC (N M : Nat → Int) (k : Nat) (w : World) (e : Ending) (w' : World) : Prop := ∃ v, e = .returned (.tuple #[v, .int .i64 (cn N M k : Int)]) ∧ Own .i64 3 w' w.heap.size v (cs (wk N M k)) ∧ v ≠ .slice none 0 0 ∧ Kept w w'
set_option maxHeartbeats 6400000 in
theorem refwalk_step {L M : Nat → Int} (hL : Wl L) (hM : Wl M) (l i : Nat) (hl : l ≤ 6) (hi : i < 2 ^ l) (w : World)
    (HA : Hid (l < 6 → ∀ w : World, Calls Try.prog 19 #[.agg (nv L 64), .agg (nv M 64), .int .i64 ((l + 1 : Nat) : Int), .int .i64 ((2 * i : Nat) : Int)] w (RWalkC (nod L) (nod M) (2 * (2 ^ l + i)) w)))
    (HB : Hid (l < 6 → ∀ w : World, Calls Try.prog 19 #[.agg (nv L 64), .agg (nv M 64), .int .i64 ((l + 1 : Nat) : Int), .int .i64 ((2 * i + 1 : Nat) : Int)] w (RWalkC (nod L) (nod M) (2 * (2 ^ l + i) + 1) w))) :
    Calls Try.prog 19 #[.agg (nv L 64), .agg (nv M 64), .int .i64 (l : Int), .int .i64 (i : Int)] w (RWalkC (nod L) (nod M) (2 ^ l + i) w) := by
  have A0 := at_new w (nv L 64) 31
  have K0 := kept_alloc (kept_refl w) (.cells (nv L 64) 31)
  obtain ⟨w0, hw0⟩ : ∃ w0, w.alloc (.cells (nv L 64) 31) = w0 := ⟨_, rfl⟩
  obtain ⟨P, hP⟩ : ∃ P, w.heap.size = P := ⟨_, rfl⟩
  rw [hw0] at A0 K0
  rw [hP] at A0
  have A1 := at_new w0 (nv M 64) 31
  have K1 := kept_alloc (kept_refl w0) (.cells (nv M 64) 31)
  obtain ⟨w1, hw1⟩ : ∃ w1, w0.alloc (.cells (nv M 64) 31) = w1 := ⟨_, rfl⟩
  obtain ⟨Q, hQ⟩ : ∃ Q, w0.heap.size = Q := ⟨_, rfl⟩
  rw [hw1] at A1 K1
  rw [hQ] at A1
  have A2 := at_kept A0 K1
  have HKw := hid (kept_trans K0 K1)
  have HN1 := hid (fun u => refnode_ok hL l i hl hi u)
  have HN2 := hid (fun u => refnode_ok hM l i hl hi u)
  have HS : Hid (∀ u, Kept w1 u → (loadVar 31 ⟨P, 0, none⟩).run Try.prog u = .ok (.agg (nv L 64)) u ∧ (loadVar 31 ⟨Q, 0, none⟩).run Try.prog u = .ok (.agg (nv M 64)) u) := hid (fun u k => ⟨load31 (at_kept A2 k), load31 (at_kept A1 k)⟩)
  have ha1 : 1 ≤ 2 ^ l + i := by have : 0 < 2 ^ l := Nat.pow_pos (by omega); omega
  have HC : Hid (l < 6 → 2 ^ l + i < 64) := hid (fun h => by
    have : 2 ^ (l + 1) ≤ 2 ^ 6 := Nat.pow_le_pow_right (by omega) h
    rw [Nat.pow_succ] at this
    omega)
  have HC6 : Hid (l = 6 → 64 ≤ 2 ^ l + i ∧ 2 ^ l + i - 64 = i) := hid (fun h => by subst h; omega)
  have hi64 : i < 64 := Nat.lt_of_lt_of_le hi (by have : 2 ^ l ≤ 2 ^ 6 := Nat.pow_le_pow_right (by omega) hl; omega)
  have HFew := hid (wk_few (nod L) (nod M) hl hi)
  clear hL hM A0 A1 A2 K0 K1 hi
  generalize 2 ^ l + i = a at *
  generalize nv L 64 = nl at *
  generalize nv M 64 = nm at *
  have HK := hid (kept_drew (kept_refl w1))
  have hS0 := HS.out _ (kept_drew (kept_refl w1))
  obtain ⟨y1, hy1⟩ : ∃ y, nod L a = y := ⟨_, rfl⟩
  obtain ⟨y2, hy2⟩ : ∃ y, nod M a = y := ⟨_, rfl⟩
  have HY := hid (And.intro hy1 hy2)
  rw [hy1] at HN1
  rw [hy2] at HN2
  clear hy1 hy2
  go_enter Try.func19, Try.ntmps19
  go_wp2_with fail
  clear hw0 hw1 hP hQ
  refine wp_region_noPanic ?_
  refine wp_region_held_drew (S := (fun w' => (loadVar 31 ⟨P, 0, none⟩).run Try.prog w' = .ok (.agg nl) w' ∧ (loadVar 31 ⟨Q, 0, none⟩).run Try.prog w' = .ok (.agg nm) w')) (by kernel_rfl) (by assumption) (fun hHeld => ?_)
  generalize w1.drew = w2 at *
  refine wpAnyH_take (i := 0) (v := .agg nl) rfl (by kernel_rfl) (by kernel_rfl) (by kernel_rfl) (fun _ _ _ h => h) (Or.inl ⟨by rfl, fun w hSw => exec_load31 _ rfl rfl hSw.1⟩) (by assumption) ?_
  try simp only [List.getElem_toArray, List.getElem_cons_zero, List.getElem_cons_succ, Act.put, List.setIfInBounds_toArray, List.set_cons_zero, List.set_cons_succ]
  refine wpAnyH_take (i := 1) (v := .int .i64 (l : Int)) rfl (by kernel_rfl) (by kernel_rfl) (by kernel_rfl) (fun _ _ _ h => h) (Or.inl ⟨by rfl, fun w hSw => by (try dsimp only at hSw); go_simp⟩) (by assumption) ?_
  try simp only [List.getElem_toArray, List.getElem_cons_zero, List.getElem_cons_succ, Act.put, List.setIfInBounds_toArray, List.set_cons_zero, List.set_cons_succ]
  refine wpAnyH_take (i := 2) (v := .int .i64 (i : Int)) rfl (by kernel_rfl) (by kernel_rfl) (by kernel_rfl) (fun _ _ _ h => h) (Or.inl ⟨by rfl, fun w hSw => by (try dsimp only at hSw); go_simp⟩) (by assumption) ?_
  try simp only [List.getElem_toArray, List.getElem_cons_zero, List.getElem_cons_succ, Act.put, List.setIfInBounds_toArray, List.set_cons_zero, List.set_cons_succ]
  refine wpAnyH_take (i := 4) (v := .agg nm) rfl (by kernel_rfl) (by kernel_rfl) (by kernel_rfl) (fun _ _ _ h => h) (Or.inl ⟨by rfl, fun w hSw => exec_load31 _ rfl rfl hSw.2⟩) (by assumption) ?_
  try simp only [List.getElem_toArray, List.getElem_cons_zero, List.getElem_cons_succ, Act.put, List.setIfInBounds_toArray, List.set_cons_zero, List.set_cons_succ]
  refine wpAnyH_take (i := 5) (v := .int .i64 (l : Int)) rfl (by kernel_rfl) (by kernel_rfl) (by kernel_rfl) (fun _ _ _ h => h) (Or.inl ⟨by rfl, fun w hSw => by (try dsimp only at hSw); go_simp⟩) (by assumption) ?_
  try simp only [List.getElem_toArray, List.getElem_cons_zero, List.getElem_cons_succ, Act.put, List.setIfInBounds_toArray, List.set_cons_zero, List.set_cons_succ]
  refine wpAnyH_take (i := 6) (v := .int .i64 (i : Int)) rfl (by kernel_rfl) (by kernel_rfl) (by kernel_rfl) (fun _ _ _ h => h) (Or.inl ⟨by rfl, fun w hSw => by (try dsimp only at hSw); go_simp⟩) (by assumption) ?_
  try simp only [List.getElem_toArray, List.getElem_cons_zero, List.getElem_cons_succ, Act.put, List.setIfInBounds_toArray, List.set_cons_zero, List.set_cons_succ]
  refine wpAnyH_ready (rs := [3]) (by kernel_rfl) (by simp) ?_
  refine AllReadyH.cons (i := 3) rfl (fun K hK => ?_) AllReadyH.nil
  go_simp
  refine (HN1.out _).mono ?_
  rintro e w3 ⟨rfl, k3⟩
  replace HK := hid (kept_trans HK.out k3)
  clear k3
  have hS := HS.out _ HK.out
  clear hHeld
  show K _ _
  refine hK.out _ _ (by assumption) (fun hHeld => ?_)
  clear hK K
  try simp only [List.getElem_toArray, List.getElem_cons_zero, List.getElem_cons_succ, Act.put, List.setIfInBounds_toArray, List.set_cons_zero, List.set_cons_succ]
  refine wpAnyH_ready (rs := [7]) (by kernel_rfl) (by simp) ?_
  refine AllReadyH.cons (i := 7) rfl (fun K hK => ?_) AllReadyH.nil
  go_simp
  refine (HN2.out _).mono ?_
  rintro e w4 ⟨rfl, k4⟩
  replace HK := hid (kept_trans HK.out k4)
  clear k4
  have hS := HS.out _ HK.out
  clear hHeld
  show K _ _
  refine hK.out _ _ (by assumption) (fun hHeld => ?_)
  clear hK K
  try simp only [List.getElem_toArray, List.getElem_cons_zero, List.getElem_cons_succ, Act.put, List.setIfInBounds_toArray, List.set_cons_zero, List.set_cons_succ]
  refine wpAnyH_take (i := 8) (v := .bool (y1 == y2)) rfl (by kernel_rfl) (by kernel_rfl) (by kernel_rfl) (fun _ _ _ h => h) (Or.inl ⟨by rfl, fun w hSw => by (try dsimp only at hSw); go_simp⟩) (by assumption) ?_
  try simp only [List.getElem_toArray, List.getElem_cons_zero, List.getElem_cons_succ, Act.put, List.setIfInBounds_toArray, List.set_cons_zero, List.set_cons_succ]
  refine wpAnyH_done (by kernel_rfl) ?_ _
  refine NoPanic.normal ?_
  have HK1 := HK
  replace HK := hid (kept_trans HKw.out HK.out)
  have HKs : Hid (∀ u, Kept w4 u → (loadVar 31 ⟨P, 0, none⟩).run Try.prog u = .ok (.agg nl) u ∧ (loadVar 31 ⟨Q, 0, none⟩).run Try.prog u = .ok (.agg nm) u) := hid (fun u k => HS.out u (kept_trans HK1.out k))
  clear hHeld hS hS0 HN1 HN2 HS HKw HK1
  obtain ⟨hy1, hy2⟩ := HY.out
  by_cases hy : y1 = y2
  · have hyy : (y1 == y2) = true := by simpa using hy
    have HE := hid (wk_eq (N := nod L) (M := nod M) (k := a) (by rw [hy1, hy2, hy]))
    have HEnd : Hid (RWalkC (nod L) (nod M) a w (.returned (.tuple #[.slice (some ⟨w4.heap.size, 0, none⟩) 0 0, .int .i64 1])) (w4.alloc (.cells #[] 3))) := hid ⟨_, by rw [HE.out.2]; rfl, by rw [HE.out.1]; exact own_low (built0i w4) HK.out.2, by simp, kept_alloc HK.out _⟩
    rw [hyy]
    clear hyy hy hy1 hy2 HY HE
    go_wp2_with fail
    go_ret2
    exact HEnd.out
  · have hyy : (y1 == y2) = false := by simpa using hy
    have hne : nod L a ≠ nod M a := by rw [hy1, hy2]; exact hy
    rw [hyy]
    clear hyy hy hy1 hy2 HY
    by_cases h6 : l = 6
    · have HE := hid (wk_leaf hne (HC6.out h6).1)
      rw [(HC6.out h6).2] at HE
      have HEnd : Hid (RWalkC (nod L) (nod M) a w (.returned (.tuple #[.slice (some ⟨w4.heap.size, 0, none⟩) 1 1, .int .i64 1])) (w4.alloc (.cells #[.int .i64 (i : Int)] 3))) := hid ⟨_, by rw [HE.out.2]; rfl, by rw [HE.out.1]; exact own_low (builtone w4 i) HK.out.2, by simp, kept_alloc HK.out _⟩
      have e6 : ((l : Int) == 6) = true := by simp; omega
      clear HE hne h6
      go_wp2_with fail
      go_ret2
      exact HEnd.out
    · have h5 : l < 6 := by omega
      have e6 : ((l : Int) == 6) = false := by simp; omega
      have HE := hid (wk_up hne ha1 (HC.out h5))
      replace HA := hid (HA.out h5)
      replace HB := hid (HB.out h5)
      obtain ⟨l1, hl1⟩ : ∃ l1, l + 1 = l1 := ⟨_, rfl⟩
      obtain ⟨i2, hi2⟩ : ∃ i2, 2 * i = i2 := ⟨_, rfl⟩
      obtain ⟨i3, hi3⟩ : ∃ i3, 2 * i + 1 = i3 := ⟨_, rfl⟩
      rw [hl1, hi2] at HA
      rw [hl1, hi3] at HB
      have q1 : (l : Int) + 1 = (l1 : Int) := by omega
      have q2 : 2 * (i : Int) = (i2 : Int) := by omega
      have q3 : (i2 : Int) + 1 = (i3 : Int) := by omega
      have q4 : i2 ≤ 200 ∧ l ≤ 6 := by omega
      have HLA := hid (HKs.out w4 (kept_refl w4))
      clear hne h6 h5 hl1 hi2 hi3
      go_wp2_with (first | (refine wpList_load31 rfl _ rfl P rfl nl HLA.out.1 ?_) | (refine wpList_load31 rfl _ rfl Q rfl nm HLA.out.2 ?_))
      refine (HA.out w4).mono ?_
      rintro e w5 ⟨v5, rfl, o5, n5, k5⟩
      have HLB := hid (HKs.out w5 k5)
      have HO5 := hid o5
      have HN5 := hid n5
      have HK5 := hid (kept_trans HK.out k5)
      have HB5 := hid k5.2
      clear o5 n5 k5 HA HLA
      go_wp2_with (first | (refine wpList_load31 rfl _ rfl P rfl nl HLB.out.1 ?_) | (refine wpList_load31 rfl _ rfl Q rfl nm HLB.out.2 ?_))
      refine (HB.out w5).mono ?_
      rintro e w6 ⟨v6, rfl, o6, n6, k6⟩
      obtain ⟨i0, hi0, hz0, hz1, hz2⟩ := info_parts (P := Try.prog) (e := 3) info3
      have HI := hid (And.intro hi0 (And.intro hz0 (And.intro hz1 hz2)))
      have HO := hid (own_low (own_stays HO5.out k6) HK.out.2)
      have HK6 := hid (kept_trans HK5.out k6)
      obtain ⟨g5, c5, e5⟩ := own_some HO.out HN5.out
      obtain ⟨g6, c6, e6⟩ := own_some o6 n6
      subst e5 e6
      have HV6 := hid o6
      obtain ⟨lA, hA⟩ : ∃ lA, wk (nod L) (nod M) (2 * a) = lA := ⟨_, rfl⟩
      obtain ⟨lB, hB⟩ : ∃ lB, wk (nod L) (nod M) (2 * a + 1) = lB := ⟨_, rfl⟩
      obtain ⟨cA, hcA⟩ : ∃ cA, cn (nod L) (nod M) (2 * a) = cA := ⟨_, rfl⟩
      obtain ⟨cB, hcB⟩ : ∃ cB, cn (nod L) (nod M) (2 * a + 1) = cB := ⟨_, rfl⟩
      rw [hA, hB, hcA, hcB] at HE
      rw [hA] at HO
      rw [hB] at HV6
      rw [hcA, hcB, hA, hB]
      have hfl : lA.length + lB.length ≤ 64 ∧ 1 + cA + cB ≤ 127 := by
        have h1 := HFew.out
        rw [HE.out.1, HE.out.2] at h1
        simpa using h1
      have HEnd : Hid (∀ v u, Own .i64 3 u w.heap.size v (cs lA ++ cs lB) → v ≠ .slice none 0 0 → Kept w u → RWalkC (nod L) (nod M) a w (.returned (.tuple #[v, .int .i64 (((1 + cA + cB : Nat)) : Int)])) u) := hid (fun v u h1 h2 h3 => ⟨v, by rw [HE.out.2], by rw [HE.out.1, cs_app]; exact h1, h2, h3⟩)
      have HNews : Hid (∀ j u, (rv .i64 (cs lB))[j]? = some u → w6.cell? ((⟨g6, 0, none⟩ : Addr).add j) = some u) := hid (fun j u hu => World.ownsRow.cells HV6.out (g := g6) rfl j u hu)
      obtain ⟨qa, hqa⟩ : ∃ q, (cs lA).length = q := ⟨_, rfl⟩
      obtain ⟨qb, hqb⟩ : ∃ q, (cs lB).length = q := ⟨_, rfl⟩
      obtain ⟨s1, hs1⟩ : ∃ s1, 1 + cA = s1 := ⟨_, rfl⟩
      obtain ⟨s2, hs2⟩ : ∃ s2, 1 + cA + cB = s2 := ⟨_, rfl⟩
      have t1 : 1 + (cA : Int) = (s1 : Int) := by omega
      have t2 : (s1 : Int) + (cB : Int) = (s2 : Int) := by omega
      have t3 : cA ≤ 127 ∧ s1 ≤ 128 ∧ s2 ≤ 200 ∧ qa ≤ 64 ∧ qb ≤ 64 := by rw [cs_len] at hqa hqb; omega
      have HO7 : Hid (w6.ownsRow w.heap.size 3 1 (.slice (some ⟨g5, 0, none⟩) qa c5) qa (rv .i64 (cs lA))) := hid (by
        have h := HO.out
        unfold Own at h
        rw [hqa] at h
        exact h)
      have HQ := hid (And.intro hqa hqb)
      rw [hs2] at HEnd
      rw [hqa, hqb]
      have HBw : Hid (w.heap.size ≤ w6.heap.size) := hid HK6.out.2
      clear hqa hqb hs1 hs2 hA hB hcA hcB HO HO5 HN5 o6 n6 k6 HE HFew HLB HB hfl HK5 HB5 HKs HK hi0 hz0 hz1 hz2 q1 q2 q3 hS HC HC6
      go_wp2_with (at_builtin; go_must (refine wpList_append_own _ rfl (.tmp 49) (.tmp 50) 40 rfl w.heap.size 3 i0 (.int .i64 0) 1 8 Try.underlying40 HI.out.1 HI.out.2.1 HI.out.2.2.1 HI.out.2.2.2 rfl (by decide) _ _ _ rfl HO7.out ⟨g6, 0, none⟩ qb c6 (rv .i64 (cs lB)) rfl (by rw [rv_len, HQ.out.2, Nat.mul_one]) HNews.out (rv_one _ _) (by unfold maxLen; omega) (by omega) HBw.out ?_; intro v7 w7 hown7 hgrow7 hnil7))
      go_ret2
      refine HEnd.out _ _ ?_ (fun e => ?_) (kept_grown HK6.out hgrow7 (fun j hj => (World.ownsRow.lt HO7.out j hj).1))
      · refine own_len (m := qa + qb) ?_ (by rw [List.length_append, HQ.out.1, HQ.out.2])
        rw [rv_app]
        exact hown7
      · have := (hnil7.1 e).1
        cases this
theorem refwalk_any {L M : Nat → Int} (hL : Wl L) (hM : Wl M) : ∀ (d l i : Nat), l + d = 6 → i < 2 ^ l → ∀ w : World, Calls Try.prog 19 #[.agg (nv L 64), .agg (nv M 64), .int .i64 (l : Int), .int .i64 (i : Int)] w (RWalkC (nod L) (nod M) (2 ^ l + i) w)
  | 0, l, i, hd, hi, w => refwalk_step hL hM l i (by omega) hi w (hid (fun h => by omega)) (hid (fun h => by omega))
  | d + 1, l, i, hd, hi, w => by
    have e : 2 ^ (l + 1) = 2 * 2 ^ l := by rw [Nat.pow_succ]; omega
    refine refwalk_step hL hM l i (by omega) hi w (hid (fun h u => ?_)) (hid (fun h u => ?_))
    · have := refwalk_any hL hM d (l + 1) (2 * i) (by omega) (by omega) u
      rw [show 2 ^ (l + 1) + 2 * i = 2 * (2 ^ l + i) by omega] at this
      exact this
    · have := refwalk_any hL hM d (l + 1) (2 * i + 1) (by omega) (by omega) u
      rw [show 2 ^ (l + 1) + (2 * i + 1) = 2 * (2 ^ l + i) + 1 by omega] at this
      exact this
end Go.Proofs.Ytpfelbbhhoilpaa
