/- The contract of takeOut. A wheel has at most 1000 items. -/
import Derived.Test.YthgbdaladngpdaaGreatP07
import Derived.Deep.CutBlock
import Derived.Deep.DeepCutAuto
/- The contract of takeOut. A wheel has at most 1000 items. -/
namespace Go.Proofs.YthgbdaladngpdaaGreat.Whl
open Go.ChangeShapes Go.WideShapes Go.ChangeAt Go.RowKit
set_option linter.unusedVariables false
set_option maxRecDepth 100000
set_option linter.unusedSimpArgs false

/- All that is known of a wheel. -/
structure GL (w : World) (F : Nat → Prop) (X m : Nat) (V : Nat → Value) (L : Nat → List It) (g : Int → Option (Nat × Nat)) : Prop where
  mem : Wm w F X m V L g (flat L).length
  full : Full L g
  heap : ∀ b, b < 64 → Heap (L b)
  wf : ∀ x ∈ flat L, Wf x.2 ∧ Wu x.1
theorem gl_kept {w w' : World} {F : Nat → Prop} {X m : Nat} {V : Nat → Value} {L : Nat → List It} {g : Int → Option (Nat × Nat)} (h : GL w F X m V L g) (k : Kept w w') : GL w' F X m V L g := ⟨wm_kept h.mem k, h.full, h.heap, h.wf⟩
theorem heaps_upd {L : Nat → List It} {b : Nat} {l : List It} (h : ∀ d, d < 64 → Heap (L d)) (hl : Heap l) : ∀ d, d < 64 → Heap (upd L b l d) := fun d hd => by
  unfold upd; split
  · exact hl
  · exact h d hd
theorem len_out {L : Nat → List It} {b : Nat} (hb : b < 64) {l : List It} {x : It} (h : (L b).Perm (x :: l)) : (flat L).length = (flat (upd L b l)).length + 1 := by
  rw [(flat_out hb h).length_eq]; rfl
theorem res1 {fn : Func} {p : Tmp} (h : fn.results = #[.cell p 123]) (tmps : Array Value) {w : World} {X T : Nat} {v0 v1 : Value} (hp : tmps.getD p undef = .pointer (some ⟨X, 0, none⟩)) (hA : At w X #[v0, v1] T) :
    (results fn tmps).run Tryz.prog w = .ok (.agg #[v0, v1]) w := by
  obtain ⟨c0, c1, -⟩ := at_cells2 hA
  have hp' : tmps[p]?.getD undef = .pointer (some ⟨X, 0, none⟩) := by simpa using hp
  simp [results, h, go_sem, hp', c0, c1]
/- What it leaves. -/
def OutC (F : Nat → Prop) (X m : Nat) (L : Nat → List It) (b : Nat) (x : It) (w : World) (e : Ending) (w' : World) : Prop :=
  e = .returned (.agg #[.int .u64 x.1, .int .i64 x.2]) ∧ Tn F w w' ∧ ∃ V' l' g', GL w' F X m V' (upd L b l') g' ∧ (L b).Perm (x :: l')
set_option maxHeartbeats 3200000 in
theorem take_any {F : Nat → Prop} {X m : Nat} {V : Nat → Value} {L : Nat → List It} {g : Int → Option (Nat × Nat)} (b i : Nat) (x : It) (hn : (flat L).length ≤ 1000) (hb : b < 64) (hx : (L b)[i]? = some x) (w : World) (h : GL w F X m V L g) :
    Calls Tryz.prog 86 #[.pointer (some ⟨X, 0, none⟩), .agg #[.int .i64 (b : Int), .int .i64 (i : Int)]] w (OutC F X m L b x w) := by
  have hb2 : ¬ (64 : Int) ≤ (b : Int) := by omega
  have hi := lt_of_some hx
  obtain ⟨q, cap, hv, hcap, hmax⟩ := row_some (h.mem.row b hb) (by omega)
  have hln : (L b).length ≤ 1000 := Nat.le_trans (flat_len L hb) hn
  obtain ⟨e, he⟩ : ∃ e, e + 1 = (L b).length := ⟨(L b).length - 1, by omega⟩
  obtain ⟨y, hy⟩ : ∃ y, (L b)[e]? = some y := ⟨(L b)[e]'(by omega), List.getElem?_eq_getElem _⟩
  have HF : Hid (∀ k, w.heap.size ≤ k → ¬ F k) := hid (fun k hk hf => by have := h.mem.low k hf; omega)
  have HH := hid h
  have HV := hid hv
  have HX := hid hx
  have HY := hid hy
  have HE := hid he
  have HK := hid (kept_alloc (kept_alloc (kept_refl w) (.cells #[.int .i64 (b : Int), .int .i64 (i : Int)] 126)) (.cells #[.int .u64 0, .int .i64 0] 123))
  have HP := hid (at_alloc (at_new w #[.int .i64 (b : Int), .int .i64 (i : Int)] 126) (.cells #[.int .u64 0, .int .i64 0] 123))
  have HQ := hid (at_new (w.alloc (.cells #[.int .i64 (b : Int), .int .i64 (i : Int)] 126)) #[.int .u64 0, .int .i64 0] 123)
  have e2 : (w.alloc (.cells #[.int .i64 (b : Int), .int .i64 (i : Int)] 126)).heap.size = w.heap.size + 1 := by simp
  rw [e2] at HQ
  clear e2
  obtain ⟨w1, hw1⟩ : ∃ w1, (w.alloc (.cells #[.int .i64 (b : Int), .int .i64 (i : Int)] 126)).alloc (.cells #[.int .u64 0, .int .i64 0] 123) = w1 := ⟨_, rfl⟩
  obtain ⟨P2, hP2⟩ : ∃ P2, w.heap.size + 1 = P2 := ⟨_, rfl⟩
  rw [hw1] at HK HP HQ
  rw [hP2] at HQ
  have HS1 : Hid (w1.heap.size = w.heap.size + 2) := hid (by rw [← hw1]; simp)
  have HH1 := hid (gl_kept HH.out HK.out)
  have c0 := (wm_cell HH1.out.mem hb).1
  rw [HV.out, ← he] at c0
  have hr := HH1.out.mem.row b hb
  rw [HV.out] at hr
  obtain ⟨r0, r1, rf⟩ := row_cells hr HX.out
  obtain ⟨s0, s1, sf⟩ := row_cells hr HY.out
  obtain ⟨p0, p1, pf⟩ := at_cells2 HP.out
  have hie : i ≤ e := by omega
  have hec : e + 1 ≤ cap := by omega
  have he3 : e ≤ 1000 := by omega
  clear h hv hx hy hr he hi hcap hln
  go_enter Tryz.func86, Tryz.ntmps86
  go_wp2_with fail
  go_quiet (fail)
  clear hw1
  have HK2 := hid (kept_drewN HK.out nq)
  have HP2 := hid (at_kept HP.out (kept_drewN (kept_refl w1) nq))
  have HQ2 := hid (at_kept HQ.out (kept_drewN (kept_refl w1) nq))
  have HH2 := hid (gl_kept HH1.out (kept_drewN (kept_refl w1) nq))
  have HS2 : Hid ((w1.drewN nq).heap.size = w.heap.size + 2) := HS1
  clear c0 r0 r1 rf s0 s1 sf p0 p1 pf HP HQ HH1 HK HS1 HH
  generalize w1.drewN nq = w2 at *
  generalize hP1 : w.heap.size = P1 at *
  have HSX : Hid (∀ u, Kept w2 u → u.cell? ⟨P1, 1, none⟩ = some (.int .i64 (i : Int)) ∧ u.cell? ⟨q, i * 2, none⟩ = some (.int .u64 x.1) ∧ u.cell? ⟨q, i * 2 + 1, none⟩ = some (.int .i64 x.2) ∧ u.cell? ⟨q, e * 2, none⟩ = some (.int .u64 y.1) ∧ u.cell? ⟨q, e * 2 + 1, none⟩ = some (.int .i64 y.2)) := hid (fun u k => by
    have hr := (gl_kept HH2.out k).mem.row b hb
    rw [HV.out] at hr
    obtain ⟨r0, r1, rf⟩ := row_cells hr HX.out
    obtain ⟨s0, s1, sf⟩ := row_cells hr HY.out
    exact ⟨(at_cells2 (at_kept HP2.out k)).2.1, r0, r1, s0, s1⟩)
  go_upto_region 3 with fail
  go_cut [7, 8] (fun a7 a8 wc => ∃ A B, a7 = .pointer (some ⟨A, 0, none⟩) ∧ a8 = .pointer (some ⟨B, 0, none⟩) ∧ Hid (At wc A #[.int .u64 x.1, .int .i64 x.2] 123) ∧ Hid (At wc B #[.int .u64 y.1, .int .i64 y.2] 123) ∧ Hid (Kept w2 wc) ∧ Hid (w2.heap.size ≤ A) ∧ Hid (w2.heap.size ≤ B))
  case first =>
    have HKr := hid (kept_refl w2)
    have hS0 := HSX.out _ HKr.out
    obtain ⟨N, hN⟩ : ∃ N, w2.heap.size = N := ⟨_, rfl⟩
    have HN2 : Hid (w2.heap.size = N) := hid hN
    clear hN HH2 HP2 HQ2 HV HX HY
    have HN : Hid (w2.drew.heap.size = N) := HN2
    have HK2r := HKr
    refine wp_region_noPanic ?_
    refine wp_region_held_drew (S := (fun w' => w'.cell? ⟨P1, 1, none⟩ = some (.int .i64 (i : Int)) ∧ w'.cell? ⟨q, i * 2, none⟩ = some (.int .u64 x.1) ∧ w'.cell? ⟨q, i * 2 + 1, none⟩ = some (.int .i64 x.2) ∧ w'.cell? ⟨q, e * 2, none⟩ = some (.int .u64 y.1) ∧ w'.cell? ⟨q, e * 2 + 1, none⟩ = some (.int .i64 y.2))) (by kernel_rfl) (by assumption) (fun hHeld => ?_)
    have HK3 := hid (kept_drew HK2r.out)
    generalize w2.drew = w3 at *
    refine wpAnyH_take (i := 0) (v := .slice (some ⟨q, 0, none⟩) (e + 1) cap) rfl (by kernel_rfl) (by kernel_rfl) (by kernel_rfl) (fun _ _ _ h => h) (Or.inl ⟨by rfl, fun w hSw => by (try dsimp only at hSw); go_simp⟩) (by assumption) ?_
    refine wpAnyH_take (i := 1) (v := .pointer (some ⟨P1, 1, none⟩)) rfl (by kernel_rfl) (by kernel_rfl) (by kernel_rfl) (fun _ _ _ h => h) (Or.inl ⟨by rfl, fun w hSw => by (try dsimp only at hSw); go_simp⟩) (by assumption) ?_
    refine wpAnyH_take (i := 2) (v := .int .i64 (i : Int)) rfl (by kernel_rfl) (by kernel_rfl) (by kernel_rfl) (fun _ _ _ h => h) (Or.inl ⟨by rfl, fun w hSw => by (try dsimp only at hSw); go_simp⟩) (by assumption) ?_
    refine wpAnyH_take (i := 3) (v := .pointer (some ⟨q, i * 2, none⟩)) rfl (by kernel_rfl) (by kernel_rfl) (by kernel_rfl) (fun _ _ _ h => h) (Or.inl ⟨by rfl, fun w hSw => by (try dsimp only at hSw); go_simp; intro hh; omega⟩) (by assumption) ?_
    refine wpAnyH_take (i := 4) (v := .agg #[.int .u64 x.1, .int .i64 x.2]) rfl (by kernel_rfl) (by kernel_rfl) (by kernel_rfl) (fun _ _ _ h => h) (Or.inl ⟨by rfl, fun w hSw => by (try dsimp only at hSw); go_simp⟩) (by assumption) ?_
    refine wpAnyH_take (i := 5) (v := .slice (some ⟨q, 0, none⟩) (e + 1) cap) rfl (by kernel_rfl) (by kernel_rfl) (by kernel_rfl) (fun _ _ _ h => h) (Or.inl ⟨by rfl, fun w hSw => by (try dsimp only at hSw); go_simp⟩) (by assumption) ?_
    refine wpAnyH_take (i := 6) (v := .int .i64 (e : Int)) rfl (by kernel_rfl) (by kernel_rfl) (by kernel_rfl) (fun _ _ _ h => h) (Or.inl ⟨by rfl, fun w hSw => by (try dsimp only at hSw); go_simp⟩) (by assumption) ?_
    refine wpAnyH_take (i := 7) (v := .pointer (some ⟨q, e * 2, none⟩)) rfl (by kernel_rfl) (by kernel_rfl) (by kernel_rfl) (fun _ _ _ h => h) (Or.inl ⟨by rfl, fun w hSw => by (try dsimp only at hSw); go_simp; intro hh; omega⟩) (by assumption) ?_
    refine wpAnyH_take (i := 8) (v := .agg #[.int .u64 y.1, .int .i64 y.2]) rfl (by kernel_rfl) (by kernel_rfl) (by kernel_rfl) (fun _ _ _ h => h) (Or.inl ⟨by rfl, fun w hSw => by (try dsimp only at hSw); go_simp⟩) (by assumption) ?_
    try simp only [List.getElem_toArray, List.getElem_cons_zero, List.getElem_cons_succ, Act.put, List.setIfInBounds_toArray, List.set_cons_zero, List.set_cons_succ]
    refine wpAnyH_ready (rs := [9, 10]) (by kernel_rfl) (by simp) ?_
    refine AllReadyH.cons (i := 9) rfl (fun K hK => ?_) ?_
    · obtain ⟨w4, hw4⟩ : ∃ w4, w3.alloc (.cells #[.int .u64 0, .int .i64 0] 123) = w4 := ⟨_, rfl⟩
      have HK4 := hid (kept_alloc HK3.out (.cells #[.int .u64 0, .int .i64 0] 123))
      have HA4 := hid (at_new w3 #[.int .u64 0, .int .i64 0] 123)
      rw [hw4] at HK4 HA4
      rw [HN.out] at HA4
      have hN4 : w4.heap.size = N + 1 := by rw [← hw4, ← HN.out]; simp
      have hN3 := HN.out
      go_simp
      have hS := HSX.out _ HK4.out
      clear hHeld
      show K _ _
      refine hK.out _ _ (by assumption) (fun hHeld => ?_)
      clear hK K
      try simp only [List.getElem_toArray, List.getElem_cons_zero, List.getElem_cons_succ, Act.put, List.setIfInBounds_toArray, List.set_cons_zero, List.set_cons_succ]
      refine wpAnyH_ready (rs := [10]) (by kernel_rfl) (by simp) ?_
      refine AllReadyH.cons (i := 10) rfl (fun K hK => ?_) AllReadyH.nil
      obtain ⟨w5, hw5⟩ : ∃ w5, w4.alloc (.cells #[.int .u64 0, .int .i64 0] 123) = w5 := ⟨_, rfl⟩
      have HK5 := hid (kept_alloc HK4.out (.cells #[.int .u64 0, .int .i64 0] 123))
      have HA5 := hid (at_alloc HA4.out (.cells #[.int .u64 0, .int .i64 0] 123))
      have HB5 := hid (at_new w4 #[.int .u64 0, .int .i64 0] 123)
      rw [hw5] at HK5 HA5 HB5
      rw [hN4] at HB5
      go_simp
      have hS := HSX.out _ HK5.out
      clear hHeld
      show K _ _
      refine hK.out _ _ (by assumption) (fun hHeld => ?_)
      clear hK K
      try simp only [List.getElem_toArray, List.getElem_cons_zero, List.getElem_cons_succ, Act.put, List.setIfInBounds_toArray, List.set_cons_zero, List.set_cons_succ]
      refine wpAnyH_ready (rs := [11]) (by kernel_rfl) (by simp) ?_
      refine AllReadyH.cons (i := 11) rfl (fun K hK => ?_) AllReadyH.nil
      obtain ⟨w6, hw6⟩ : ∃ w6, (w5.setCell ⟨N, 0, none⟩ (.int .u64 x.1)).setCell ⟨N, 1, none⟩ (.int .i64 x.2) = w6 := ⟨_, rfl⟩
      have HK6 := hid (kept_set (kept_set HK5.out (X := N) (by have := HN2.out; omega) 0 (.int .u64 x.1)) (X := N) (by have := HN2.out; omega) 1 (.int .i64 x.2))
      have HA6 := hid (at_set (at_set HA5.out 0 (.int .u64 x.1)) 1 (.int .i64 x.2))
      have HB6 := hid (at_other (at_other HB5.out (Y := N) (by omega) 0 (.int .u64 x.1)) (Y := N) (by omega) 1 (.int .i64 x.2))
      rw [hw6] at HK6 HA6 HB6
      replace HA6 : Hid (At w6 (N) #[.int .u64 x.1, .int .i64 x.2] 123) := HA6
      obtain ⟨a0, a1, af⟩ := at_cells2 HA5.out
      go_simp
      have hS := HSX.out _ HK6.out
      clear hHeld a0 a1 af
      show K _ _
      refine hK.out _ _ (by assumption) (fun hHeld => ?_)
      clear hK K
      try simp only [List.getElem_toArray, List.getElem_cons_zero, List.getElem_cons_succ, Act.put, List.setIfInBounds_toArray, List.set_cons_zero, List.set_cons_succ]
      refine wpAnyH_ready (rs := [12]) (by kernel_rfl) (by simp) ?_
      refine AllReadyH.cons (i := 12) rfl (fun K hK => ?_) AllReadyH.nil
      obtain ⟨w7, hw7⟩ : ∃ w7, (w6.setCell ⟨N + 1, 0, none⟩ (.int .u64 y.1)).setCell ⟨N + 1, 1, none⟩ (.int .i64 y.2) = w7 := ⟨_, rfl⟩
      have HK7 := hid (kept_set (kept_set HK6.out (X := N + 1) (by have := HN2.out; omega) 0 (.int .u64 y.1)) (X := N + 1) (by have := HN2.out; omega) 1 (.int .i64 y.2))
      have HB7 := hid (at_set (at_set HB6.out 0 (.int .u64 y.1)) 1 (.int .i64 y.2))
      have HA7 := hid (at_other (at_other HA6.out (Y := N + 1) (by omega) 0 (.int .u64 y.1)) (Y := N + 1) (by omega) 1 (.int .i64 y.2))
      rw [hw7] at HK7 HA7 HB7
      replace HB7 : Hid (At w7 (N + 1) #[.int .u64 y.1, .int .i64 y.2] 123) := HB7
      obtain ⟨a0, a1, af⟩ := at_cells2 HB6.out
      go_simp
      have hS := HSX.out _ HK7.out
      clear hHeld a0 a1 af
      show K _ _
      refine hK.out _ _ (by assumption) (fun hHeld => ?_)
      clear hK K
      try simp only [List.getElem_toArray, List.getElem_cons_zero, List.getElem_cons_succ, Act.put, List.setIfInBounds_toArray, List.set_cons_zero, List.set_cons_succ]
      refine wpAnyH_done (by kernel_rfl) ?_ _
      refine NoPanic.normal ?_
      go_wp2_with fail
      go_meet
      case rel => exact ⟨N, N + 1, rfl, rfl, HA7, HB7, HK7, hid (by have := HN2.out; omega), hid (by have := HN2.out; omega)⟩
    refine AllReadyH.cons (i := 10) rfl (fun K hK => ?_) AllReadyH.nil
    obtain ⟨w4, hw4⟩ : ∃ w4, w3.alloc (.cells #[.int .u64 0, .int .i64 0] 123) = w4 := ⟨_, rfl⟩
    have HK4 := hid (kept_alloc HK3.out (.cells #[.int .u64 0, .int .i64 0] 123))
    have HA4 := hid (at_new w3 #[.int .u64 0, .int .i64 0] 123)
    rw [hw4] at HK4 HA4
    rw [HN.out] at HA4
    have hN4 : w4.heap.size = N + 1 := by rw [← hw4, ← HN.out]; simp
    have hN3 := HN.out
    go_simp
    have hS := HSX.out _ HK4.out
    clear hHeld
    show K _ _
    refine hK.out _ _ (by assumption) (fun hHeld => ?_)
    clear hK K
    try simp only [List.getElem_toArray, List.getElem_cons_zero, List.getElem_cons_succ, Act.put, List.setIfInBounds_toArray, List.set_cons_zero, List.set_cons_succ]
    refine wpAnyH_ready (rs := [9]) (by kernel_rfl) (by simp) ?_
    refine AllReadyH.cons (i := 9) rfl (fun K hK => ?_) AllReadyH.nil
    obtain ⟨w5, hw5⟩ : ∃ w5, w4.alloc (.cells #[.int .u64 0, .int .i64 0] 123) = w5 := ⟨_, rfl⟩
    have HK5 := hid (kept_alloc HK4.out (.cells #[.int .u64 0, .int .i64 0] 123))
    have HA5 := hid (at_alloc HA4.out (.cells #[.int .u64 0, .int .i64 0] 123))
    have HB5 := hid (at_new w4 #[.int .u64 0, .int .i64 0] 123)
    rw [hw5] at HK5 HA5 HB5
    rw [hN4] at HB5
    go_simp
    have hS := HSX.out _ HK5.out
    clear hHeld
    show K _ _
    refine hK.out _ _ (by assumption) (fun hHeld => ?_)
    clear hK K
    try simp only [List.getElem_toArray, List.getElem_cons_zero, List.getElem_cons_succ, Act.put, List.setIfInBounds_toArray, List.set_cons_zero, List.set_cons_succ]
    refine wpAnyH_ready (rs := [11]) (by kernel_rfl) (by simp) ?_
    refine AllReadyH.cons (i := 11) rfl (fun K hK => ?_) AllReadyH.nil
    obtain ⟨w6, hw6⟩ : ∃ w6, (w5.setCell ⟨N + 1, 0, none⟩ (.int .u64 x.1)).setCell ⟨N + 1, 1, none⟩ (.int .i64 x.2) = w6 := ⟨_, rfl⟩
    have HK6 := hid (kept_set (kept_set HK5.out (X := N + 1) (by have := HN2.out; omega) 0 (.int .u64 x.1)) (X := N + 1) (by have := HN2.out; omega) 1 (.int .i64 x.2))
    have HA6 := hid (at_set (at_set HB5.out 0 (.int .u64 x.1)) 1 (.int .i64 x.2))
    have HB6 := hid (at_other (at_other HA5.out (Y := N + 1) (by omega) 0 (.int .u64 x.1)) (Y := N + 1) (by omega) 1 (.int .i64 x.2))
    rw [hw6] at HK6 HA6 HB6
    replace HA6 : Hid (At w6 (N + 1) #[.int .u64 x.1, .int .i64 x.2] 123) := HA6
    obtain ⟨a0, a1, af⟩ := at_cells2 HB5.out
    go_simp
    have hS := HSX.out _ HK6.out
    clear hHeld a0 a1 af
    show K _ _
    refine hK.out _ _ (by assumption) (fun hHeld => ?_)
    clear hK K
    try simp only [List.getElem_toArray, List.getElem_cons_zero, List.getElem_cons_succ, Act.put, List.setIfInBounds_toArray, List.set_cons_zero, List.set_cons_succ]
    refine wpAnyH_ready (rs := [12]) (by kernel_rfl) (by simp) ?_
    refine AllReadyH.cons (i := 12) rfl (fun K hK => ?_) AllReadyH.nil
    obtain ⟨w7, hw7⟩ : ∃ w7, (w6.setCell ⟨N, 0, none⟩ (.int .u64 y.1)).setCell ⟨N, 1, none⟩ (.int .i64 y.2) = w7 := ⟨_, rfl⟩
    have HK7 := hid (kept_set (kept_set HK6.out (X := N) (by have := HN2.out; omega) 0 (.int .u64 y.1)) (X := N) (by have := HN2.out; omega) 1 (.int .i64 y.2))
    have HB7 := hid (at_set (at_set HB6.out 0 (.int .u64 y.1)) 1 (.int .i64 y.2))
    have HA7 := hid (at_other (at_other HA6.out (Y := N) (by omega) 0 (.int .u64 y.1)) (Y := N) (by omega) 1 (.int .i64 y.2))
    rw [hw7] at HK7 HA7 HB7
    replace HB7 : Hid (At w7 (N) #[.int .u64 y.1, .int .i64 y.2] 123) := HB7
    obtain ⟨a0, a1, af⟩ := at_cells2 HB6.out
    go_simp
    have hS := HSX.out _ HK7.out
    clear hHeld a0 a1 af
    show K _ _
    refine hK.out _ _ (by assumption) (fun hHeld => ?_)
    clear hK K
    try simp only [List.getElem_toArray, List.getElem_cons_zero, List.getElem_cons_succ, Act.put, List.setIfInBounds_toArray, List.set_cons_zero, List.set_cons_succ]
    refine wpAnyH_done (by kernel_rfl) ?_ _
    refine NoPanic.normal ?_
    go_wp2_with fail
    go_meet
    case rel => exact ⟨N + 1, N, rfl, rfl, HA7, HB7, HK7, hid (by have := HN2.out; omega), hid (by have := HN2.out; omega)⟩
  case rest =>
    obtain ⟨A, B, rfl, rfl, HA, HB, HKc, hA, hB⟩ := hcut
    have HGc := hid (gl_kept HH2.out HKc.out)
    have HKw := hid (kept_trans HK2.out HKc.out)
    have HPc := hid (at_kept HP2.out HKc.out)
    have HQc := hid (at_kept HQ2.out HKc.out)
    have HFA : Hid (¬ F A) := hid (HF.out _ (by have := hA.out; have := HS2.out; omega))
    have HFB : Hid (¬ F B) := hid (HF.out _ (by have := hB.out; have := HS2.out; omega))
    have HFP : Hid (¬ F P1) := hid (HF.out _ (Nat.le_refl _))
    have HFQ : Hid (¬ F P2) := hid (HF.out _ (by omega))
    have HWl : Hid (w.heap.size ≤ P2) := hid (by omega)
    have HXf : Hid (Wf x.2) := hid (HH2.out.wf x (flat_mem.2 ⟨b, hb, List.mem_of_getElem? HX.out⟩)).1
    have HYf : Hid (Wf y.2) := hid (HH2.out.wf y (flat_mem.2 ⟨b, hb, List.mem_of_getElem? HY.out⟩)).1
    obtain ⟨c, hc⟩ : ∃ c, c + 1 = (flat L).length := ⟨(flat L).length - 1, by have := flat_len L hb; have := HE.out; omega⟩
    have HC : Hid (c + (if g x.2 = none then 0 else 1) = (flat L).length) := hid (by rw [if_neg (by rw [HH2.out.full.to b i x hb HX.out]; simp)]; exact hc)
    have hc3 : c ≤ 1000 := by omega
    have HCe := hid hc
    have HObj : Hid (∀ u, Wm u F X m V L g (flat L).length → ∀ Y T ds, At u Y ds T → T ≠ 121 → Y ≠ X) := hid (fun u hu Y T ds hY hT => by
      obtain ⟨cs, h1, _⟩ := hu.obj
      exact at_ne hY h1 hT)
    have HFull := hid HH2.out.full
    have HHeap := hid HH2.out.heap
    have HWfs := hid HH2.out.wf
    have HGL : Hid (∀ (u : World) (V' : Nat → Value) (l' : List It) (g' : Int → Option (Nat × Nat)), Wm u F X m V' (upd L b l') g' c → Full (upd L b l') g' → Heap l' → (L b).Perm (x :: l') → GL u F X m V' (upd L b l') g') := hid (fun u V' l' g' h1 h2 h3 h4 => by
      have h5 := len_out hb h4
      refine ⟨?_, h2, heaps_upd HHeap.out h3, fun z hz => HWfs.out z ((flat_out hb h4).mem_iff.2 (List.mem_cons.2 (.inr hz)))⟩
      rw [show (flat (upd L b l')).length = c by omega]
      exact h1)
    have hS0 := (at_cells2 HPc.out).1
    clear hA hB HH2 HK2 HP2 HQ2 HKc HSX hc hP1 hP2 HS2
    go_wp2_with fail
    refine wp_region_noPanic ?_
    refine wp_region_held_drew (S := (fun w' => w'.cell? ⟨P1, 0, none⟩ = some (.int .i64 (b : Int)))) (by kernel_rfl) (by assumption) (fun hHeld => ?_)
    have HG3 := hid (gl_kept HGc.out (kept_drew (kept_refl wc)))
    have HT3 := hid (tn_kept (F := F) (kept_drew HKw.out))
    have HP3 := hid (at_drew HPc.out)
    have HQ3 := hid (at_drew HQc.out)
    have HA3 := hid (at_drew HA.out)
    have HB3 := hid (at_drew HB.out)
    generalize wc.drew = w3 at *
    obtain ⟨x0, xm, xf⟩ := wm_cell HG3.out.mem hb
    rw [HV.out] at x0
    have HW4 := hid (wm_cut HG3.out.mem hb HV.out (e := e) (by have := HE.out; omega))
    have HT4 := hid (tn_set HT3.out (.inl HG3.out.mem.fX) b (.slice (some ⟨q, 0, none⟩) e cap))
    have HO := hid (HObj.out _ HG3.out.mem)
    have HP4 := hid (at_other HP3.out (HO.out _ _ _ HP3.out (by decide)) b (.slice (some ⟨q, 0, none⟩) e cap))
    have HQ4 := hid (at_other HQ3.out (HO.out _ _ _ HQ3.out (by decide)) b (.slice (some ⟨q, 0, none⟩) e cap))
    have HA4 := hid (at_other HA3.out (HO.out _ _ _ HA3.out (by decide)) b (.slice (some ⟨q, 0, none⟩) e cap))
    have HB4 := hid (at_other HB3.out (HO.out _ _ _ HB3.out (by decide)) b (.slice (some ⟨q, 0, none⟩) e cap))
    obtain ⟨w4, hw4⟩ : ∃ w4, w3.setCell ⟨X, b, none⟩ (.slice (some ⟨q, 0, none⟩) e cap) = w4 := ⟨_, rfl⟩
    rw [hw4] at HW4 HT4 HP4 HQ4 HA4 HB4
    refine wpAnyH_take (i := 0) (v := .pointer (some ⟨X, 0, none⟩)) rfl (by kernel_rfl) (by kernel_rfl) (by kernel_rfl) (fun _ _ _ h => h) (Or.inl ⟨by rfl, fun w hSw => by (try dsimp only at hSw); go_simp⟩) (by assumption) ?_
    refine wpAnyH_take (i := 1) (v := .pointer (some ⟨P1, 0, none⟩)) rfl (by kernel_rfl) (by kernel_rfl) (by kernel_rfl) (fun _ _ _ h => h) (Or.inl ⟨by rfl, fun w hSw => by (try dsimp only at hSw); go_simp⟩) (by assumption) ?_
    refine wpAnyH_take (i := 2) (v := .int .i64 (b : Int)) rfl (by kernel_rfl) (by kernel_rfl) (by kernel_rfl) (fun _ _ _ h => h) (Or.inl ⟨by rfl, fun w hSw => by (try dsimp only at hSw); go_simp⟩) (by assumption) ?_
    refine wpAnyH_take (i := 3) (v := .slice (some ⟨q, 0, none⟩) (e + 1) cap) rfl (by kernel_rfl) (by kernel_rfl) (by kernel_rfl) (fun _ _ _ h => h) (Or.inl ⟨by rfl, fun w hSw => by (try dsimp only at hSw); go_simp⟩) (by assumption) ?_
    refine wpAnyH_take (i := 4) (v := .int .i64 (e : Int)) rfl (by kernel_rfl) (by kernel_rfl) (by kernel_rfl) (fun _ _ _ h => h) (Or.inl ⟨by rfl, fun w hSw => by (try dsimp only at hSw); go_simp⟩) (by assumption) ?_
    refine wpAnyH_take (i := 5) (v := .slice (some ⟨q, 0, none⟩) e cap) rfl (by kernel_rfl) (by kernel_rfl) (by kernel_rfl) (fun _ _ _ h => h) (Or.inl ⟨by rfl, fun w hSw => by (try dsimp only at hSw); go_simp; intro hh; omega⟩) (by assumption) ?_
    refine wpAnyH_take (i := 6) (v := .pointer (some ⟨X, 0, none⟩)) rfl (by kernel_rfl) (by kernel_rfl) (by kernel_rfl) (fun _ _ _ h => h) (Or.inl ⟨by rfl, fun w hSw => by (try dsimp only at hSw); go_simp⟩) (by assumption) ?_
    refine wpAnyH_take (i := 7) (v := .pointer (some ⟨X, 0, none⟩)) rfl (by kernel_rfl) (by kernel_rfl) (by kernel_rfl) (fun _ _ _ h => h) (Or.inl ⟨by rfl, fun w hSw => by (try dsimp only at hSw); go_simp⟩) (by assumption) ?_
    refine wpAnyH_take (i := 8) (v := .pointer (some ⟨X, b, none⟩)) rfl (by kernel_rfl) (by kernel_rfl) (by kernel_rfl) (fun _ _ _ h => h) (Or.inl ⟨by rfl, fun w hSw => by (try dsimp only at hSw); go_simp⟩) (by assumption) ?_
    try simp only [List.getElem_toArray, List.getElem_cons_zero, List.getElem_cons_succ, Act.put, List.setIfInBounds_toArray, List.set_cons_zero, List.set_cons_succ]
    refine wpAnyH_ready (rs := [9]) (by kernel_rfl) (by simp) ?_
    refine AllReadyH.cons (i := 9) rfl (fun K hK => ?_) AllReadyH.nil
    go_simp
    have hS := (at_cells2 HP4.out).1
    clear hHeld
    show K _ _
    refine hK.out _ _ (by assumption) (fun hHeld => ?_)
    clear hK K
    try simp only [List.getElem_toArray, List.getElem_cons_zero, List.getElem_cons_succ, Act.put, List.setIfInBounds_toArray, List.set_cons_zero, List.set_cons_succ]
    refine wpAnyH_done (by kernel_rfl) ?_ _
    refine NoPanic.normal ?_
    clear hS hS0 hHeld x0 xm xf hw4 HG3 HT3 HP3 HQ3 HA3 HB3 HO
    have hS0 : w4.cell? ⟨X, 64, none⟩ = some (.map (some m)) ∧ w4.cell? ⟨A, 1, none⟩ = some (.int .i64 x.2) := ⟨wm_map HW4.out, (at_cells2 HA4.out).2.1⟩
    go_wp2_with fail
    refine wp_region_noPanic ?_
    refine wp_region_held_drew (S := (fun w' => w'.cell? ⟨X, 64, none⟩ = some (.map (some m)) ∧ w'.cell? ⟨A, 1, none⟩ = some (.int .i64 x.2))) (by kernel_rfl) (by assumption) (fun hHeld => ?_)
    have HW5 := hid (wm_kept HW4.out (kept_drew (kept_refl w4)))
    have HT5 := hid (tn_trans HT4.out (tn_kept (kept_drew (kept_refl w4))))
    have HP5 := hid (at_drew HP4.out)
    have HQ5 := hid (at_drew HQ4.out)
    have HA5 := hid (at_drew HA4.out)
    have HB5 := hid (at_drew HB4.out)
    generalize w4.drew = w5 at *
    obtain ⟨w6, hrun, hw6, ht6⟩ := whr_del HW5.out.map HXf.out 0
    have HW6 := hid (wm_turned HW5.out ht6 (hw6 c HC.out))
    have HT6 := hid (tn_turned HT5.out HW5.out.fm ht6)
    have HP6 := hid (at_turned HP5.out ht6)
    have HQ6 := hid (at_turned HQ5.out ht6)
    have HA6 := hid (at_turned HA5.out ht6)
    have HB6 := hid (at_turned HB5.out ht6)
    clear ht6 hw6
    refine wpAnyH_take (i := 0) (v := .pointer (some ⟨X, 0, none⟩)) rfl (by kernel_rfl) (by kernel_rfl) (by kernel_rfl) (fun _ _ _ h => h) (Or.inl ⟨by rfl, fun w hSw => by (try dsimp only at hSw); go_simp⟩) (by assumption) ?_
    refine wpAnyH_take (i := 1) (v := .pointer (some ⟨X, 0, none⟩)) rfl (by kernel_rfl) (by kernel_rfl) (by kernel_rfl) (fun _ _ _ h => h) (Or.inl ⟨by rfl, fun w hSw => by (try dsimp only at hSw); go_simp⟩) (by assumption) ?_
    refine wpAnyH_take (i := 2) (v := .pointer (some ⟨X, 64, none⟩)) rfl (by kernel_rfl) (by kernel_rfl) (by kernel_rfl) (fun _ _ _ h => h) (Or.inl ⟨by rfl, fun w hSw => by (try dsimp only at hSw); go_simp⟩) (by assumption) ?_
    refine wpAnyH_take (i := 3) (v := .map (some m)) rfl (by kernel_rfl) (by kernel_rfl) (by kernel_rfl) (fun _ _ _ h => h) (Or.inl ⟨by rfl, fun w hSw => by (try dsimp only at hSw); go_simp⟩) (by assumption) ?_
    refine wpAnyH_take (i := 4) (v := .pointer (some ⟨A, 1, none⟩)) rfl (by kernel_rfl) (by kernel_rfl) (by kernel_rfl) (fun _ _ _ h => h) (Or.inl ⟨by rfl, fun w hSw => by (try dsimp only at hSw); go_simp⟩) (by assumption) ?_
    refine wpAnyH_take (i := 5) (v := .int .i64 x.2) rfl (by kernel_rfl) (by kernel_rfl) (by kernel_rfl) (fun _ _ _ h => h) (Or.inl ⟨by rfl, fun w hSw => by (try dsimp only at hSw); go_simp⟩) (by assumption) ?_
    try simp only [List.getElem_toArray, List.getElem_cons_zero, List.getElem_cons_succ, Act.put, List.setIfInBounds_toArray, List.set_cons_zero, List.set_cons_succ]
    refine wpAnyH_ready (rs := [6]) (by kernel_rfl) (by simp) ?_
    refine AllReadyH.cons (i := 6) rfl (fun K hK => ?_) AllReadyH.nil
    go_simp
    have hS : w6.cell? ⟨X, 64, none⟩ = some (.map (some m)) ∧ w6.cell? ⟨A, 1, none⟩ = some (.int .i64 x.2) := ⟨wm_map HW6.out, (at_cells2 HA6.out).2.1⟩
    clear hHeld
    show K _ _
    refine hK.out _ _ (by assumption) (fun hHeld => ?_)
    clear hK K
    try simp only [List.getElem_toArray, List.getElem_cons_zero, List.getElem_cons_succ, Act.put, List.setIfInBounds_toArray, List.set_cons_zero, List.set_cons_succ]
    refine wpAnyH_done (by kernel_rfl) ?_ _
    refine NoPanic.normal ?_
    clear hS hS0 hHeld hrun HW4 HT4 HP4 HQ4 HA4 HB4 HW5 HT5 HP5 HQ5 HA5 HB5 HA HB HPc HQc HGc HKw
    obtain ⟨p0, p1, pf⟩ := at_cells2 HP6.out
    have HLt : Hid (((L b).take e).length = e) := hid (by have := HE.out; simp; omega)
    by_cases hlt : i < e
    · have hset := settle_any b i y (((L b).take e).set i y) (by rw [List.length_set, HLt.out]; omega) hc3 HYf.out
        (fun z hz => (HWfs.out z (flat_mem.2 ⟨b, hb, by
          rcases List.mem_or_eq_of_mem_set hz with h | h
          · exact List.mem_of_mem_take h
          · rw [h]; exact List.mem_of_getElem? HY.out⟩)).1) w6 HW6.out
        ⟨by rw [upd_at, List.length_set], by rw [upd_at, HLt.out]; exact hlt, by rw [upd_at, upd_upd]; exact sync_out HFull.out hb hlt HE.out HX.out HY.out, trivial, by rw [upd_at], rfl⟩
        (fun h0 h1 => by rw [upd_at] at h1 ⊢; exact settle_up (HHeap.out b hb) hlt (by have := HE.out; omega) h0 h1)
        (fun h1 => by rw [upd_at] at h1 ⊢; exact settle_down (HHeap.out b hb) hlt (by have := HE.out; omega) h1)
        c (by
          have gx := HFull.out.to b i x hb HX.out
          have gy := HFull.out.to b e y hb HY.out
          have hne : y.2 ≠ x.2 := fun h => by
            rw [h, gx] at gy
            injection gy with gy
            injection gy with _ gy
            omega
          rw [delM_ne _ hne, gy]
          simp)
      obtain ⟨b0, b1, bf⟩ := at_cells2 HB6.out
      have HPo := hid (out_perm hlt HE.out HY.out HX.out)
      clear HHeap HFull HWfs HX HY
      go_wp2_with fail
      refine hset.mono ?_
      rintro e' w7 ⟨rfl, t7, l', g', h7, f7, hp7, q7⟩
      rw [upd_upd] at h7 f7
      have HA7 := hid (at_tn HA6.out t7 HFA.out)
      have HQ7 := hid (at_tn HQ6.out t7 HFQ.out)
      have HW7 := hid h7
      have HT7 := hid (tn_trans HT6.out t7)
      have HF7 := hid f7
      have HH7 := hid hp7
      have HPm := hid (HPo.out.trans (q7.symm.cons x))
      clear hset t7 h7 f7 hp7 q7 p0 p1 pf b0 b1 bf
      obtain ⟨a0, a1, af⟩ := at_cells2 HA7.out
      obtain ⟨q0, q1, qf⟩ := at_cells2 HQ7.out
      obtain ⟨w8, hw8⟩ : ∃ w8, (w7.setCell ⟨P2, 0, none⟩ (.int .u64 x.1)).setCell ⟨P2, 1, none⟩ (.int .i64 x.2) = w8 := ⟨_, rfl⟩
      have HQ8 := hid (at_set (at_set HQ7.out 0 (.int .u64 x.1)) 1 (.int .i64 x.2))
      have HW8 := hid (wm_setP (wm_setP HW7.out HFQ.out 0 (.int .u64 x.1)) HFQ.out 1 (.int .i64 x.2))
      have HT8 := hid (tn_set (tn_set HT7.out (.inr HWl.out) 0 (.int .u64 x.1)) (.inr HWl.out) 1 (.int .i64 x.2))
      rw [hw8] at HQ8 HW8 HT8
      replace HQ8 : Hid (At w8 P2 #[.int .u64 x.1, .int .i64 x.2] 123) := HQ8
      clear HQ7 HW7 HT7 HA7
      go_wp2_with fail
      exact bodyPost_ret (res1 rfl _ rfl HQ8.out) rfl ⟨rfl, HT8.out, _, _, _, HGL.out _ _ _ _ HW8.out HF7.out HH7.out HPm.out, HPm.out⟩
    · have hie2 : i = e := by omega
      subst hie2
      have hd : decide (i < i) = false := by simp
      have hxy : x = y := by
        have := HX.out
        rw [HY.out] at this
        injection this with this
        exact this.symm
      have HF7 : Hid (Full (upd L b ((L b).take i)) (delM g x.2)) := hid (full_out HFull.out hb HE.out HX.out)
      have HH7 := hid (heap_take (HHeap.out b hb) i)
      have HPm := hid (out_perm_last HE.out HX.out)
      have HA7 := HA6
      have HQ7 := HQ6
      have HW7 := HW6
      have HT7 := HT6
      clear HHeap HFull HWfs HX HY hxy hlt HA6 HQ6 HW6 HT6
      obtain ⟨a0, a1, af⟩ := at_cells2 HA7.out
      obtain ⟨q0, q1, qf⟩ := at_cells2 HQ7.out
      obtain ⟨w8, hw8⟩ : ∃ w8, (w6.setCell ⟨P2, 0, none⟩ (.int .u64 x.1)).setCell ⟨P2, 1, none⟩ (.int .i64 x.2) = w8 := ⟨_, rfl⟩
      have HQ8 := hid (at_set (at_set HQ7.out 0 (.int .u64 x.1)) 1 (.int .i64 x.2))
      have HW8 := hid (wm_setP (wm_setP HW7.out HFQ.out 0 (.int .u64 x.1)) HFQ.out 1 (.int .i64 x.2))
      have HT8 := hid (tn_set (tn_set HT7.out (.inr HWl.out) 0 (.int .u64 x.1)) (.inr HWl.out) 1 (.int .i64 x.2))
      rw [hw8] at HQ8 HW8 HT8
      replace HQ8 : Hid (At w8 P2 #[.int .u64 x.1, .int .i64 x.2] 123) := HQ8
      clear HQ7 HW7 HT7 HA7
      go_wp2_with fail
      exact bodyPost_ret (res1 rfl _ rfl HQ8.out) rfl ⟨rfl, HT8.out, _, _, _, HGL.out _ _ _ _ HW8.out HF7.out HH7.out HPm.out, HPm.out⟩
end Go.Proofs.YthgbdaladngpdaaGreat.Whl
