/- The contract of Drop: it answers what the plain function does and leaves the table so; it turns that table alone. -/
import Derived.Test.YthgbdaladngpdaaGreatSloClose
namespace Go.Proofs.YthgbdaladngpdaaGreat.Slo
open Go.ChangeShapes Go.WideShapes Go.ChangeAt Go.RowKit
set_option linter.unusedVariables false
set_option maxRecDepth 100000
set_option linter.unusedSimpArgs false

section
variable {w : World} {X R m most n : Nat} {L : Tb}
theorem set3_cell2 (g : Tab w X R m most n L) (o : Nat) (a b c : Value) : (((w.setCell ⟨R, o, none⟩ a).setCell ⟨R, o + 1, none⟩ b).setCell ⟨R, o + 2, none⟩ c).cell? ⟨X, 0, none⟩ = some (.slice (some ⟨R, 0, none⟩) m m) :=
  (at_cells3 (set3_at (o := o) (a := a) (b := b) (c := c) g.1 (tab_ne g))).1
theorem hole_lt {a : Nat} (ok : Ok (hm m) m L) (c : cnt L m < m) (t : (L a).taken = true) : (cl (hm m) m m L a (nxt m a)).2 < m := by
  obtain ⟨e, ce, he⟩ := cl_begin ok c t
  exact (cl_all ok.home m L a (nxt m a) e ce he).2.1
theorem good_less {F : Tb} {q : Nat} (g : Tab w X R m most n F) (hq : q < m) (s : ∀ i, (F i).key.size ≤ 1000) (hn : cnt (upd F q no) m + 1 = n) (hf : n ≤ most) (h1 : 1 ≤ most) (h2 : 2 * most ≤ m) (h4 : m ≤ 4096) (ok : Ok (hm m) m (upd F q no)) :
    Good ((set3 w R (q * 3) (.bool false) (.string ⟨#[]⟩) (.int .i64 0)).setCell ⟨X, 2, none⟩ (.int .i64 ((n : Int) - 1))) X R m most (upd F q no) := by
  have hr : RowT (set3 w R (q * 3) (.bool false) (.string ⟨#[]⟩) (.int .i64 0)) 105 R m (upd F q no) := row_set3 g.2 hq no
  refine ⟨⟨?_, row_other hr _ (Ne.symm (tab_ne g))⟩, ok, h1, h2, by omega, h4, fun i => small_upd s (by decide) q i⟩
  have := at_set (set3_at (o := q * 3) (a := .bool false) (b := .string ⟨#[]⟩) (c := .int .i64 0) g.1 (tab_ne g)) 2 (.int .i64 ((n : Int) - 1))
  rw [show (n : Int) - 1 = ((cnt (upd F q no) m : Nat) : Int) by omega] at *
  exact this
end
set_option maxHeartbeats 1600000 in
theorem drop_any {X R m most : Nat} {L : Tb} (k : ByteArray) (hk : k.size ≤ maxLen) (w : World) (g : Good w X R m most L) :
    Calls Tryz.prog 74 #[.pointer (some ⟨X, 0, none⟩), .string k] w fun e w' => e = .returned (.bool (dropT (hm m) m L k).1) ∧ Turns X R w w' ∧ Good w' X R m most (dropT (hm m) m L k).2 := by
  have hf := find_any k hk w g
  have HE : Hid (dropT (hm m) m L k = if (L (spot (hm m) m L k)).taken = true then (true, closed (hm m) m L (spot (hm m) m L k)) else (false, L)) := rfl
  have ha := (spot_found (k := k) g.ok g.free).lt
  have HG := hid g
  clear g
  generalize spot (hm m) m L k = a at *
  have h4 := HG.out.low
  cases t : (L a).taken with
  | false =>
    have HE2 : Hid (dropT (hm m) m L k = (false, L)) := hid (by rw [HE.out, if_neg (by rw [t]; simp)])
    rw [t] at hf
    clear HE t
    go_enter Tryz.func74, Tryz.ntmps74
    go_wp2_with fail
    refine hf.mono ?_
    rintro e w1 ⟨rfl, k1⟩
    go_wp2_with fail
    go_ret
    rw [HE2.out]
    exact ⟨rfl, turns_kept k1, good_kept HG.out k1⟩
  | true =>
    have HE2 : Hid (dropT (hm m) m L k = (true, closed (hm m) m L a)) := hid (by rw [HE.out, if_pos t])
    have HC := hid (closed_all HG.out.ok HG.out.free t)
    have hq := hole_lt HG.out.ok HG.out.free t
    unfold closed at HC HE2
    obtain ⟨F, q, hF⟩ : ∃ F q, cl (hm m) m m L a (nxt m a) = (F, q) := ⟨_, _, rfl⟩
    rw [hF] at hq HC HE2
    have HF := hid hF
    have HT := hid t
    rw [t] at hf
    have hcl : cnt L m ≤ 4096 := by have := HG.out.free; omega
    have hc0 : 1 ≤ cnt L m := by have := HC.out.2.1; omega
    clear HE t hF
    go_enter Tryz.func74, Tryz.ntmps74
    go_wp2_with fail
    refine hf.mono ?_
    rintro e w1 ⟨rfl, k1⟩
    go_wp2_with fail
    have HG1 := hid (good_kept HG.out (kept_drew k1))
    have HK1 := hid (turns_kept (X := X) (R := R) (kept_drew k1))
    have hS := (at_cells3 HG1.out.tab.1).1
    clear k1 hf
    refine wp_region_noPanic ?_
    refine wp_region_held_drew (S := (fun w' => w'.cell? ⟨X, 0, none⟩ = some (.slice (some ⟨R, 0, none⟩) m m))) (by kernel_rfl) (by assumption) (fun hHeld => ?_)
    generalize w1.drew = w2 at *
    refine wpAnyH_take (i := 0) (v := .pointer (some ⟨X, 0, none⟩)) rfl (by kernel_rfl) (by kernel_rfl) (by kernel_rfl) (fun _ _ _ h => h) (Or.inl ⟨by rfl, fun w hSw => by (try dsimp only at hSw); go_simp⟩) (by assumption) ?_
    try simp only [List.getElem_toArray, List.getElem_cons_zero, List.getElem_cons_succ, Act.put, List.setIfInBounds_toArray, List.set_cons_zero, List.set_cons_succ]
    refine wpAnyH_take (i := 1) (v := .pointer (some ⟨X, 0, none⟩)) rfl (by kernel_rfl) (by kernel_rfl) (by kernel_rfl) (fun _ _ _ h => h) (Or.inl ⟨by rfl, fun w hSw => by (try dsimp only at hSw); go_simp⟩) (by assumption) ?_
    try simp only [List.getElem_toArray, List.getElem_cons_zero, List.getElem_cons_succ, Act.put, List.setIfInBounds_toArray, List.set_cons_zero, List.set_cons_succ]
    refine wpAnyH_take (i := 2) (v := .pointer (some ⟨X, 0, none⟩)) rfl (by kernel_rfl) (by kernel_rfl) (by kernel_rfl) (fun _ _ _ h => h) (Or.inl ⟨by rfl, fun w hSw => by (try dsimp only at hSw); go_simp⟩) (by assumption) ?_
    try simp only [List.getElem_toArray, List.getElem_cons_zero, List.getElem_cons_succ, Act.put, List.setIfInBounds_toArray, List.set_cons_zero, List.set_cons_succ]
    refine wpAnyH_take (i := 3) (v := .slice (some ⟨R, 0, none⟩) m m) rfl (by kernel_rfl) (by kernel_rfl) (by kernel_rfl) (fun _ _ _ h => h) (Or.inl ⟨by rfl, fun w hSw => by (try dsimp only at hSw); go_simp⟩) (by assumption) ?_
    try simp only [List.getElem_toArray, List.getElem_cons_zero, List.getElem_cons_succ, Act.put, List.setIfInBounds_toArray, List.set_cons_zero, List.set_cons_succ]
    refine wpAnyH_take (i := 4) (v := .pointer (some ⟨X, 0, none⟩)) rfl (by kernel_rfl) (by kernel_rfl) (by kernel_rfl) (fun _ _ _ h => h) (Or.inl ⟨by rfl, fun w hSw => by (try dsimp only at hSw); go_simp⟩) (by assumption) ?_
    try simp only [List.getElem_toArray, List.getElem_cons_zero, List.getElem_cons_succ, Act.put, List.setIfInBounds_toArray, List.set_cons_zero, List.set_cons_succ]
    refine wpAnyH_take (i := 5) (v := .int .i64 (a : Int)) rfl (by kernel_rfl) (by kernel_rfl) (by kernel_rfl) (fun _ _ _ h => h) (Or.inl ⟨by rfl, fun w hSw => by (try dsimp only at hSw); go_simp⟩) (by assumption) ?_
    try simp only [List.getElem_toArray, List.getElem_cons_zero, List.getElem_cons_succ, Act.put, List.setIfInBounds_toArray, List.set_cons_zero, List.set_cons_succ]
    refine wpAnyH_take (i := 7) (v := .agg #[.bool false, .string ⟨#[]⟩, .int .i64 0]) rfl (by kernel_rfl) (by kernel_rfl) (by kernel_rfl) (fun _ _ _ h => h) (Or.inl ⟨by rfl, fun w hSw => by (try dsimp only at hSw); go_simp⟩) (by assumption) ?_
    try simp only [List.getElem_toArray, List.getElem_cons_zero, List.getElem_cons_succ, Act.put, List.setIfInBounds_toArray, List.set_cons_zero, List.set_cons_succ]
    refine wpAnyH_ready (rs := [6]) (by kernel_rfl) (by simp) ?_
    refine AllReadyH.cons (i := 6) rfl (fun K hK => ?_) AllReadyH.nil
    go_simp
    refine (close_any a h4 HG1.out.ok HG1.out.free HT.out HG1.out.small _ HG1.out.tab).mono ?_
    rintro e1 w3 ⟨rfl, hT3, hB3, hs3⟩
    rw [HF.out] at *
    replace HK1 := hid (turns_trans HK1.out hT3)
    have HB := hid hB3
    have HS3 := hid hs3
    clear hT3 hB3 hs3
    have hS := (at_cells3 HB.out.1).1
    clear hHeld
    show K _ _
    refine hK.out _ _ (by assumption) (fun hHeld => ?_)
    clear hK K
    try simp only [List.getElem_toArray, List.getElem_cons_zero, List.getElem_cons_succ, Act.put, List.setIfInBounds_toArray, List.set_cons_zero, List.set_cons_succ]
    refine wpAnyH_take (i := 8) (v := .pointer (some ⟨R, q * 3, none⟩)) rfl (by kernel_rfl) (by kernel_rfl) (by kernel_rfl) (fun _ _ _ h => h) (Or.inl ⟨by rfl, fun w hSw => by (try dsimp only at hSw); go_simp⟩) (by assumption) ?_
    try simp only [List.getElem_toArray, List.getElem_cons_zero, List.getElem_cons_succ, Act.put, List.setIfInBounds_toArray, List.set_cons_zero, List.set_cons_succ]
    refine wpAnyH_ready (rs := [9]) (by kernel_rfl) (by simp) ?_
    refine AllReadyH.cons (i := 9) rfl (fun K hK => ?_) AllReadyH.nil
    obtain ⟨r0, r1, r2, rf⟩ := row_cells HB.out.2 hq
    go_simp
    have hS := set3_cell2 HB.out (q * 3) (.bool false) (.string ⟨#[]⟩) (.int .i64 0)
    clear hHeld
    show K _ _
    refine hK.out _ _ (by assumption) (fun hHeld => ?_)
    clear hK K
    try simp only [List.getElem_toArray, List.getElem_cons_zero, List.getElem_cons_succ, Act.put, List.setIfInBounds_toArray, List.set_cons_zero, List.set_cons_succ]
    refine wpAnyH_done (by kernel_rfl) ?_ _
    refine NoPanic.normal ?_
    have HG3 := hid (good_less HB.out hq HS3.out HC.out.2.1 HG1.out.full HG1.out.some HG1.out.fit h4 HC.out.1)
    have HK3 := hid (turns_set3 HK1.out (q * 3) (.bool false) (.string ⟨#[]⟩) (.int .i64 0))
    obtain ⟨d0, d1, d2, df⟩ := at_cells3 (set3_at (o := q * 3) (a := .bool false) (b := .string ⟨#[]⟩) (c := .int .i64 0) HB.out.1 (tab_ne HB.out))
    unfold set3 at *
    clear r0 r1 r2 rf hS hHeld
    generalize ((w3.setCell ⟨R, q * 3, none⟩ (.bool false)).setCell ⟨R, q * 3 + 1, none⟩ (.string ⟨#[]⟩)).setCell ⟨R, q * 3 + 2, none⟩ (.int .i64 0) = w4 at *
    go_wp2_with fail
    go_ret
    rw [HE2.out]
    exact ⟨rfl, turns_setX HK3.out _ _, HG3.out⟩
end Go.Proofs.YthgbdaladngpdaaGreat.Slo
