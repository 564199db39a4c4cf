/- The contract of Set: it answers what the plain function does and leaves the table so; it turns that table alone. The table is as it may be, the key has at most 1000 bytes. -/
import Derived.Test.YthgbdaladngpdaaGreatSloFind
import Derived.Deep.RegionHeld3
namespace Go.Proofs.YthgbdaladngpdaaGreat.Slo
open Go.ChangeShapes Go.WideShapes Go.ChangeAt Go.RowKit
set_option linter.unusedVariables false
set_option maxRecDepth 100000
set_option linter.unusedSimpArgs false

/- Two blocks may have turned, all else that was there stands. -/
def Turns (X R : Nat) (w w' : World) : Prop :=
  w'.os = w.os ∧ w'.output = w.output ∧ w.heap.size ≤ w'.heap.size ∧ ∀ k, k < w.heap.size → k ≠ X → k ≠ R → w'.heap[k]? = w.heap[k]?
section
variable {X R : Nat} {u v w w' : World}
theorem turns_kept (h : Kept w w') : Turns X R w w' := ⟨kept_os h, kept_output h, h.2, fun k hk _ _ => kept_block h hk⟩
theorem turns_refl : Turns X R w w := turns_kept (kept_refl w)
theorem turns_trans (h : Turns X R u v) (k : Turns X R v w) : Turns X R u w :=
  ⟨k.1.trans h.1, k.2.1.trans h.2.1, Nat.le_trans h.2.2.1 k.2.2.1, fun i hi hn hm => (k.2.2.2 i (Nat.lt_of_lt_of_le hi h.2.2.1) hn hm).trans (h.2.2.2 i hi hn hm)⟩
theorem turns_setX (h : Turns X R u w) (o : Nat) (x : Value) : Turns X R u (w.setCell ⟨X, o, none⟩ x) :=
  ⟨h.1, h.2.1, by simpa [World.setCell] using h.2.2.1, fun k hk hn hm => (Below.heap_setCell _ _ _ _ hn).trans (h.2.2.2 k hk hn hm)⟩
theorem turns_setR (h : Turns X R u w) (o : Nat) (x : Value) : Turns X R u (w.setCell ⟨R, o, none⟩ x) :=
  ⟨h.1, h.2.1, by simpa [World.setCell] using h.2.2.1, fun k hk hn hm => (Below.heap_setCell _ _ _ _ hm).trans (h.2.2.2 k hk hn hm)⟩
theorem turns_set3 (h : Turns X R u w) (o : Nat) (a b c : Value) : Turns X R u (set3 w R o a b c) := turns_setR (turns_setR (turns_setR h _ _) _ _) _ _
theorem turns_drew (h : Turns X R u w) : Turns X R u w.drew := h
theorem kept_turns {W : World} (h : Kept W w) (hX : W.heap.size ≤ X) (hR : W.heap.size ≤ R) (hT : Turns X R w w') : Kept W w' :=
  kept_of (hT.1.trans (kept_os h)) (hT.2.1.trans (kept_output h)) (Nat.le_trans h.2 hT.2.2.1) (fun i hi => (hT.2.2.2 i (Nat.lt_of_lt_of_le hi h.2) (by omega) (by omega)).trans (kept_block h hi))
theorem at_turns {Y T : Nat} {cs : Array Value} (h : At w Y cs T) (hT : Turns X R w w') (h1 : Y ≠ X) (h2 : Y ≠ R) : At w' Y cs T := (hT.2.2.2 Y (at_lt h) h1 h2).trans h
theorem row_turns {Y T m : Nat} {L : Tb} (h : RowT w T Y m L) (hT : Turns X R w w') (h1 : Y ≠ X) (h2 : Y ≠ R) : RowT w' T Y m L := row_block h (hT.2.2.2 Y (row_lt h) h1 h2)
end
section
variable {w w' : World} {X R m most : Nat} {L : Tb}
theorem set3_at {Y T o : Nat} {cs : Array Value} {a b c : Value} (h : At w Y cs T) (hn : Y ≠ R) : At (set3 w R o a b c) Y cs T := at_other (at_other (at_other h hn _ _) hn _ _) hn _ _
theorem set3_cell (g : Good w X R m most L) (o : Nat) (a b c : Value) : (((w.setCell ⟨R, o, none⟩ a).setCell ⟨R, o + 1, none⟩ b).setCell ⟨R, o + 2, none⟩ c).cell? ⟨X, 0, none⟩ = some (.slice (some ⟨R, 0, none⟩) m m) :=
  (at_cells3 (set3_at (o := o) (a := a) (b := b) (c := c) g.tab.1 (tab_ne g.tab))).1
theorem small_put {L : Tb} {k : ByteArray} (h : ∀ i, (L i).key.size ≤ 1000) (hk : k.size ≤ 1000) (a : Nat) (b : Bool) (v : Int) (i : Nat) : (upd L a ⟨b, k, v⟩ i).key.size ≤ 1000 := by
  unfold upd; split
  · exact hk
  · exact h i
/- A key that is there. -/
theorem good_over (g : Good w X R m most L) {k : ByteArray} (hk : k.size ≤ 1000) {a : Nat} (f : Found (hm m) m L k a) (t : (L a).taken = true) (v : Int) :
    Good (w.setCell ⟨R, a * 3 + 2, none⟩ (.int .i64 v)) X R m most (upd L a ⟨true, k, v⟩) := by
  have e : (⟨(L a).taken, (L a).key, v⟩ : Sl) = ⟨true, k, v⟩ := by rw [t, f.mine t]
  have hr := row_setv g.tab.2 f.lt v
  rw [e] at hr
  have hc : cnt (upd L a ⟨true, k, v⟩) m = cnt L m := by
    have := cnt_upd L (i := a) (n := m) ⟨true, k, v⟩ f.lt
    rw [if_pos t] at this
    simpa using this
  refine ⟨⟨?_, hr⟩, ok_put g.ok f v, g.some, g.fit, by rw [hc]; exact g.full, g.low, fun i => small_put g.small hk a true v i⟩
  rw [hc]
  exact at_other g.tab.1 (tab_ne g.tab) _ _
/- A key that is added. -/
theorem good_add (g : Good w X R m most L) {k : ByteArray} (hk : k.size ≤ 1000) {a : Nat} (f : Found (hm m) m L k a) (t : (L a).taken = false) (c : cnt L m < most) (v : Int) :
    Good ((set3 w R (a * 3) (.bool true) (.string k) (.int .i64 v)).setCell ⟨X, 2, none⟩ (.int .i64 ((cnt L m : Int) + 1))) X R m most (upd L a ⟨true, k, v⟩) := by
  have hr := row_set3 g.tab.2 f.lt ⟨true, k, v⟩
  have hc : cnt (upd L a ⟨true, k, v⟩) m = cnt L m + 1 := by
    have := cnt_upd L (i := a) (n := m) ⟨true, k, v⟩ f.lt
    rw [t] at this
    simpa using this
  refine ⟨⟨?_, row_other hr _ (Ne.symm (tab_ne g.tab))⟩, ok_put g.ok f v, g.some, g.fit, by rw [hc]; exact c, g.low, fun i => small_put g.small hk a true v i⟩
  rw [hc]
  exact at_set (set3_at g.tab.1 (tab_ne g.tab)) 2 _
end
set_option maxHeartbeats 1600000 in
theorem set_any {X R m most : Nat} {L : Tb} (k : ByteArray) (hk : k.size ≤ 1000) (v : Int) (w : World) (g : Good w X R m most L) :
    Calls Tryz.prog 79 #[.pointer (some ⟨X, 0, none⟩), .string k, .int .i64 v] w fun e w' => e = .returned (.int .i64 (((setT (hm m) m most L k v).1 : Nat) : Int)) ∧ Turns X R w w' ∧ Good w' X R m most (setT (hm m) m most L k v).2 := by
  have hkm : k.size ≤ maxLen := by unfold maxLen; omega
  have hk47 : k.size ≤ 140737488355328 := by omega
  have hf := find_any k hkm w g
  have HF := hid (spot_found (k := k) g.ok g.free)
  have HE : Hid (setT (hm m) m most L k v = if (L (spot (hm m) m L k)).taken = true then (0, upd L (spot (hm m) m L k) ⟨true, k, v⟩) else if cnt L m = most then (6, L) else (0, upd L (spot (hm m) m L k) ⟨true, k, v⟩)) := rfl
  have HG := hid g
  have HKk := hid hk
  clear g hkm hk
  generalize spot (hm m) m L k = a at *
  have ha := HF.out.lt
  cases t : (L a).taken with
  | true =>
    have HE2 : Hid (setT (hm m) m most L k v = (0, upd L a ⟨true, k, v⟩)) := hid (by rw [HE.out, if_pos t])
    rw [t] at hf
    have HT := hid t
    clear HE t
    go_enter Tryz.func79, Tryz.ntmps79
    go_wp2_with fail
    refine hf.mono ?_
    rintro e w1 ⟨rfl, k1⟩
    have HG1 := hid (good_kept HG.out k1)
    obtain ⟨c0, c1, c2, fr⟩ := at_cells3 HG1.out.tab.1
    obtain ⟨r0, r1, r2, rf⟩ := row_cells HG1.out.tab.2 ha
    go_wp2_with fail
    go_ret
    rw [HE2.out]
    exact ⟨rfl, turns_setR (turns_kept k1) _ _, good_over HG1.out HKk.out HF.out HT.out v⟩
  | false =>
    rw [t] at hf
    have HT := hid t
    by_cases hc : cnt L m = most
    · have HE2 : Hid (setT (hm m) m most L k v = (6, L)) := hid (by rw [HE.out, if_neg (by rw [t]; simp), if_pos hc])
      have hc2 : ((cnt L m : Int) == (most : Int)) = true := by simp; omega
      clear HE t hc
      go_enter Tryz.func79, Tryz.ntmps79
      go_wp2_with fail
      refine hf.mono ?_
      rintro e w1 ⟨rfl, k1⟩
      have HG1 := hid (good_kept HG.out k1)
      obtain ⟨c0, c1, c2, fr⟩ := at_cells3 HG1.out.tab.1
      go_wp2_with fail
      go_quiet (fail)
      go_wp2_with fail
      go_ret
      rw [HE2.out]
      exact ⟨rfl, turns_kept k1, good_kept HG1.out (kept_drewN (kept_refl _) _)⟩
    · have HE2 : Hid (setT (hm m) m most L k v = (0, upd L a ⟨true, k, v⟩)) := hid (by rw [HE.out, if_neg (by rw [t]; simp), if_neg hc])
      have hc2 : ((cnt L m : Int) == (most : Int)) = false := by simp; omega
      have HC : Hid (cnt L m < most) := hid (by have := HG.out.full; omega)
      have hcl : cnt L m ≤ 4096 := by have := HG.out.free; have := HG.out.low; omega
      clear HE t hc
      go_enter Tryz.func79, Tryz.ntmps79
      go_wp2_with fail
      refine hf.mono ?_
      rintro e w1 ⟨rfl, k1⟩
      have HG1 := hid (good_kept HG.out k1)
      have HK1 := hid k1
      obtain ⟨c0, c1, c2, fr⟩ := at_cells3 HG1.out.tab.1
      go_wp2_with fail
      go_quiet (fail)
      clear c0 c1 c2 fr hf k1
      replace HK1 := hid (kept_drewN HK1.out nq)
      replace HG1 := hid (good_kept HG1.out (kept_drewN (kept_refl _) nq))
      generalize w1.drewN nq = w2 at *
      have hS := (at_cells3 HG1.out.tab.1).1
      go_wp2_with fail
      replace HK1 := hid (kept_drew HK1.out)
      replace HG1 := hid (good_kept HG1.out (kept_drew (kept_refl _)))
      refine wp_region_noPanic ?_
      refine wp_region_held_drew (S := (fun w' => w'.cell? ⟨X, 0, none⟩ = some (.slice (some ⟨R, 0, none⟩) m m))) (by kernel_rfl) (by assumption) (fun hHeld => ?_)
      refine wpAnyH_take (i := 0) (v := .pointer (some ⟨X, 0, none⟩)) rfl (by kernel_rfl) (by kernel_rfl) (by kernel_rfl) (fun _ _ _ h => h) (Or.inl ⟨by rfl, fun w hSw => by (try dsimp only at hSw); go_simp⟩) (by assumption) ?_
      try simp only [List.getElem_toArray, List.getElem_cons_zero, List.getElem_cons_succ, Act.put, List.setIfInBounds_toArray, List.set_cons_zero, List.set_cons_succ]
      refine wpAnyH_take (i := 1) (v := .pointer (some ⟨X, 0, none⟩)) rfl (by kernel_rfl) (by kernel_rfl) (by kernel_rfl) (fun _ _ _ h => h) (Or.inl ⟨by rfl, fun w hSw => by (try dsimp only at hSw); go_simp⟩) (by assumption) ?_
      try simp only [List.getElem_toArray, List.getElem_cons_zero, List.getElem_cons_succ, Act.put, List.setIfInBounds_toArray, List.set_cons_zero, List.set_cons_succ]
      refine wpAnyH_take (i := 2) (v := .pointer (some ⟨X, 0, none⟩)) rfl (by kernel_rfl) (by kernel_rfl) (by kernel_rfl) (fun _ _ _ h => h) (Or.inl ⟨by rfl, fun w hSw => by (try dsimp only at hSw); go_simp⟩) (by assumption) ?_
      try simp only [List.getElem_toArray, List.getElem_cons_zero, List.getElem_cons_succ, Act.put, List.setIfInBounds_toArray, List.set_cons_zero, List.set_cons_succ]
      refine wpAnyH_take (i := 3) (v := .slice (some ⟨R, 0, none⟩) m m) rfl (by kernel_rfl) (by kernel_rfl) (by kernel_rfl) (fun _ _ _ h => h) (Or.inl ⟨by rfl, fun w hSw => by (try dsimp only at hSw); go_simp⟩) (by assumption) ?_
      try simp only [List.getElem_toArray, List.getElem_cons_zero, List.getElem_cons_succ, Act.put, List.setIfInBounds_toArray, List.set_cons_zero, List.set_cons_succ]
      refine wpAnyH_take (i := 4) (v := .int .i64 (a : Int)) rfl (by kernel_rfl) (by kernel_rfl) (by kernel_rfl) (fun _ _ _ h => h) (Or.inl ⟨by rfl, fun w hSw => by (try dsimp only at hSw); go_simp⟩) (by assumption) ?_
      try simp only [List.getElem_toArray, List.getElem_cons_zero, List.getElem_cons_succ, Act.put, List.setIfInBounds_toArray, List.set_cons_zero, List.set_cons_succ]
      refine wpAnyH_take (i := 5) (v := .string k) rfl (by kernel_rfl) (by kernel_rfl) (by kernel_rfl) (fun _ _ _ h => h) (Or.inl ⟨by rfl, fun w hSw => by (try dsimp only at hSw); go_simp⟩) (by assumption) ?_
      try simp only [List.getElem_toArray, List.getElem_cons_zero, List.getElem_cons_succ, Act.put, List.setIfInBounds_toArray, List.set_cons_zero, List.set_cons_succ]
      refine wpAnyH_take (i := 7) (v := .int .i64 v) rfl (by kernel_rfl) (by kernel_rfl) (by kernel_rfl) (fun _ _ _ h => h) (Or.inl ⟨by rfl, fun w hSw => by (try dsimp only at hSw); go_simp⟩) (by assumption) ?_
      try simp only [List.getElem_toArray, List.getElem_cons_zero, List.getElem_cons_succ, Act.put, List.setIfInBounds_toArray, List.set_cons_zero, List.set_cons_succ]
      refine wpAnyH_ready (rs := [6]) (by kernel_rfl) (by simp) ?_
      refine AllReadyH.cons (i := 6) rfl (fun K hK => ?_) AllReadyH.nil
      go_simp
      refine (clone_any k hk47 _).mono ?_
      rintro e w3 ⟨rfl, h3⟩
      replace HK1 := hid (kept_trans HK1.out (kept_below h3))
      replace HG1 := hid (good_kept HG1.out (kept_below h3))
      clear h3
      have hS := (at_cells3 HG1.out.tab.1).1
      clear hHeld
      show K _ _
      refine hK.out _ _ (by assumption) (fun hHeld => ?_)
      clear hK K
      try simp only [List.getElem_toArray, List.getElem_cons_zero, List.getElem_cons_succ, Act.put, List.setIfInBounds_toArray, List.set_cons_zero, List.set_cons_succ]
      refine wpAnyH_take (i := 8) (v := .agg #[.bool true, .string k, .int .i64 v]) rfl (by kernel_rfl) (by kernel_rfl) (by kernel_rfl) (fun _ _ _ h => h) (Or.inl ⟨by rfl, fun w hSw => by (try dsimp only at hSw); go_simp⟩) (by assumption) ?_
      try simp only [List.getElem_toArray, List.getElem_cons_zero, List.getElem_cons_succ, Act.put, List.setIfInBounds_toArray, List.set_cons_zero, List.set_cons_succ]
      refine wpAnyH_take (i := 9) (v := .pointer (some ⟨R, a * 3, none⟩)) rfl (by kernel_rfl) (by kernel_rfl) (by kernel_rfl) (fun _ _ _ h => h) (Or.inl ⟨by rfl, fun w hSw => by (try dsimp only at hSw); go_simp⟩) (by assumption) ?_
      try simp only [List.getElem_toArray, List.getElem_cons_zero, List.getElem_cons_succ, Act.put, List.setIfInBounds_toArray, List.set_cons_zero, List.set_cons_succ]
      refine wpAnyH_ready (rs := [10]) (by kernel_rfl) (by simp) ?_
      refine AllReadyH.cons (i := 10) rfl (fun K hK => ?_) AllReadyH.nil
      obtain ⟨r0, r1, r2, rf⟩ := row_cells HG1.out.tab.2 ha
      go_simp
      have hS := set3_cell HG1.out (a * 3) (.bool true) (.string k) (.int .i64 v)
      clear hHeld
      show K _ _
      refine hK.out _ _ (by assumption) (fun hHeld => ?_)
      clear hK K
      try simp only [List.getElem_toArray, List.getElem_cons_zero, List.getElem_cons_succ, Act.put, List.setIfInBounds_toArray, List.set_cons_zero, List.set_cons_succ]
      refine wpAnyH_done (by kernel_rfl) ?_ _
      refine NoPanic.normal ?_
      have HG3 := hid (good_add HG1.out HKk.out HF.out HT.out HC.out v)
      have HK3 := hid (turns_set3 (turns_kept (X := X) (R := R) HK1.out) (a * 3) (.bool true) (.string k) (.int .i64 v))
      obtain ⟨d0, d1, d2, df⟩ := at_cells3 (set3_at (o := a * 3) (a := .bool true) (b := .string k) (c := .int .i64 v) HG1.out.tab.1 (tab_ne HG1.out.tab))
      unfold set3 at *
      generalize ((w3.setCell ⟨R, a * 3, none⟩ (.bool true)).setCell ⟨R, a * 3 + 1, none⟩ (.string k)).setCell ⟨R, a * 3 + 2, none⟩ (.int .i64 v) = w4 at *
      go_wp2_with fail
      go_ret
      rw [HE2.out]
      exact ⟨rfl, turns_setX HK3.out _ _, HG3.out⟩
end Go.Proofs.YthgbdaladngpdaaGreat.Slo
