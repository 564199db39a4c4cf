/- The contract of the reference's Due. A row has at most 1000 items. -/
import Derived.Test.YtdmgdmhggmehgaaRef
namespace Go.Proofs.Ytdmgdmhggmehgaa
open Go.ChangeShapes Go.WideShapes Go.ChangeAt Go.RowKit
set_option linter.unusedVariables false
set_option linter.unusedSimpArgs false

theorem ids_app (l : List It) (x : It) : ids (l ++ [x]) = ids l ++ [x.2] := by unfold ids; simp
theorem ids_len (l : List It) : (ids l).length = l.length := by unfold ids; simp
theorem due_on {l : List It} {x : It} {t : Int} (h : x.1 ≤ t) : due (l ++ [x]) t = due l t ++ [x] ∧ aft (l ++ [x]) t = aft l t := by
  unfold due aft
  constructor
  · rw [List.filter_append]; simp [h]
  · rw [List.filter_append]; simp [h]
theorem due_by {l : List It} {x : It} {t : Int} (h : ¬ x.1 ≤ t) : due (l ++ [x]) t = due l t ∧ aft (l ++ [x]) t = aft l t ++ [x] := by
  have h' : t < x.1 := by omega
  unfold due aft
  constructor
  · rw [List.filter_append]; simp [h']
  · rw [List.filter_append]; simp [h']
theorem due_len (l : List It) (t : Int) : (due l t).length ≤ l.length := List.length_filter_le _ _
theorem aft_len (l : List It) (t : Int) : (aft l t).length ≤ l.length := List.length_filter_le _ _
/- Rows of unlike kinds don't turn each other. -/
theorem own_grown {w w' : World} {B n : Nat} {v u : Value} {xs : List Int} {ys : List Value} (h : OwnI w B v xs) (g : w.grownBy w' u.ownBlock) (o : w.ownsRow B 43 2 u n ys) : OwnI w' B v xs :=
  own_kept h (fun i cur _ ha => g.block i (at_lt ha) (fun e => by
    rcases o.2 with ⟨rfl, _⟩ | ⟨q, cap, cs, rfl, _, hq, _⟩
    · cases e
    · injection e with e
      exact at_ne ha hq (by decide) e))
theorem ownt_grown {w w' : World} {B n : Nat} {v u : Value} {l : List It} {ys : List Value} (h : OwnT w B v l) (g : w.grownBy w' u.ownBlock) (o : w.ownsRow B 3 1 u n ys) : OwnT w' B v l :=
  ownt_kept h (fun i cur _ ha => g.block i (at_lt ha) (fun e => by
    rcases o.2 with ⟨rfl, _⟩ | ⟨q, cap, cs, rfl, _, hq, _⟩
    · cases e
    · injection e with e
      exact at_ne ha hq (by decide) e))
theorem own_empty (w : World) : OwnI (w.alloc (.cells #[] 3)) w.heap.size (.slice (some ⟨w.heap.size, 0, none⟩) 0 0) [] := own_built w _ (Nat.le_refl _) [] (by decide)
/- What it answers and leaves. -/
def DuesC (l : List It) (t : Int) (w : World) (e : Ending) (w' : World) : Prop := ∃ v u, e = .returned (.tuple #[v, u]) ∧ OwnI w' w.heap.size v (ids (due l t)) ∧ OwnT w' w.heap.size u (aft l t) ∧ Kept w w'
set_option maxHeartbeats 3200000 in
theorem dues_any (l : List It) (hn : l.length ≤ 1000) (va : Value) (t : Int) (w : World) (ha : RdM w va l) : Calls Try.prog 12 #[va, .int .u64 t] w (DuesC l t w) := by
  have HR := hid ha
  obtain ⟨a, c, rfl, -⟩ := ha
  obtain ⟨i0, hi, hz0, hz1, hz2⟩ := info_parts (P := Try.prog) (e := 43) info43
  have HI := hid (And.intro hi (And.intro hz0 (And.intro hz1 hz2)))
  obtain ⟨j0, hj, hy0, hy1, hy2⟩ := info_parts (P := Try.prog) (e := 3) info3
  have HJ := hid (And.intro hj (And.intro hy0 (And.intro hy1 hy2)))
  have HX : Hid (∀ j, j < l.length → ∃ x, l[j]? = some x ∧ l.take (j + 1) = l.take j ++ [x]) := hid (fun j h => ⟨l[j], by simp [h], List.take_succ_eq_append_getElem h⟩)
  have HTa : Hid (l.take l.length = l) := hid (List.take_length)
  have HEnd : Hid (∀ v u z, OwnI z w.heap.size v (ids (due l t)) → OwnT z w.heap.size u (aft l t) → Kept w z → DuesC l t w (.returned (.tuple #[v, u])) z) := hid (fun v u z h1 h2 h3 => ⟨v, u, rfl, h1, h2, h3⟩)
  have HBK : Hid (∀ u, Kept w u → w.heap.size ≤ u.heap.size) := hid (fun u h => h.2)
  have HKG : Hid (∀ u u' row, Kept w u → u.grownBy u' row → (∀ j, row = some j → w.heap.size ≤ j) → Kept w u') := hid (fun u u' row h g hr => kept_grown h g hr)
  have HO0 : Hid (OwnI ((w.alloc (.cells #[] 3)).alloc (.cells #[] 43)) w.heap.size (.slice (some ⟨w.heap.size, 0, none⟩) 0 0) (ids (due (l.take 0) t))) := hid (own_stays (own_empty w) (kept_alloc (kept_refl _) _))
  have HU0 : Hid (OwnT ((w.alloc (.cells #[] 3)).alloc (.cells #[] 43)) w.heap.size (.slice (some ⟨w.heap.size + 1, 0, none⟩) 0 0) (aft (l.take 0) t)) := hid (by
    have h := ownt_built (w.alloc (.cells #[] 3))
    rw [show (w.alloc (.cells #[] 3)).heap.size = w.heap.size + 1 by simp] at h
    exact ownt_low h (by omega))
  have HK0 := hid (kept_alloc (kept_alloc (kept_refl w) (.cells #[] 3)) (.cells #[] 43))
  clear hi hz0 hz1 hz2 hj hy0 hy1 hy2
  generalize hm : l.length = m at *
  have HM := hid hm
  clear hm
  go_enter Try.func12, Try.ntmps12
  go_wp2_with fail
  generalize (w.alloc (.cells #[] 3)).alloc (.cells #[] 43) = w1 at *
  generalize w.heap.size + 1 = B1 at *
  generalize w.heap.size = B at *
  go_loopw [6, 7, 13] (fun ks us j wr => ∃ n : Nat, n ≤ m ∧ j = .int .i64 (n : Int) ∧ Hid (OwnI wr B ks (ids (due (l.take n) t))) ∧ Hid (OwnT wr B us (aft (l.take n) t)) ∧ Hid (Kept w wr)) (fun _ _ j _ => m - (intOf j).toNat)
  case atStart => exact ⟨0, Nat.zero_le _, rfl, HO0, HU0, HK0⟩
  case round =>
    obtain ⟨n, hk, rfl, HO, HU, HK⟩ := hrel
    clear HO0 HU0 HK0
    have HB := hid (HBK.out _ HK.out)
    by_cases hlt : n < m
    · obtain ⟨x, hx, hT⟩ := HX.out n hlt
      obtain ⟨a', c', e0, h1⟩ := rdm_kept HR.out HK.out
      injection e0 with e0 e2 e1
      clear e2
      subst e0 e1
      obtain ⟨g1, rfl, h3⟩ := h1 (by rw [HM.out]; omega)
      obtain ⟨c1, c2⟩ := h3 n _ hx
      have HT := hid hT
      clear h1 h3 hx hT
      by_cases hx : x.1 ≤ t
      · have HS := hid (due_on (l := l.take n) hx)
        have HO2 := hid (World.ownsRow.alloc HO.out (.cells #[.int .i64 x.2] 3))
        have HU2 := hid (ownt_stays HU.out (kept_alloc (kept_refl wr) (.cells #[.int .i64 x.2] 3)))
        have HKa := hid (kept_alloc HK.out (.cells #[.int .i64 x.2] 3))
        have hq : (ids (due (l.take n) t)).length ≤ 1000 := by rw [ids_len]; have := due_len (l.take n) t; simp at this; omega
        generalize hqq : (ids (due (l.take n) t)).length = q at *
        have HQ := hid hqq
        clear hqq
        go_wp2_with (at_builtin; go_must (refine wpList_append_own _ rfl (.tmp 23) (.tmp 29) 34 rfl B 3 j0 (.int .i64 0) 1 8 Try.underlying34 HJ.out.1 HJ.out.2.1 HJ.out.2.2.1 HJ.out.2.2.2 rfl (by decide) _ _ _ rfl HO2.out ⟨wr.heap.size, 0, none⟩ 1 1 [.int .i64 x.2] rfl rfl (cell_one _ _) (by intro u hu; simp at hu; subst hu; rfl) (by unfold maxLen; omega) (by omega) (by have := HB.out; simp; omega) ?_; intro v3 w3 hown3 hgrow3 hnil3))
        have HOn : Hid (OwnI w3 B v3 (ids (due (l.take (n + 1)) t))) := hid (by
          rw [HT.out, HS.out.1, ids_app]
          refine own_len (m := q + 1) ?_ (by simp [HQ.out])
          rw [iv_snoc]
          exact hown3)
        have HUn : Hid (OwnT w3 B u7 (aft (l.take (n + 1)) t)) := hid (by
          rw [HT.out, HS.out.2]
          exact ownt_grown HU2.out hgrow3 HO2.out)
        have HKn := hid (HKG.out _ _ _ HKa.out hgrow3 (fun j hj => (World.ownsRow.lt HO2.out j hj).1))
        go_roundw
        case rel => exact ⟨n + 1, by omega, by go_num, HOn, HUn, HKn⟩
        case measure => simp [intOf]; omega
      · have hd : decide (x.1 ≤ t) = false := by simpa using hx
        have HS := hid (due_by (l := l.take n) hx)
        have HO2 := hid (own_stays HO.out (kept_alloc (kept_refl wr) (.cells #[.int .i64 x.2, .int .u64 x.1] 43)))
        have HU2 := hid (World.ownsRow.alloc HU.out (.cells #[.int .i64 x.2, .int .u64 x.1] 43))
        have HKa := hid (kept_alloc HK.out (.cells #[.int .i64 x.2, .int .u64 x.1] 43))
        have HAa := hid (at_new wr #[.int .i64 x.2, .int .u64 x.1] 43)
        have hq : (aft (l.take n) t).length ≤ 1000 := by have := aft_len (l.take n) t; simp at this; omega
        generalize hqq : (aft (l.take n) t).length = q at *
        have HQ := hid hqq
        clear hqq hx
        go_wp2_with (at_builtin; go_must (refine wpList_append_own _ rfl (.tmp 31) (.tmp 36) 25 rfl B 43 i0 (.agg #[.int .i64 0, .int .u64 0]) 2 16 Try.underlying25 HI.out.1 HI.out.2.1 HI.out.2.2.1 HI.out.2.2.2 rfl (by decide) _ _ _ rfl HU2.out ⟨wr.heap.size, 0, none⟩ 1 1 [.int .i64 x.2, .int .u64 x.1] rfl rfl (pair_cells HAa.out) (by intro u hu; simp at hu; rcases hu with rfl | rfl <;> rfl) (by unfold maxLen; omega) (by omega) (by have := HB.out; simp; omega) ?_; intro v3 w3 hown3 hgrow3 hnil3))
        have HUn : Hid (OwnT w3 B v3 (aft (l.take (n + 1)) t)) := hid (by
          rw [HT.out, HS.out.2]
          refine ownt_len (m := q + 1) ?_ (by simp [HQ.out])
          rw [tw_app]
          exact hown3)
        have HOn : Hid (OwnI w3 B u6 (ids (due (l.take (n + 1)) t))) := hid (by
          rw [HT.out, HS.out.1]
          exact own_grown HO2.out hgrow3 HU2.out)
        have HKn := hid (HKG.out _ _ _ HKa.out hgrow3 (fun j hj => (World.ownsRow.lt HU2.out j hj).1))
        go_roundw
        case rel => exact ⟨n + 1, by omega, by go_num, HOn, HUn, HKn⟩
        case measure => simp [intOf]; omega
    · have he : n = m := by omega
      subst he
      rw [HTa.out] at HO HU
      go_wp2_with fail
      go_ret2
      exact HEnd.out _ _ _ HO.out HU.out HK.out
end Go.Proofs.Ytdmgdmhggmehgaa
