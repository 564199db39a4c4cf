/- The contracts of the reference: Same, of two rows with the same numbers; Without; Use. The rows have at most 4096 numbers. They turn nothing that was there. -/
import Derived.Test.YtnpfjfolpfokoaaInts
namespace Go.Proofs.Ytnpfjfolpfokoaa
open Go.ChangeShapes Go.WideShapes Go.ChangeAt Go.RowKit
set_option linter.unusedVariables false
set_option linter.unusedSimpArgs false

set_option maxHeartbeats 1600000 in
theorem same_any (xs : List Int) (hn : xs.length ≤ 4096) (va vb : Value) (w : World) (ha : Rw w va xs) (hb : Rw w vb xs) :
    Calls Try.prog 14 #[va, vb] w fun e w' => e = .returned (.bool true) ∧ Kept w w' := by
  obtain ⟨a, c, rfl, h1⟩ := ha
  obtain ⟨b, d, rfl, h2⟩ := hb
  have H1 := hid h1
  have H2 := hid h2
  have HX : Hid (∀ k, k < xs.length → ∃ x, xs[k]? = some x) := hid (fun k h => ⟨xs[k], by simp [h]⟩)
  clear h1 h2
  generalize hm : xs.length = m at *
  have HM := hid hm
  clear hm
  go_enter Try.func14, Try.ntmps14
  go_wp2_with fail
  go_loopw [13] (fun j wr => ∃ k : Nat, k ≤ m ∧ j = .int .i64 k ∧ Hid (Kept w wr)) (fun j _ => m - (intOf j).toNat)
  case atStart => exact ⟨0, Nat.zero_le _, rfl, hid (kept_refl w)⟩
  case round =>
    obtain ⟨k, hk, rfl, HK⟩ := hrel
    by_cases hlt : k < m
    · obtain ⟨g1, o1, rfl, h3⟩ := H1.out (by omega)
      obtain ⟨g2, o2, rfl, h4⟩ := H2.out (by omega)
      obtain ⟨x, hx⟩ := HX.out k hlt
      have e1 := h3 k _ hx
      have e2 := h4 k _ hx
      have c1 := (kept_cell HK.out (cell_lt e1)).trans e1
      have c2 := (kept_cell HK.out (cell_lt e2)).trans e2
      have hne : (x != x) = false := by simp
      clear h3 h4 e1 e2 hx
      go_wp2_with fail
      go_quiet (fail)
      go_wp2_with fail
      go_roundw
      case rel => exact ⟨k + 1, by omega, by go_num, hid (kept_drewN HK.out _)⟩
      case measure => simp [intOf]; omega
    · have he : k = m := by omega
      subst he
      go_wp2_with fail
      go_ret
      exact ⟨rfl, HK.out⟩
def woI (xs : List Int) (i : Int) : List Int := xs.filter (fun x => x != i)
def inI (xs : List Int) (i : Int) : Bool := xs.any (fun x => x == i)
theorem wo_on {xs : List Int} {x i : Int} (h : x ≠ i) : woI (xs ++ [x]) i = woI xs i ++ [x] ∧ inI (xs ++ [x]) i = inI xs i := by
  unfold woI inI
  constructor
  · rw [List.filter_append]; simp [h]
  · simp [h]
theorem wo_by {xs : List Int} {x i : Int} (h : x = i) : woI (xs ++ [x]) i = woI xs i ∧ inI (xs ++ [x]) i = true := by
  unfold woI inI
  constructor
  · rw [List.filter_append]; simp [h]
  · simp [h]
theorem woI_len (xs : List Int) (i : Int) : (woI xs i).length ≤ xs.length := List.length_filter_le _ _
/- What Without answers and leaves. -/
def WithC (xs : List Int) (i : Int) (w : World) (e : Ending) (w' : World) : Prop := ∃ v, e = .returned (.tuple #[v, .bool (inI xs i)]) ∧ OwnI w' w.heap.size v (woI xs i) ∧ v ≠ .slice none 0 0 ∧ Kept w w'
theorem built_empty (w : World) : OwnI (w.alloc (.cells #[] 3)) w.heap.size (.slice (some ⟨w.heap.size, 0, none⟩) 0 0) (woI ([] : List Int) 0) := own_built w _ (Nat.le_refl _) [] (by decide)
set_option maxHeartbeats 3200000 in
theorem without_any (xs : List Int) (hn : xs.length ≤ 4096) (va : Value) (i : Int) (w : World) (ha : Rw w va xs) : Calls Try.prog 9 #[va, .int .i64 i] w (WithC xs i w) := by
  have HR := hid ha
  obtain ⟨a, c, rfl, -⟩ := ha
  obtain ⟨i0, hi, hz0, hz1, hz2⟩ := info_parts (P := Try.prog) (e := 3) info3
  have HI := hid (And.intro hi (And.intro hz0 (And.intro hz1 hz2)))
  have HX : Hid (∀ k, k < xs.length → ∃ x, xs[k]? = some x ∧ xs.take (k + 1) = xs.take k ++ [x]) := hid (fun k h => ⟨xs[k], by simp [h], take_on h⟩)
  have HTa : Hid (xs.take xs.length = xs) := hid (List.take_length)
  have HEnd : Hid (∀ v u, OwnI u w.heap.size v (woI xs i) → v ≠ .slice none 0 0 → Kept w u → WithC xs i w (.returned (.tuple #[v, .bool (inI xs i)])) u) := hid (fun v u h1 h2 h3 => ⟨v, rfl, h1, h2, h3⟩)
  have HBK : Hid (∀ u, Kept w u → w.heap.size ≤ u.heap.size) := hid (fun u h => h.2)
  have HKG : Hid (∀ u u' row, Kept w u → u.grownBy u' row → (∀ k, row = some k → w.heap.size ≤ k) → Kept w u') := hid (fun u u' row h g hr => kept_grown h g hr)
  have HO0 : Hid (OwnI (w.alloc (.cells #[] 3)) w.heap.size (.slice (some ⟨w.heap.size, 0, none⟩) 0 0) (woI (xs.take 0) i)) := hid (built_empty w)
  have HK0 := hid (kept_alloc (kept_refl w) (.cells #[] 3))
  clear hi hz0 hz1 hz2
  generalize hm : xs.length = m at *
  have HM := hid hm
  clear hm
  go_enter Try.func9, Try.ntmps9
  go_wp2_with fail
  generalize w.alloc (.cells #[] 3) = w1 at *
  generalize w.heap.size = B at *
  go_loopw [6, 7, 12] (fun ks t j wr => ∃ k : Nat, k ≤ m ∧ j = .int .i64 k ∧ t = .bool (inI (xs.take k) i) ∧ Hid (OwnI wr B ks (woI (xs.take k) i)) ∧ Hid (ks ≠ .slice none 0 0) ∧ Hid (Kept w wr)) (fun _ _ j _ => m - (intOf j).toNat)
  case atStart => exact ⟨0, Nat.zero_le _, rfl, rfl, HO0, hid (by simp), HK0⟩
  case round =>
    obtain ⟨k, hk, rfl, rfl, HO, HNn, HK⟩ := hrel
    clear HO0 HK0
    have HB := hid (HBK.out _ HK.out)
    by_cases hlt : k < m
    · obtain ⟨x, hx, hT⟩ := HX.out k hlt
      obtain ⟨a', c', e0, h1⟩ := rw_kept HR.out HK.out
      injection e0 with e0 e2 e1
      clear e2
      subst e0 e1
      obtain ⟨g1, o1, rfl, h3⟩ := h1 (by rw [HM.out]; omega)
      have c1 := h3 k _ hx
      have HT := hid hT
      clear h1 h3 hx hT
      by_cases hx : x = i
      · have hxe : (x == i) = true := by simpa using hx
        have HS := hid (wo_by (xs := xs.take k) hx)
        clear hx
        go_wp2_with fail
        go_roundw
        case rel =>
          refine ⟨k + 1, by omega, by go_num, ?_, ?_, HNn, HK⟩
          · rw [HT.out, HS.out.2]
          · show _; rw [HT.out, HS.out.1]; exact HO.out
        case measure => simp [intOf]; omega
      · have hxe : (x == i) = false := by simpa using hx
        have HS := hid (wo_on (xs := xs.take k) hx)
        have HO2 := hid (World.ownsRow.alloc HO.out (.cells #[.int .i64 x] 3))
        have HKa := hid (kept_alloc HK.out (.cells #[.int .i64 x] 3))
        have hq : (woI (xs.take k) i).length ≤ 4096 := by have := woI_len (xs.take k) i; simp at this; omega
        generalize hqq : (woI (xs.take k) i).length = q at *
        have HQ := hid hqq
        clear hx hqq
        go_wp2_with (at_builtin; go_must (refine wpList_append_own _ rfl (.tmp 21) (.tmp 26) 28 rfl B 3 i0 (.int .i64 0) 1 8 Try.underlying28 HI.out.1 HI.out.2.1 HI.out.2.2.1 HI.out.2.2.2 rfl (by decide) _ _ _ rfl HO2.out ⟨wr.heap.size, 0, none⟩ 1 1 [.int .i64 x] rfl rfl (cell_one _ _) (by intro u hu; simp at hu; subst hu; rfl) (by unfold maxLen; omega) (by omega) (by have := HB.out; simp; omega) ?_; intro v3 w3 hown3 hgrow3 hnil3))
        have HOn : Hid (OwnI w3 B v3 (woI (xs.take (k + 1)) i)) := hid (by
          rw [HT.out, HS.out.1]
          refine own_len (m := q + 1) ?_ (by simp [HQ.out])
          rw [iv_snoc]
          exact hown3)
        have HKn := hid (HKG.out _ _ _ HKa.out hgrow3 (fun j hj => (World.ownsRow.lt HO2.out j hj).1))
        go_roundw
        case rel =>
          refine ⟨k + 1, by omega, by go_num, ?_, HOn, hid (fun e => HNn.out (hnil3.1 e).1), HKn⟩
          rw [HT.out, HS.out.2]
        case measure => simp [intOf]; omega
    · have he : k = m := by omega
      subst he
      rw [HTa.out] at HO ⊢
      go_wp2_with fail
      go_ret2
      exact HEnd.out _ _ HO.out HNn.out HK.out
theorem built_one (w : World) (B : Nat) (hB : B ≤ w.heap.size) (i : Int) : (w.alloc (.cells #[.int .i64 i] 3)).ownsRow B 3 1 (.slice (some ⟨w.heap.size, 0, none⟩) 1 1) 1 [.int .i64 i] := own_built w B hB [i] (by simp)
set_option maxHeartbeats 1600000 in
theorem refuse_any (xs : List Int) (hn : xs.length ≤ 4000) (va : Value) (i : Int) (w : World) (ha : Rw w va xs) : Calls Try.prog 12 #[va, .int .i64 i] w (RowC (i :: woI xs i) w) := by
  have hW := without_any xs (by omega) va i w ha
  have hq : (woI xs i).length ≤ 4000 := by have := woI_len xs i; omega
  obtain ⟨i0, hi, hz0, hz1, hz2⟩ := info_parts (P := Try.prog) (e := 3) info3
  have HI := hid (And.intro hi (And.intro hz0 (And.intro hz1 hz2)))
  obtain ⟨a, c, rfl, -⟩ := ha
  clear hi hz0 hz1 hz2
  go_enter Try.func12, Try.ntmps12
  go_wp2_with fail
  refine hW.mono ?_
  rintro e w1 ⟨v, rfl, hv, hne, k1⟩
  obtain ⟨g, cap, rfl⟩ : ∃ g cap, v = .slice (some ⟨g, 0, none⟩) (woI xs i).length cap := by
    rcases hv.2 with ⟨h, _⟩ | ⟨g, cap, cur, h, _⟩
    · exact absurd h hne
    · exact ⟨g, cap, h⟩
  have HB := hid k1.2
  have HV := hid (own_stays hv (kept_alloc (kept_refl w1) (.cells #[.int .i64 i] 3)))
  have HO := hid (built_one w1 w.heap.size k1.2 i)
  have HK := hid (kept_alloc k1 (.cells #[.int .i64 i] 3))
  generalize hqq : (woI xs i).length = q at *
  have HQ := hid hqq
  have HNews : Hid (∀ j u, (iv (woI xs i))[j]? = some u → (w1.alloc (.cells #[.int .i64 i] 3)).cell? ((⟨g, 0, none⟩ : Addr).add j) = some u) := hid (fun j u hu => World.ownsRow.cells HV.out (g := g) rfl j u hu)
  clear hv hne k1 hqq hW
  go_wp2_with (at_builtin; go_must (refine wpList_append_own _ rfl (.tmp 16) (.tmp 17) 28 rfl w.heap.size 3 i0 (.int .i64 0) 1 8 Try.underlying28 HI.out.1 HI.out.2.1 HI.out.2.2.1 HI.out.2.2.2 rfl (by decide) _ _ _ rfl HO.out ⟨g, 0, none⟩ q cap (iv (woI xs i)) rfl (by rw [iv_len, HQ.out, Nat.mul_one]) HNews.out (by intro u hu; unfold iv at hu; simp at hu; obtain ⟨y, _, rfl⟩ := hu; rfl) (by unfold maxLen; omega) (by omega) (by have := HB.out; simp; omega) ?_; intro v3 w3 hown3 hgrow3 hnil3))
  go_ret
  refine ⟨v3, rfl, own_len (m := 1 + q) ?_ (by simp [HQ.out]; omega), kept_grown HK.out hgrow3 (fun j hj => (World.ownsRow.lt HO.out j hj).1)⟩
  exact hown3
end Go.Proofs.Ytnpfjfolpfokoaa
