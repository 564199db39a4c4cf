/- The contracts of the reference: Without, Add, Due, of rows by times. The rows have at most 1000 items. They turn nothing that was there. -/
import Derived.Test.YtdmgdmhggmehgaaOpen
namespace Go.Proofs.Ytdmgdmhggmehgaa
open Go.ChangeShapes Go.WideShapes Go.ChangeAt Go.RowKit
set_option linter.unusedVariables false
set_option linter.unusedSimpArgs false

/- Items as the reference lays them: the id first. -/
def tw (l : List It) : List Value := l.flatMap (fun x => [.int .i64 x.2, .int .u64 x.1])
theorem tw_cons (x : It) (l : List It) : tw (x :: l) = .int .i64 x.2 :: .int .u64 x.1 :: tw l := rfl
theorem tw_len : ∀ l : List It, (tw l).length = l.length * 2
  | [] => rfl
  | x :: l => by rw [tw_cons]; simp [tw_len l]; omega
theorem tw_app (l : List It) (x : It) : tw (l ++ [x]) = tw l ++ [.int .i64 x.2, .int .u64 x.1] := by unfold tw; simp
theorem tw_get : ∀ {l : List It} {i : Nat} {x : It}, l[i]? = some x → (tw l)[i * 2]? = some (.int .i64 x.2) ∧ (tw l)[i * 2 + 1]? = some (.int .u64 x.1)
  | [], i, x, h => by simp at h
  | y :: l, 0, x, h => by simp at h; subst h; exact ⟨rfl, rfl⟩
  | y :: l, i + 1, x, h => by
    simp at h
    have := tw_get h
    rw [tw_cons, show (i + 1) * 2 = i * 2 + 2 by omega]
    exact this
def OwnT (w : World) (B : Nat) (v : Value) (l : List It) : Prop := w.ownsRow B 43 2 v l.length (tw l)
/- A row that is read. -/
def RdM (w : World) (v : Value) (l : List It) : Prop :=
  ∃ a c, v = .slice a l.length c ∧ (0 < l.length → ∃ g, a = some ⟨g, 0, none⟩ ∧ ∀ i x, l[i]? = some x → w.cell? ⟨g, i * 2, none⟩ = some (.int .i64 x.2) ∧ w.cell? ⟨g, i * 2 + 1, none⟩ = some (.int .u64 x.1))
section
variable {w w' : World} {B : Nat} {v : Value} {l : List It}
theorem rdm_kept (h : RdM w v l) (k : Kept w w') : RdM w' v l := by
  obtain ⟨a, c, rfl, h⟩ := h
  refine ⟨a, c, rfl, fun hp => ?_⟩
  obtain ⟨g, rfl, hc⟩ := h hp
  exact ⟨g, rfl, fun i x hx => ⟨(kept_cell k (cell_lt (hc i x hx).1)).trans (hc i x hx).1, (kept_cell k (cell_lt (hc i x hx).2)).trans (hc i x hx).2⟩⟩
theorem ownt_kept (h : OwnT w B v l) (k : ∀ g cur, v.ownBlock = some g → At w g cur 43 → w'.heap[g]? = w.heap[g]?) : OwnT w' B v l := by
  refine ⟨h.1, ?_⟩
  rcases h.2 with hn | ⟨g, cap, cur, rfl, hb, hg, rest⟩
  · exact .inl hn
  · exact .inr ⟨g, cap, cur, rfl, hb, (k g cur rfl hg).trans hg, rest⟩
theorem ownt_stays (h : OwnT w B v l) (k : Kept w w') : OwnT w' B v l := ownt_kept h (fun g cur _ ha => kept_block k (at_lt ha))
theorem ownt_low {B' : Nat} (h : OwnT w B v l) (hb : B' ≤ B) : OwnT w B' v l := by
  refine ⟨h.1, ?_⟩
  rcases h.2 with hn | ⟨g, cap, cur, rfl, hg, rest⟩
  · exact .inl hn
  · exact .inr ⟨g, cap, cur, rfl, Nat.le_trans hb hg, rest⟩
theorem ownt_tn {F : Nat → Prop} (h : OwnT w B v l) (t : Tn F w w') (hF : ∀ g, v.ownBlock = some g → ¬ F g) : OwnT w' B v l := ownt_kept h (fun g cur hg ha => t.2.2.2 g (at_lt ha) (hF g hg))
theorem rdm_own (h : OwnT w B v l) : RdM w v l := by
  rcases h.2 with ⟨rfl, hn⟩ | ⟨g, cap, cur, rfl, hb, hg, rest⟩
  · exact ⟨none, 0, by rw [hn], fun hp => absurd hp (by omega)⟩
  · refine ⟨_, cap, rfl, fun _ => ⟨g, rfl, fun i x hx => ?_⟩⟩
    obtain ⟨t0, t1⟩ := tw_get hx
    have e : ∀ j, (⟨g, 0, none⟩ : Addr).add j = ⟨g, j, none⟩ := fun j => by
      rcases Nat.eq_zero_or_pos j with h0 | h0
      · subst h0; simp [Addr.add]
      · simp [Addr.add]; omega
    have h0 := World.ownsRow.cells h (g := g) rfl _ _ t0
    have h1 := World.ownsRow.cells h (g := g) rfl _ _ t1
    rw [e] at h0 h1
    exact ⟨h0, h1⟩
theorem ownt_len {m : Nat} (h : w.ownsRow B 43 2 v m (tw l)) (e : l.length = m) : OwnT w B v l := by subst e; exact h
theorem ownt_nil (w : World) (B : Nat) : OwnT w B (.slice none 0 0) [] := World.ownsRow_nil w B 43 2
theorem ownt_built (w : World) : OwnT (w.alloc (.cells #[] 43)) w.heap.size (.slice (some ⟨w.heap.size, 0, none⟩) 0 0) [] :=
  ⟨rfl, .inr ⟨w.heap.size, 0, _, rfl, Nat.le_refl _, at_new w _ 43, Nat.le_refl _, by unfold maxLen; omega, rfl, rfl⟩⟩
end
theorem info43 : (Try.prog.info? 43).map (fun i => (i.zero, i.size, i.bytes)) = some (some (.agg #[.int .i64 0, .int .u64 0]), 2, 16) := by kernel_rfl
theorem pair_cells {w : World} {N T : Nat} {a b : Value} (h : At w N #[a, b] T) : ∀ (j : Nat) (u : Value), ([a, b] : List Value)[j]? = some u → w.cell? ((⟨N, 0, none⟩ : Addr).add j) = some u := by
  intro j u hu
  match j, hu with
  | 0, hu => simp at hu; subst hu; exact at_cell h 0
  | 1, hu => simp at hu; subst hu; exact at_cell h 1
  | j + 2, hu => simp at hu
theorem wo_on {l : List It} {x : It} {k : Int} (h : x.2 ≠ k) : wo (l ++ [x]) k = wo l k ++ [x] ∧ hasM (l ++ [x]) k = hasM l k := by
  unfold wo hasM
  constructor
  · rw [List.filter_append]; simp [h]
  · simp [h]
theorem wo_by {l : List It} {x : It} {k : Int} (h : x.2 = k) : wo (l ++ [x]) k = wo l k ∧ hasM (l ++ [x]) k = true := by
  unfold wo hasM
  constructor
  · rw [List.filter_append]; simp [h]
  · simp [h]
theorem wo_len (l : List It) (k : Int) : (wo l k).length ≤ l.length := List.length_filter_le _ _
/- What Without answers and leaves. -/
def WithC (l : List It) (k : Int) (w : World) (e : Ending) (w' : World) : Prop := ∃ v, e = .returned (.tuple #[v, .bool (hasM l k)]) ∧ OwnT w' w.heap.size v (wo l k) ∧ Kept w w'
set_option maxHeartbeats 3200000 in
theorem without_any (l : List It) (hn : l.length ≤ 1000) (va : Value) (k : Int) (w : World) (ha : RdM w va l) : Calls Try.prog 10 #[va, .int .i64 k] w (WithC l k w) := by
  have HR := hid ha
  obtain ⟨a, c, rfl, -⟩ := ha
  obtain ⟨i0, hi, hz0, hz1, hz2⟩ := info_parts (P := Try.prog) (e := 43) info43
  have HI := hid (And.intro hi (And.intro hz0 (And.intro hz1 hz2)))
  have HX : Hid (∀ j, j < l.length → ∃ x, l[j]? = some x ∧ l.take (j + 1) = l.take j ++ [x]) := hid (fun j h => ⟨l[j], by simp [h], List.take_succ_eq_append_getElem h⟩)
  have HTa : Hid (l.take l.length = l) := hid (List.take_length)
  have HEnd : Hid (∀ v u, OwnT u w.heap.size v (wo l k) → Kept w u → WithC l k w (.returned (.tuple #[v, .bool (hasM l k)])) u) := hid (fun v u h1 h3 => ⟨v, rfl, h1, h3⟩)
  have HBK : Hid (∀ u, Kept w u → w.heap.size ≤ u.heap.size) := hid (fun u h => h.2)
  have HKG : Hid (∀ u u' row, Kept w u → u.grownBy u' row → (∀ j, row = some j → w.heap.size ≤ j) → Kept w u') := hid (fun u u' row h g hr => kept_grown h g hr)
  have HO0 : Hid (OwnT (w.alloc (.cells #[] 43)) w.heap.size (.slice (some ⟨w.heap.size, 0, none⟩) 0 0) (wo (l.take 0) k)) := hid (ownt_built w)
  have HK0 := hid (kept_alloc (kept_refl w) (.cells #[] 43))
  clear hi hz0 hz1 hz2
  generalize hm : l.length = m at *
  have HM := hid hm
  clear hm
  go_enter Try.func10, Try.ntmps10
  go_wp2_with fail
  generalize w.alloc (.cells #[] 43) = w1 at *
  generalize w.heap.size = B at *
  go_loopw [6, 7, 12] (fun ks t j wr => ∃ n : Nat, n ≤ m ∧ j = .int .i64 (n : Int) ∧ t = .bool (hasM (l.take n) k) ∧ Hid (OwnT wr B ks (wo (l.take n) k)) ∧ Hid (Kept w wr)) (fun _ _ j _ => m - (intOf j).toNat)
  case atStart => exact ⟨0, Nat.zero_le _, rfl, rfl, HO0, HK0⟩
  case round =>
    obtain ⟨n, hk, rfl, rfl, HO, HK⟩ := hrel
    clear HO0 HK0
    have HB := hid (HBK.out _ HK.out)
    by_cases hlt : n < m
    · obtain ⟨x, hx, hT⟩ := HX.out n hlt
      obtain ⟨a', c', e0, h1⟩ := rdm_kept HR.out HK.out
      injection e0 with e0 e2 e1
      clear e2
      subst e0 e1
      obtain ⟨g1, rfl, h3⟩ := h1 (by rw [HM.out]; omega)
      obtain ⟨c1, c2⟩ := h3 n _ hx
      have HT := hid hT
      clear h1 h3 hx hT
      by_cases hx : x.2 = k
      · have hxe : (x.2 == k) = true := by simpa using hx
        have HS := hid (wo_by (l := l.take n) hx)
        clear hx
        go_wp2_with fail
        go_roundw
        case rel =>
          refine ⟨n + 1, by omega, by go_num, ?_, ?_, HK⟩
          · rw [HT.out, HS.out.2]
          · show _; rw [HT.out, HS.out.1]; exact HO.out
        case measure => simp [intOf]; omega
      · have hxe : (x.2 == k) = false := by simpa using hx
        have HS := hid (wo_on (l := l.take n) hx)
        have HO2 := hid (World.ownsRow.alloc HO.out (.cells #[.int .i64 x.2, .int .u64 x.1] 43))
        have HKa := hid (kept_alloc HK.out (.cells #[.int .i64 x.2, .int .u64 x.1] 43))
        have HAa := hid (at_new wr #[.int .i64 x.2, .int .u64 x.1] 43)
        have hq : (wo (l.take n) k).length ≤ 1000 := by have := wo_len (l.take n) k; simp at this; omega
        generalize hqq : (wo (l.take n) k).length = q at *
        have HQ := hid hqq
        clear hx hqq
        go_wp2_with (at_builtin; go_must (refine wpList_append_own _ rfl (.tmp 22) (.tmp 27) 25 rfl B 43 i0 (.agg #[.int .i64 0, .int .u64 0]) 2 16 Try.underlying25 HI.out.1 HI.out.2.1 HI.out.2.2.1 HI.out.2.2.2 rfl (by decide) _ _ _ rfl HO2.out ⟨wr.heap.size, 0, none⟩ 1 1 [.int .i64 x.2, .int .u64 x.1] rfl rfl (pair_cells HAa.out) (by intro u hu; simp at hu; rcases hu with rfl | rfl <;> rfl) (by unfold maxLen; omega) (by omega) (by have := HB.out; simp; omega) ?_; intro v3 w3 hown3 hgrow3 hnil3))
        have HOn : Hid (OwnT w3 B v3 (wo (l.take (n + 1)) k)) := hid (by
          rw [HT.out, HS.out.1]
          refine ownt_len (m := q + 1) ?_ (by simp [HQ.out])
          rw [tw_app]
          exact hown3)
        have HKn := hid (HKG.out _ _ _ HKa.out hgrow3 (fun j hj => (World.ownsRow.lt HO2.out j hj).1))
        go_roundw
        case rel =>
          refine ⟨n + 1, by omega, by go_num, ?_, HOn, HKn⟩
          rw [HT.out, HS.out.2]
        case measure => simp [intOf]; omega
    · have he : n = m := by omega
      subst he
      rw [HTa.out] at HO ⊢
      go_wp2_with fail
      go_ret2
      exact HEnd.out _ _ HO.out HK.out
end Go.Proofs.Ytdmgdmhggmehgaa
