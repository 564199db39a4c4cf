/- The contract of the reference's Add. A row has at most 900 items. -/
import Derived.Test.YtdmgdmhggmehgaaRef
import Derived.Deep.CutBlock
import Derived.Deep.DeepCutAuto
namespace Go.Proofs.Ytdmgdmhggmehgaa
open Go.ChangeShapes Go.WideShapes Go.ChangeAt Go.RowKit
set_option linter.unusedVariables false
set_option linter.unusedSimpArgs false

theorem ins_none {x : It} : ∀ {l : List It}, (∀ y ∈ l, ¬ Lt x y) → ins x l = l ++ [x]
  | [], _ => rfl
  | y :: t, h => by
    unfold ins
    rw [if_neg (h y (List.mem_cons.2 (.inl rfl))), ins_none (fun z hz => h z (List.mem_cons.2 (.inr hz)))]
    rfl
theorem ins_done {x z : It} : ∀ {l : List It}, (∃ y ∈ l, Lt x y) → ins x (l ++ [z]) = ins x l ++ [z]
  | [], h => by obtain ⟨y, hy, _⟩ := h; cases hy
  | y :: t, h => by
    show ins x (y :: (t ++ [z])) = _
    unfold ins
    by_cases e : Lt x y
    · rw [if_pos e, if_pos e]; rfl
    · rw [if_neg e, if_neg e, ins_done (l := t) (by
        obtain ⟨u, hu, hl⟩ := h
        rcases List.mem_cons.1 hu with rfl | hu
        · exact absurd hl e
        · exact ⟨u, hu, hl⟩)]
      rfl
theorem ins_new {x z : It} : ∀ {l : List It}, (∀ y ∈ l, ¬ Lt x y) → Lt x z → ins x (l ++ [z]) = l ++ [x, z]
  | [], _, h => by show ins x [z] = _; unfold ins; rw [if_pos h]; rfl
  | y :: t, hn, h => by
    show ins x (y :: (t ++ [z])) = _
    unfold ins
    rw [if_neg (hn y (List.mem_cons.2 (.inl rfl))), ins_new (fun u hu => hn u (List.mem_cons.2 (.inr hu))) h]
    rfl
def doneM (x : It) (l : List It) : Bool := l.any (fun y => decide (Lt x y))
def outM (x : It) (l : List It) : List It := if doneM x l then ins x l else l
theorem done_yes {x : It} {l : List It} (h : doneM x l = true) : ∃ y ∈ l, Lt x y := by
  unfold doneM at h
  obtain ⟨y, hy, h⟩ := List.any_eq_true.1 h
  exact ⟨y, hy, by simpa using h⟩
theorem done_no {x : It} {l : List It} (h : doneM x l = false) : ∀ y ∈ l, ¬ Lt x y := fun y hy => by
  have := (List.any_eq_false.1 h) y hy
  simpa using this
theorem done_app (x : It) (l : List It) (z : It) : doneM x (l ++ [z]) = (doneM x l || decide (Lt x z)) := by unfold doneM; simp
theorem out_done {x z : It} {l : List It} (h : doneM x l = true) : outM x (l ++ [z]) = outM x l ++ [z] ∧ doneM x (l ++ [z]) = true := by
  have h2 : doneM x (l ++ [z]) = true := by rw [done_app, h]; rfl
  unfold outM
  rw [h, h2]
  exact ⟨ins_done (done_yes h), rfl⟩
theorem out_new {x z : It} {l : List It} (h : doneM x l = false) (hz : Lt x z) : outM x (l ++ [z]) = (outM x l ++ [x]) ++ [z] ∧ doneM x (l ++ [z]) = true := by
  have h2 : doneM x (l ++ [z]) = true := by rw [done_app, h]; simpa using hz
  unfold outM
  rw [h, h2]
  refine ⟨?_, rfl⟩
  show ins x (l ++ [z]) = (l ++ [x]) ++ [z]
  rw [ins_new (done_no h) hz, List.append_assoc]
  rfl
theorem out_not {x z : It} {l : List It} (h : doneM x l = false) (hz : ¬ Lt x z) : outM x (l ++ [z]) = outM x l ++ [z] ∧ doneM x (l ++ [z]) = false := by
  have h2 : doneM x (l ++ [z]) = false := by rw [done_app, h]; simpa using hz
  unfold outM
  rw [h, h2]
  exact ⟨rfl, rfl⟩
theorem out_len (x : It) (l : List It) : (outM x l).length ≤ l.length + 1 := by
  unfold outM
  split
  · rw [(ins_perm x l).length_eq]; simp
  · omega
/- What it answers and leaves. -/
def AddsC (l : List It) (w : World) (e : Ending) (w' : World) : Prop := ∃ v, e = .returned v ∧ OwnT w' w.heap.size v l ∧ Kept w w'
set_option maxHeartbeats 6400000 in
theorem adds_any (l : List It) (hn : l.length ≤ 900) (va : Value) (k d : Int) (w : World) (ha : RdM w va l) : Calls Try.prog 9 #[va, .int .i64 k, .int .u64 d] w (AddsC (ins (d, k) (wo l k)) w) := by
  have hW := without_any l (by omega) va k w ha
  have HLn : Hid ((wo l k).length ≤ 900) := hid (Nat.le_trans (wo_len l k) hn)
  obtain ⟨i0, hi, hz0, hz1, hz2⟩ := info_parts (P := Try.prog) (e := 43) info43
  have HI := hid (And.intro hi (And.intro hz0 (And.intro hz1 hz2)))
  obtain ⟨a, c, rfl, -⟩ := ha
  clear hi hz0 hz1 hz2 hn
  go_enter Try.func9, Try.ntmps9
  go_wp2_with fail
  refine hW.mono ?_
  rintro e w1 ⟨v, rfl, hv, k1⟩
  clear hW
  generalize hasM l k = bb at *
  generalize hll : wo l k = r at *
  clear hll
  have HW1 := hid k1
  have HRd : Hid (∀ u, Kept w1 u → RdM u v r) := hid (fun u h => rdm_kept (rdm_own hv) h)
  obtain ⟨va2, vc, rfl, -⟩ := rdm_own hv
  have HEnd : Hid (∀ v u q, OwnT u w1.heap.size v q → q = ins (d, k) r → Kept w1 u → AddsC (ins (d, k) r) w (.returned v) u) := hid (fun v u q h1 h2 h3 => ⟨v, rfl, ownt_low (h2 ▸ h1) HW1.out.2, kept_trans HW1.out h3⟩)
  have HKG : Hid (∀ u u' row, Kept w1 u → u.grownBy u' row → (∀ j, row = some j → w1.heap.size ≤ j) → Kept w1 u') := hid (fun u u' row h g hr => kept_grown h g hr)
  have HO0 : Hid (OwnT (w1.alloc (.cells #[] 43)) w1.heap.size (.slice (some ⟨w1.heap.size, 0, none⟩) 0 0) (outM (d, k) (r.take 0))) := hid (ownt_built w1)
  have HK0 := hid (kept_alloc (kept_refl w1) (.cells #[] 43))
  have HBK : Hid (∀ u, Kept w1 u → w1.heap.size ≤ u.heap.size) := hid (fun u h => h.2)
  have HX : Hid (∀ j, j < r.length → ∃ x, r[j]? = some x ∧ r.take (j + 1) = r.take j ++ [x]) := hid (fun j h => ⟨r[j], by simp [h], List.take_succ_eq_append_getElem h⟩)
  have HTa : Hid (r.take r.length = r) := hid (List.take_length)
  have HOl : Hid (∀ n, n ≤ r.length → (outM (d, k) (r.take n)).length ≤ 902) := hid (fun n h => by have := out_len (d, k) (r.take n); simp at this; have := HLn.out; omega)
  have HEq : Hid (∀ q, q = outM (d, k) r → (doneM (d, k) r = true → q = ins (d, k) r) ∧ (doneM (d, k) r = false → q ++ [(d, k)] = ins (d, k) r)) := hid (fun q hq => ⟨fun h => by rw [hq]; unfold outM; rw [h]; rfl, fun h => by rw [hq, ins_none (done_no h)]; unfold outM; rw [h]; rfl⟩)
  clear hv k1
  go_wp2_with fail
  generalize hm : r.length = m at *
  have HM := hid hm
  clear hm
  generalize w1.alloc (.cells #[] 43) = w2 at *
  generalize w1.heap.size = B at *
  go_loopw [9, 10, 11, 21] (fun os ds _ j wr => ∃ n : Nat, n ≤ m ∧ j = .int .i64 (n : Int) ∧ ds = .bool (doneM (d, k) (r.take n)) ∧ Hid (OwnT wr B os (outM (d, k) (r.take n))) ∧ Hid (Kept w1 wr)) (fun _ _ _ j _ => m - (intOf j).toNat)
  case atStart => exact ⟨0, Nat.zero_le _, rfl, rfl, HO0, HK0⟩
  case round =>
    obtain ⟨n, hk, rfl, rfl, HO, HK⟩ := hrel
    clear HO0 HK0
    have HB := hid (HBK.out _ HK.out)
    have hm9 := HLn.out
    by_cases hlt : n < m
    · obtain ⟨y, hy, hT⟩ := HX.out n hlt
      have HT := hid hT
      have HYe := hid hy
      have hql := HOl.out n (by omega)
      obtain ⟨a', c', e0, h1⟩ := HRd.out _ HK.out
      injection e0 with e0 e2 e1
      clear e2
      subst e0 e1
      obtain ⟨g1, rfl, h3⟩ := h1 (by rw [HM.out]; omega)
      obtain ⟨c1, c2⟩ := h3 n _ hy
      clear h1 h3 hy hT
      have HCell : Hid (∀ u, Kept w1 u → u.cell? ⟨g1, n * 2, none⟩ = some (.int .i64 y.2) ∧ u.cell? ⟨g1, n * 2 + 1, none⟩ = some (.int .u64 y.1)) := hid (fun u hu => by
        obtain ⟨a', c', e0, h1⟩ := HRd.out _ hu
        injection e0 with e0 e2 e1
        obtain ⟨g2, e3, h3⟩ := h1 (by rw [HM.out]; omega)
        rw [e3] at e0
        injection e0 with e0
        injection e0 with e0
        rw [e0]
        exact h3 n _ HYe.out)
      go_upto_region 7 with fail
      go_cut [52, 9, 10, 11, 21] (fun cs os ds is j wx => cs = .bool (!doneM (d, k) (r.take n) && decide (Lt (d, k) y)) ∧ os = u9 ∧ ds = .bool (doneM (d, k) (r.take n)) ∧ is = .int .i64 (n : Int) ∧ j = .int .i64 (n : Int) ∧ wx = wr)
      case first =>
        clear HO HEq HOl HEnd
        cases hdn : doneM (d, k) (r.take n) with
        | true =>
          have HDn := hid hdn
          clear hdn
          go_wp2_with fail
          go_meet
          case rel => exact ⟨by rw [HDn.out]; rfl, rfl, by rw [HDn.out], rfl, rfl, rfl⟩
        | false =>
          have HDn := hid hdn
          clear hdn
          by_cases h1 : d < y.1
          · have hl : decide (Lt (d, k) y) = true := by simp [Lt, h1]
            have HL := hid hl
            clear hl
            go_wp2_with fail
            go_meet
            case rel => exact ⟨by rw [HL.out, HDn.out]; rfl, rfl, by rw [HDn.out], rfl, rfl, rfl⟩
          · have d1 : decide (d < y.1) = false := by simpa using h1
            by_cases h2 : y.1 = d
            · have d2 : (y.1 == d) = true := by simpa using h2
              by_cases h3 : k < y.2
              · have hl : decide (Lt (d, k) y) = true := by simp [Lt, h2, h3]
                have HL := hid hl
                clear hl h1 h2
                go_wp2_with fail
                go_meet
                case rel => exact ⟨by rw [HL.out, HDn.out]; rfl, rfl, by rw [HDn.out], rfl, rfl, rfl⟩
              · have hl : decide (Lt (d, k) y) = false := decide_eq_false (fun h => by unfold Lt at h; simp only at h; omega)
                have d3 : decide (k < y.2) = false := by simpa using h3
                have HL := hid hl
                clear hl h1 h2 h3
                go_wp2_with fail
                go_meet
                case rel => exact ⟨by rw [HL.out, HDn.out]; rfl, rfl, by rw [HDn.out], rfl, rfl, rfl⟩
            · have d2 : (y.1 == d) = false := by simpa using h2
              have hl : decide (Lt (d, k) y) = false := decide_eq_false (fun h => by unfold Lt at h; simp only at h; omega)
              have HL := hid hl
              clear hl h1 h2
              go_wp2_with fail
              go_meet
              case rel => exact ⟨by rw [HL.out, HDn.out]; rfl, rfl, by rw [HDn.out], rfl, rfl, rfl⟩
      case rest =>
        obtain ⟨rfl, rfl, rfl, rfl, rfl, rfl⟩ := hcut
        by_cases hc : doneM (d, k) (r.take n) = false ∧ Lt (d, k) y
        · have hcb : (!doneM (d, k) (r.take n) && decide (Lt (d, k) y)) = true := by simp [hc.1, hc.2]
          have HS := hid (out_new hc.1 hc.2)
          rw [hcb]
          clear hcb hc c1 c2
          generalize doneM (d, k) (r.take n) = dn at *
          have HO2 := hid (World.ownsRow.alloc HO.out (.cells #[.int .i64 k, .int .u64 d] 43))
          have HKa := hid (kept_alloc HK.out (.cells #[.int .i64 k, .int .u64 d] 43))
          have HAa := hid (at_new wc #[.int .i64 k, .int .u64 d] 43)
          generalize hq0 : (outM (d, k) (r.take n)).length = q0 at *
          have HQ0 := hid hq0
          clear hq0
          have HA : Hid (∀ v3 w3, w3.ownsRow B 43 2 v3 (q0 + 1) (tw (outM (d, k) (r.take n)) ++ [.int .i64 k, .int .u64 d]) → (wc.alloc (.cells #[.int .i64 k, .int .u64 d] 43)).grownBy w3 u9.ownBlock → (w3.cell? ⟨g1, n * 2, none⟩ = some (.int .i64 y.2) ∧ w3.cell? ⟨g1, n * 2 + 1, none⟩ = some (.int .u64 y.1)) ∧ Hid (OwnT w3 B v3 (outM (d, k) (r.take n) ++ [(d, k)]) ∧ Kept w1 w3)) := hid (fun v3 w3 ho hg => by
            have hk3 := HKG.out _ _ _ HKa.out hg (fun j hj => (World.ownsRow.lt HO2.out j hj).1)
            refine ⟨HCell.out _ hk3, hid ⟨ownt_len (m := q0 + 1) ?_ (by simp [HQ0.out]), hk3⟩⟩
            rw [tw_app]
            exact ho)
          go_upto_region 10 with (at_builtin; refine wpList_append_own _ rfl (.tmp 53) (.tmp 57) 25 rfl B 43 i0 (.agg #[.int .i64 0, .int .u64 0]) 2 16 Try.underlying25 HI.out.1 HI.out.2.1 HI.out.2.2.1 HI.out.2.2.2 rfl (by decide) _ _ _ rfl HO2.out ⟨wc.heap.size, 0, none⟩ 1 1 [.int .i64 k, .int .u64 d] rfl rfl (pair_cells HAa.out) (by intro u hu; simp at hu; rcases hu with rfl | rfl <;> rfl) (by unfold maxLen; omega) (by omega) (by have := HB.out; simp; omega) ?_; intro v3 w3 hown3 hgrow3 hnil3; obtain ⟨⟨c3, c4⟩, HZ⟩ := HA.out v3 w3 hown3 hgrow3; clear hown3 hgrow3 hnil3)
          clear HO2 HKa HAa HA
          have HO := hid HZ.out.1
          have HK := hid HZ.out.2
          clear HZ
          have HO2 := hid (World.ownsRow.alloc HO.out (.cells #[.int .i64 y.2, .int .u64 y.1] 43))
          have HKa := hid (kept_alloc HK.out (.cells #[.int .i64 y.2, .int .u64 y.1] 43))
          have HAa := hid (at_new w3 #[.int .i64 y.2, .int .u64 y.1] 43)
          have HBx := hid (HBK.out _ HK.out)
          have e9 : (outM (d, k) (r.take n) ++ [(d, k)]).length = q0 + 1 := by simp [HQ0.out]
          rw [e9] at HO2
          clear e9
          go_wp2_with (at_builtin; go_must (refine wpList_append_own _ rfl (.tmp 59) (.tmp 64) 25 rfl B 43 i0 (.agg #[.int .i64 0, .int .u64 0]) 2 16 Try.underlying25 HI.out.1 HI.out.2.1 HI.out.2.2.1 HI.out.2.2.2 rfl (by decide) _ _ _ rfl HO2.out ⟨w3.heap.size, 0, none⟩ 1 1 [.int .i64 y.2, .int .u64 y.1] rfl rfl (pair_cells HAa.out) (by intro u hu; simp at hu; rcases hu with rfl | rfl <;> rfl) (by unfold maxLen; omega) (by omega) (by have := HBx.out; simp; omega) ?_; intro v4 w4 hown3 hgrow3 hnil3))
          have HOn : Hid (OwnT w4 B v4 (outM (d, k) (r.take (n + 1)))) := hid (by
            rw [HT.out, HS.out.1]
            refine ownt_len (m := q0 + 1 + 1) ?_ (by simp [HQ0.out])
            rw [tw_app]
            exact hown3)
          have HKn := hid (HKG.out _ _ _ HKa.out hgrow3 (fun j hj => (World.ownsRow.lt HO2.out j hj).1))
          go_roundw
          case rel => exact ⟨n + 1, by omega, by go_num, by rw [HT.out, HS.out.2], HOn, HKn⟩
          case measure => simp [intOf]; omega
        · have hcb : (!doneM (d, k) (r.take n) && decide (Lt (d, k) y)) = false := by
            cases h : doneM (d, k) (r.take n) with
            | true => rfl
            | false => simpa using fun hl => hc ⟨h, hl⟩
          have HS : Hid (outM (d, k) (r.take n ++ [y]) = outM (d, k) (r.take n) ++ [y] ∧ doneM (d, k) (r.take n ++ [y]) = doneM (d, k) (r.take n)) := hid (by
            cases h : doneM (d, k) (r.take n) with
            | true => exact out_done h
            | false => exact out_not h (fun hl => hc ⟨h, hl⟩))
          rw [hcb]
          clear hcb hc
          have HO2 := hid (World.ownsRow.alloc HO.out (.cells #[.int .i64 y.2, .int .u64 y.1] 43))
          have HKa := hid (kept_alloc HK.out (.cells #[.int .i64 y.2, .int .u64 y.1] 43))
          have HAa := hid (at_new wc #[.int .i64 y.2, .int .u64 y.1] 43)
          have HBx := hid (HBK.out _ HK.out)
          generalize hqq : (outM (d, k) (r.take n)).length = q at *
          have HQ := hid hqq
          clear hqq
          go_wp2_with (at_builtin; go_must (refine wpList_append_own _ rfl (.tmp 59) (.tmp 64) 25 rfl B 43 i0 (.agg #[.int .i64 0, .int .u64 0]) 2 16 Try.underlying25 HI.out.1 HI.out.2.1 HI.out.2.2.1 HI.out.2.2.2 rfl (by decide) _ _ _ rfl HO2.out ⟨wc.heap.size, 0, none⟩ 1 1 [.int .i64 y.2, .int .u64 y.1] rfl rfl (pair_cells HAa.out) (by intro u hu; simp at hu; rcases hu with rfl | rfl <;> rfl) (by unfold maxLen; omega) (by omega) (by have := HBx.out; simp; omega) ?_; intro v3 w3 hown3 hgrow3 hnil3))
          have HOn : Hid (OwnT w3 B v3 (outM (d, k) (r.take (n + 1)))) := hid (by
            rw [HT.out, HS.out.1]
            refine ownt_len (m := q + 1) ?_ (by simp [HQ.out])
            rw [tw_app]
            exact hown3)
          have HKn := hid (HKG.out _ _ _ HKa.out hgrow3 (fun j hj => (World.ownsRow.lt HO2.out j hj).1))
          go_roundw
          case rel => exact ⟨n + 1, by omega, by go_num, by rw [HT.out, HS.out.2], HOn, HKn⟩
          case measure => simp [intOf]; omega
    · have he : n = m := by omega
      subst he
      rw [HTa.out] at HO ⊢
      have hql := HOl.out n (Nat.le_refl _)
      rw [HTa.out] at hql
      have HQq := hid (HEq.out _ rfl)
      cases hdn : doneM (d, k) r with
      | true =>
        have HQ := hid (HQq.out.1 hdn)
        clear hdn HQq
        go_wp2_with fail
        go_ret
        exact HEnd.out _ _ _ HO.out HQ.out HK.out
      | false =>
        have HQ := hid (HQq.out.2 hdn)
        have HO2 := hid (World.ownsRow.alloc HO.out (.cells #[.int .i64 k, .int .u64 d] 43))
        have HKa := hid (kept_alloc HK.out (.cells #[.int .i64 k, .int .u64 d] 43))
        have HAa := hid (at_new wr #[.int .i64 k, .int .u64 d] 43)
        generalize hq0 : (outM (d, k) r).length = q0 at *
        have HQ0 := hid hq0
        clear hdn HQq hq0
        go_wp2_with (at_builtin; go_must (refine wpList_append_own _ rfl (.tmp 69) (.tmp 73) 25 rfl B 43 i0 (.agg #[.int .i64 0, .int .u64 0]) 2 16 Try.underlying25 HI.out.1 HI.out.2.1 HI.out.2.2.1 HI.out.2.2.2 rfl (by decide) _ _ _ rfl HO2.out ⟨wr.heap.size, 0, none⟩ 1 1 [.int .i64 k, .int .u64 d] rfl rfl (pair_cells HAa.out) (by intro u hu; simp at hu; rcases hu with rfl | rfl <;> rfl) (by unfold maxLen; omega) (by omega) (by have := HB.out; simp; omega) ?_; intro v3 w3 hown3 hgrow3 hnil3))
        have HOn : Hid (OwnT w3 B v3 (outM (d, k) r ++ [(d, k)])) := hid (by
          refine ownt_len (m := q0 + 1) ?_ (by simp [HQ0.out])
          rw [tw_app]
          exact hown3)
        have HKn := hid (HKG.out _ _ _ HKa.out hgrow3 (fun j hj => (World.ownsRow.lt HO2.out j hj).1))
        clear hown3 hgrow3 hnil3
        go_wp2_with fail
        go_ret
        exact HEnd.out _ _ _ HOn.out HQ.out HKn.out
end Go.Proofs.Ytdmgdmhggmehgaa
