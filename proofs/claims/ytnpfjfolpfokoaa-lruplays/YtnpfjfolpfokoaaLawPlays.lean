/- The law on any row of calls of a list of any size, walked: it answers true and turns nothing that was there. -/
import Derived.Test.YtnpfjfolpfokoaaOpen
import Derived.Deep.CutBlock
import Derived.Deep.DeepCutAuto
namespace Go.Proofs.Ytnpfjfolpfokoaa
open Go.ChangeShapes Go.WideShapes Go.ChangeAt Go.RowKit
set_option linter.unusedVariables false
set_option linter.unusedSimpArgs false

theorem inI_cs (l : List Nat) (i : Int) : inI (cs l) i = decide (0 ≤ i ∧ i.toNat ∈ l) := by
  rw [Bool.eq_iff_iff]
  unfold inI cs
  simp only [List.any_map, List.any_eq_true, Function.comp, beq_iff_eq, decide_eq_true_eq]
  constructor
  · rintro ⟨x, hx, rfl⟩
    exact ⟨Int.natCast_nonneg x, by simpa using hx⟩
  · rintro ⟨h0, h1⟩
    exact ⟨_, h1, by simpa using Int.toNat_of_nonneg h0⟩
theorem woI_nat (l : List Nat) (k : Nat) : woI (cs l) (k : Int) = cs (wo l k) := by
  unfold woI cs wo
  rw [List.filter_map]
  congr 1
  refine List.filter_congr (fun x _ => ?_)
  rw [Bool.eq_iff_iff]
  simp
  omega
theorem woI_neg (l : List Nat) {i : Int} (h : ¬ 0 ≤ i) : woI (cs l) i = cs l := by
  unfold woI
  rw [List.filter_eq_self]
  intro a ha
  unfold cs at ha
  rw [List.mem_map] at ha
  obtain ⟨x, _, rfl⟩ := ha
  simp
  have : (0 : Int) ≤ Int.ofNat x := Int.natCast_nonneg x
  omega
theorem woI_cs (l : List Nat) (i : Int) : woI (cs l) i = cs (if 0 ≤ i then wo l i.toNat else l) := by
  by_cases h : 0 ≤ i
  · obtain ⟨k, rfl⟩ := Int.eq_ofNat_of_zero_le h
    rw [if_pos h]
    exact woI_nat l k
  · rw [if_neg h, woI_neg l h]
theorem last_cs {l : List Nat} (h : l ≠ []) : ∃ q, (cs l).length = q + 1 ∧ (cs l)[q]? = some (oldI l) ∧ (!l.isEmpty) = true := by
  obtain ⟨p, x, rfl⟩ : ∃ p x, l = p ++ [x] := ⟨l.dropLast, l.getLast h, (List.dropLast_concat_getLast h).symm⟩
  refine ⟨p.length, by rw [cs_len]; simp, ?_, by cases p <;> rfl⟩
  unfold oldI cs
  rw [dif_neg h]
  simp
set_option maxHeartbeats 6400000 in
set_option maxRecDepth 100000 in
theorem plays_walk (n : Int) (oa : Option Addr) (len cap b o : Nat) (S : Nat → Opx) (w : World) (wn : (Lit.int .i64 n).wf = true) (hr : Row w oa len cap b o S) :
    Calls Try.prog 3 #[.int .i64 n, .slice oa len cap] w fun e w' => e = .returned (.bool true) ∧ Kept w w' := by
  have hz := zero30
  by_cases hm : mayN n
  · obtain ⟨k, rfl⟩ := Int.eq_ofNat_of_zero_le (show 0 ≤ n by unfold mayN at hm; omega)
    have hk1 : 1 ≤ k := by unfold mayN at hm; omega
    have hk2 : k ≤ 1024 := by unfold mayN at hm; omega
    have d1 : decide ((1 : Int) ≤ (k : Int)) = true := by simp; omega
    have d2 : decide ((k : Int) ≤ 1024) = true := by simp; omega
    have h1 := hr.1
    have h2 := hr.2.1
    unfold maxLen at h2
    have HRw := hid hr
    clear wn hr hm
    go_enter Try.func3, Try.ntmps3
    go_wp2_with fail
    refine (new_any k hk1 hk2 _).mono ?_
    rintro e w1 ⟨X, R, rfl, hX, hR, k1, g1⟩
    have HR := hid hR
    have HG1 := hid g1
    have HK1 := hid k1
    clear hX hR g1 k1
    go_wp2_with fail
    refine (fixed_any _).mono ?_
    rintro e w2 ⟨rfl, k2⟩
    have HG2 := hid (good_kept HG1.out k2)
    have HK2 := hid (kept_trans HK1.out k2)
    clear HG1 HK1 k2
    go_upto_block 0 with fail
    clear d1 d2
    go_cut [7] (fun m wx => ∃ l, Hid (Good wx X R k l) ∧ Hid (Kept w wx) ∧ Hid (OwnI wx w.heap.size m (cs l)))
    case first =>
      have HO2 := hid (own_nil w2 w.heap.size)
      have HBs : Hid (∀ u, Kept w u → w.heap.size ≤ u.heap.size) := hid (fun u h => h.2)
      have HRt : Hid (∀ u u', Kept w u → Turn R u u' → Kept w u') := hid (fun u u' h t => kept_turn h HR.out t)
      generalize w.heap.size = B at *
      go_wp2_with fail
      go_loopw [7, 45] (fun m i wr => ∃ (j : Nat) (l : List Nat), j ≤ len ∧ i = .int .i64 j ∧ Hid (Good wr X R k l) ∧ Hid (Kept w wr) ∧ Hid (OwnI wr B m (cs l))) (fun m i _ => len - (intOf i).toNat)
      case atStart => exact ⟨0, [], Nat.zero_le _, rfl, HG2, HK2, HO2⟩
      case round =>
        obtain ⟨j, l, hj, rfl, HG, HKr, HO⟩ := hrel
        clear HG2 HK2 HO2
        by_cases hlt : j < len
        · obtain ⟨rfl, hb⟩ := HRw.out.2.2.2.1 (by omega)
          obtain ⟨c0, c1⟩ := (ops_kept HRw.out HKr.out).2.2.2.2.1 j hlt
          generalize S j = s at *
          have HP := hid (at_new wr #[.bool s.drop, .int .i64 s.i] 30)
          have HGa := hid (good_alloc HG.out (.cells #[.bool s.drop, .int .i64 s.i] 30))
          have HKa := hid (kept_alloc HKr.out (.cells #[.bool s.drop, .int .i64 s.i] 30))
          have HOa := hid (own_stays HO.out (kept_alloc (kept_refl wr) (.cells #[.bool s.drop, .int .i64 s.i] 30)))
          by_cases e0 : 300 < j
          · have e1 : (300 : Int) < (j : Int) := by omega
            clear e0
            go_wp2_with fail
            go_meet
            case rel => exact ⟨l, HGa, HKa, HOa⟩
          · have e1 : decide ((300 : Int) < (j : Int)) = false := by simp; omega
            clear e0
            go_upto_if 53 with fail
            clear c0 c1 HG HKr HO
            generalize wr.alloc (.cells #[.bool s.drop, .int .i64 s.i] 30) = wa at *
            generalize wr.heap.size = P at *
            go_cut [7, 45] (fun m c wx => c = .int .i64 (j : Int) ∧ ∃ l', Hid (Good wx X R k l') ∧ Hid (Kept w wx) ∧ Hid (OwnI wx B m (cs l')))
            case first =>
              have hlen : (cs l).length ≤ 4000 := by rw [cs_len]; have := good_len HGa.out; omega
              obtain ⟨ua, uc, rfl, -⟩ := rw_own HOa.out
              obtain ⟨d, i⟩ := s
              cases d with
              | true =>
                have HW := hid (without_any (cs l) (by omega) _ i wa (rw_own HOa.out))
                obtain ⟨p0, p1, pf⟩ := at_cells2 HP.out
                go_wp2_with fail
                refine HW.out.mono ?_
                rintro e w3 ⟨v3, rfl, o3, -, k3⟩
                rw [woI_cs] at o3
                rw [inI_cs]
                have HO3 := hid (own_low o3 (HBs.out _ HKa.out))
                have HG3 := hid (good_kept HGa.out k3)
                have HK3 := hid (kept_trans HKa.out k3)
                have HP3 := hid (at_kept HP.out k3)
                clear p0 p1 pf HW HOa o3 k3 HGa HKa HP
                obtain ⟨p0, p1, pf⟩ := at_cells2 HP3.out
                have HDr := hid (drop_int i w3 HG3.out)
                generalize decide (0 ≤ i ∧ i.toNat ∈ l) = t at *
                have ht1 : (t == t) = true := by simp
                have ht2 : (t != t) = false := by simp
                go_wp2_with fail
                refine HDr.out.mono ?_
                rintro e w4 ⟨rfl, t4, g4⟩
                have HG4 := hid g4
                have HK4 := hid (HRt.out _ _ HK3.out t4)
                have HO4 := hid (own_good HO3.out HG3.out t4)
                clear t4 g4
                go_wp2_with fail
                go_meet
                case rel => exact ⟨rfl, _, HG4, HK4, HO4⟩
              | false =>
                obtain ⟨p0, p1, pf⟩ := at_cells2 HP.out
                by_cases h0 : 0 ≤ i
                · have d0 : decide (0 ≤ i) = true := by simpa using h0
                  by_cases hk : i < (k : Int)
                  · have dk : decide (i < (k : Int)) = true := by simpa using hk
                    obtain ⟨x, rfl⟩ := Int.eq_ofNat_of_zero_le h0
                    have hxk : x < k := by omega
                    clear h0 hk
                    go_wp2_with fail
                    refine (use_any x hxk _ HGa.out).mono ?_
                    rintro e w3 ⟨rfl, t3, g3⟩
                    have HG3 := hid g3
                    have HK3 := hid (HRt.out _ _ HKa.out t3)
                    have HO3 := hid (own_good HOa.out HGa.out t3)
                    have HP3 := hid (good_at HGa.out HP.out (by decide) t3)
                    clear p0 p1 pf t3 g3 HOa HGa HKa HP
                    obtain ⟨p0, p1, pf⟩ := at_cells2 HP3.out
                    have HU := hid (refuse_any (cs l) hlen _ (x : Int) w3 (rw_own HO3.out))
                    rw [woI_nat] at HU
                    go_wp2_with fail
                    refine HU.out.mono ?_
                    rintro e w4 ⟨v4, rfl, o4, k4⟩
                    have HG4 := hid (good_kept HG3.out k4)
                    have HO4 : Hid (OwnI w4 B v4 (cs (x :: wo l x))) := hid (own_low o4 (HBs.out _ HK3.out))
                    have HK4 := hid (kept_trans HK3.out k4)
                    clear o4 k4
                    go_wp2_with fail
                    go_meet
                    case rel => exact ⟨rfl, _, HG4, HK4, HO4⟩
                  · have dk : decide (i < (k : Int)) = false := by simpa using hk
                    have HUb := hid (use_bad i (fun h => hk h.2) wa HGa.out)
                    clear h0 hk
                    go_wp2_with fail
                    refine HUb.out.mono ?_
                    rintro e w3 ⟨rfl, rfl⟩
                    go_wp2_with fail
                    go_meet
                    case rel => exact ⟨rfl, _, HGa, HKa, HOa⟩
                · have d0 : decide (0 ≤ i) = false := by simpa using h0
                  have HUb := hid (use_bad i (fun h => h0 h.1) wa HGa.out)
                  clear h0
                  go_wp2_with fail
                  refine HUb.out.mono ?_
                  rintro e w3 ⟨rfl, rfl⟩
                  go_wp2_with fail
                  go_meet
                  case rel => exact ⟨rfl, _, HGa, HKa, HOa⟩
            case rest =>
              obtain ⟨rfl, l', HG3, HK3, HO3⟩ := hcut
              clear HGa HKa HOa HP
              have hX1 := oldest_any _ HG3.out
              obtain ⟨ma, mc, rfl, -⟩ := rw_own HO3.out
              by_cases hl : l' = []
              · subst hl
                have e5 : oldI [] = 0 := rfl
                have e6 : (!([] : List Nat).isEmpty) = false := rfl
                have e7 : (cs []).length = 0 := rfl
                rw [e5, e6] at hX1
                rw [e7]
                rw [e7] at HO3
                clear e5 e6 e7
                go_wp2_with fail
                refine hX1.mono ?_
                rintro e w5 ⟨rfl, k5⟩
                have HG5 := hid (good_kept HG3.out k5)
                have HK5 := hid (kept_trans HK3.out k5)
                have HO5 := hid (own_stays HO3.out k5)
                clear k5
                go_wp2_with fail
                go_roundw
                case rel => exact ⟨j + 1, [], by omega, by go_num, HG5, HK5, HO5⟩
                case measure => simp [intOf]; omega
              · obtain ⟨q, hq1, hq2, hq3⟩ := last_cs hl
                have hql : q ≤ 1024 := by have := good_len HG3.out; rw [cs_len] at hq1; omega
                rw [hq3] at hX1
                rw [hq1]
                rw [hq1] at HO3
                have HQ1 := hid hq1
                generalize hz5 : oldI l' = z at *
                clear hz5 hl hq3 hq1
                go_wp2_with fail
                refine hX1.mono ?_
                rintro e w5 ⟨rfl, k5⟩
                have HG5 := hid (good_kept HG3.out k5)
                have HK5 := hid (kept_trans HK3.out k5)
                have HO5 := hid (own_stays HO3.out k5)
                obtain ⟨a5, c5, e5, h5⟩ := rw_own HO5.out
                injection e5 with e5 e6 e7
                subst e5 e7
                clear e6
                obtain ⟨g5, o5, rfl, h6⟩ := h5 (by rw [HQ1.out]; omega)
                have c0 := h6 q _ hq2
                have hne : (z != z) = false := by simp
                clear hX1 k5 h5 h6 hq2 HG3 HK3 HO3
                go_wp2_with fail
                go_roundw
                case rel => exact ⟨j + 1, l', by omega, by go_num, HG5, HK5, HO5⟩
                case measure => simp [intOf]; omega
        · go_wp2_with fail
          go_meet
          case rel => exact ⟨l, HG, HKr, HO⟩
    case rest =>
      obtain ⟨l, HG, HKr, HO⟩ := hcut
      clear HG2 HK2 HRw h1 h2
      go_wp2_with fail
      refine (order_any _ HG.out).mono ?_
      rintro e w3 ⟨v, rfl, o3, k3⟩
      have HO3 := hid (rw_own (own_stays HO.out k3))
      have HP3 := hid (rw_own o3)
      have HK3 := hid (kept_trans HKr.out k3)
      have hlen : (cs l).length ≤ 4096 := by rw [cs_len]; have := good_len HG.out; omega
      have HS := hid (same_any (cs l) hlen _ _ _ HP3.out HO3.out)
      clear o3 k3 HG HKr HO hlen
      go_wp2_with fail
      refine HS.out.mono ?_
      rintro e w4 ⟨rfl, k4⟩
      go_wp2_with fail
      go_ret
      exact ⟨rfl, kept_trans HK3.out k4⟩
  · have d1 : decide ((1 : Int) ≤ n) = true ∧ decide (n ≤ 1024) = false ∨ decide ((1 : Int) ≤ n) = false := by
      unfold mayN at hm
      by_cases h : 1 ≤ n
      · left; simp; omega
      · right; simpa using h
    have hN := new_bad n hm w
    clear hm wn hr
    rcases d1 with ⟨d1, d2⟩ | d1
    · go_enter Try.func3, Try.ntmps3
      go_wp2_with fail
      refine hN.mono ?_
      rintro e w1 ⟨rfl, rfl⟩
      go_wp2_with fail
      refine (fixed_any _).mono ?_
      rintro e w2 ⟨rfl, k2⟩
      go_wp2_with fail
      go_ret
      exact ⟨rfl, k2⟩
    · go_enter Try.func3, Try.ntmps3
      go_wp2_with fail
      refine hN.mono ?_
      rintro e w1 ⟨rfl, rfl⟩
      go_wp2_with fail
      refine (fixed_any _).mono ?_
      rintro e w2 ⟨rfl, k2⟩
      go_wp2_with fail
      go_ret
      exact ⟨rfl, k2⟩
end Go.Proofs.Ytnpfjfolpfokoaa
