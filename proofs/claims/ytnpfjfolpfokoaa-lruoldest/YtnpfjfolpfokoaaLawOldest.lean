/- The law that what is dropped as the oldest again and again is the order from its end on, walked: it answers true and turns nothing that was there. -/
import Derived.Test.YtnpfjfolpfokoaaOpen
import Derived.Deep.CutBlock
import Derived.Deep.DeepCutAuto
namespace Go.Proofs.Ytnpfjfolpfokoaa
open Go.ChangeShapes Go.WideShapes Go.ChangeAt Go.RowKit
set_option linter.unusedVariables false
set_option linter.unusedSimpArgs false

theorem take_last {l : List Nat} {j : Nat} (h : j < l.length) : oldI (l.take (j + 1)) = (nth l 0 j : Int) ∧ (!(l.take (j + 1)).isEmpty) = true := by
  rw [List.take_succ_eq_append_getElem h, nth_lt h]
  generalize l.take j = p
  constructor
  · unfold oldI
    rw [dif_neg (by simp)]
    simp
  · cases p <;> rfl
theorem take_wo {l : List Nat} {j : Nat} (hd : l.Nodup) (h : j < l.length) : wo (l.take (j + 1)) (nth l 0 j) = l.take j ∧ nth l 0 j ∈ l.take (j + 1) := by
  have hd2 := hd.sublist (List.take_sublist (j + 1) l)
  rw [List.take_succ_eq_append_getElem h] at hd2 ⊢
  rw [nth_lt h]
  generalize l.take j = p at *
  exact ⟨(wo_mid hd2).trans (by simp), by simp⟩
set_option maxHeartbeats 3200000 in
set_option maxRecDepth 100000 in
theorem oldest_walk (a : Int) (oa : Option Addr) (len cap b o : Nat) (S : Nat → Opx) (w : World) (wa : (Lit.int .u8 a).wf = true) (hr : Row w oa len cap b o S) :
    Calls Try.prog 5 #[.int .u8 a, .slice oa len cap] w fun e w' => e = .returned (.bool true) ∧ Kept w w' := by
  have hz := zero30
  obtain ⟨ha0, ha1⟩ := bounds_u8 wa
  obtain ⟨N, rfl⟩ := Int.eq_ofNat_of_zero_le ha0
  obtain ⟨k, hk, hk1, hk2⟩ : ∃ k : Nat, (1 : Int) + (N : Int) = (k : Int) ∧ 1 ≤ k ∧ k ≤ 1024 := ⟨1 + N, by omega, by omega, by omega⟩
  have h1 := hr.1
  have h2 := hr.2.1
  unfold maxLen at h2
  have HRw := hid hr
  clear wa hr
  go_enter Try.func5, Try.ntmps5
  go_wp2_with fail
  refine (new_any k hk1 hk2 _).mono ?_
  rintro e w1 ⟨X, R, rfl, hX, hR, k1, g1⟩
  have HR := hid hR
  have HG1 := hid g1
  have HK1 := hid k1
  clear hX hR g1 k1
  go_wp2_with fail
  refine (fixed_any _).mono ?_
  rintro e w2 ⟨rfl, k2⟩
  have HG2 := hid (good_kept HG1.out k2)
  have HK2 := hid (kept_trans HK1.out k2)
  clear HG1 HK1 k2
  go_upto_block 0 with fail
  go_cut [33] (fun s wx => ∃ l, Hid (Good wx X R k l) ∧ Hid (Kept w wx))
  case first =>
    go_wp2_with fail
    go_loopw [33] (fun i wr => ∃ (j : Nat) (l : List Nat), j ≤ len ∧ i = .int .i64 j ∧ Hid (Good wr X R k l) ∧ Hid (Kept w wr)) (fun i _ => len - (intOf i).toNat)
    case atStart => exact ⟨0, [], Nat.zero_le _, rfl, HG2, HK2⟩
    case round =>
      obtain ⟨j, l, hj, rfl, HG, HKr⟩ := hrel
      clear HG2 HK2
      by_cases hlt : j < len
      · obtain ⟨rfl, hb⟩ := HRw.out.2.2.2.1 (by omega)
        obtain ⟨c0, c1⟩ := (ops_kept HRw.out HKr.out).2.2.2.2.1 j hlt
        generalize S j = s at *
        have HP := hid (at_new wr #[.bool s.drop, .int .i64 s.i] 30)
        have HGa := hid (good_alloc HG.out (.cells #[.bool s.drop, .int .i64 s.i] 30))
        have HKa := hid (kept_alloc HKr.out (.cells #[.bool s.drop, .int .i64 s.i] 30))
        by_cases e0 : 300 < j
        · have e1 : (300 : Int) < (j : Int) := by omega
          clear e0
          go_wp2_with fail
          go_meet
          case rel => exact ⟨l, HGa, HKa⟩
        · have e1 : decide ((300 : Int) < (j : Int)) = false := by simp; omega
          clear e0
          go_wp2_with fail
          refine (use_int s.i _ HGa.out).mono ?_
          rintro e w3 ⟨l', rfl, t3, g3, -⟩
          have HGn := hid g3
          have HKn := hid (kept_turn HKa.out HR.out t3)
          clear c0 c1 t3 g3
          go_wp2_with fail
          go_roundw
          case rel => exact ⟨j + 1, l', by omega, by go_num, HGn, HKn⟩
          case measure => simp [intOf]; omega
      · go_wp2_with fail
        go_meet
        case rel => exact ⟨l, HG, HKr⟩
  case rest =>
    obtain ⟨l, HG, HKr⟩ := hcut
    clear HG2 HK2 HRw h1 h2
    go_wp2_with fail
    refine (order_any _ HG.out).mono ?_
    rintro e w3 ⟨v, rfl, o3, k3⟩
    have HG3 : Hid (Good w3 X R k (l.take l.length)) := hid (by rw [List.take_length]; exact good_kept HG.out k3)
    have HK3 := hid (kept_trans HKr.out k3)
    have HO3 := hid o3
    have hlen := good_len HG.out
    have HD := hid (good_once HG.out)
    have HLow := hid (good_lt HG.out)
    obtain ⟨va, vc, rfl, -⟩ := rw_own o3
    have HCl := hid (cs_len l)
    have HCg : Hid (∀ m, m < l.length → (cs l)[m]? = some ((nth l 0 m : Nat) : Int)) := hid (fun m hm => by rw [nth_lt hm]; unfold cs; simp [hm])
    have HTl := hid (fun j (h : j < l.length) => take_last (l := l) h)
    have HTw := hid (fun j (h : j < l.length) => take_wo (l := l) HD.out h)
    have HTn : Hid (∀ j, j < l.length → nth l 0 j < k) := hid (fun j hj => by rw [nth_lt hj]; exact HLow.out _ (List.getElem_mem hj))
    rw [HCl.out] at HO3 ⊢
    generalize wc.heap.size = B at *
    generalize hL : l.length = L at *
    have HL := hid hL
    clear o3 k3 HG HKr hL
    go_wp2_with fail
    go_loopw [10] (fun i wr => ∃ (z : Int) (j : Nat), i = .int .i64 z ∧ z + 1 = (j : Int) ∧ j ≤ L ∧ Hid (Good wr X R k (l.take j)) ∧ Hid (Kept w wr) ∧ Hid (OwnI wr B (.slice va L vc) (cs l))) (fun i _ => (intOf i + 1).toNat)
    case atStart => exact ⟨_, L, rfl, by omega, Nat.le_refl _, HG3, HK3, HO3⟩
    case round =>
      obtain ⟨z, j, rfl, hz1, hj, HG4, HK4, HO4⟩ := hrel
      clear HG3 HK3 HO3
      match j, hz1, hj, HG4 with
      | 0, hz1, hj, HG4 =>
        have hz2 : z = -1 := by omega
        subst hz2
        clear hz1 HO4
        rw [List.take_zero] at HG4
        go_wp2_with fail
        refine (oldest_any _ HG4.out).mono ?_
        rintro e w5 ⟨rfl, k5⟩
        have e5 : oldI [] = 0 := rfl
        have e6 : (!([] : List Nat).isEmpty) = false := rfl
        rw [e5, e6]
        have HG5 := hid (good_kept HG4.out k5)
        have HK5 := hid (kept_trans HK4.out k5)
        clear k5 HG4 HK4 e5 e6
        go_wp2_with fail
        refine (oldest_nil _).mono ?_
        rintro e w6 ⟨rfl, rfl⟩
        go_wp2_with fail
        refine (order_any _ HG5.out).mono ?_
        rintro e w7 ⟨v7, rfl, o7, k7⟩
        obtain ⟨a7, c7, rfl, -⟩ := rw_own o7
        have HK7 := hid (kept_trans HK5.out k7)
        clear o7 k7
        have e7 : (cs []).length = 0 := rfl
        rw [e7]
        go_wp2_with fail
        refine (use_nil 0 _).mono ?_
        rintro e w8 ⟨rfl, rfl⟩
        go_wp2_with fail
        refine (drop_nil 0 _).mono ?_
        rintro e w9 ⟨rfl, rfl⟩
        go_wp2_with fail
        refine (order_nil _).mono ?_
        rintro e w10 ⟨rfl, rfl⟩
        go_wp2_with fail
        go_ret
        exact ⟨rfl, HK7.out⟩
      | m + 1, hz1, hj, HG4 =>
        have hz2 : z = (m : Int) := by omega
        subst hz2
        clear hz1
        obtain ⟨t1, t2⟩ := HTl.out m hj
        obtain ⟨t3, t4⟩ := HTw.out m hj
        have t5 := HTn.out m hj
        have hg := HCg.out m hj
        have HT3 := hid t3
        have HT4 := hid (decide_eq_true t4)
        have hX1 := oldest_any _ HG4.out
        rw [t1, t2] at hX1
        generalize nth l 0 m = x at *
        clear t1 t2 t3 t4
        go_wp2_with fail
        refine hX1.mono ?_
        rintro e w5 ⟨rfl, k5⟩
        have HG5 := hid (good_kept HG4.out k5)
        have HK5 := hid (kept_trans HK4.out k5)
        have HO5 := hid (own_stays HO4.out k5)
        obtain ⟨a5, c5, e5, h5⟩ := rw_own HO5.out
        injection e5 with e5 e6 e7
        subst e5 e7
        clear e6
        obtain ⟨g5, o5, rfl, h6⟩ := h5 (by rw [HCl.out]; omega)
        have c0 := h6 m _ hg
        have hne : ((x : Int) != (x : Int)) = false := by simp
        clear hX1 k5 h5 h6 hg HG4 HK4 HO4
        go_wp2_with fail
        refine (drop_any x t5 _ HG5.out).mono ?_
        rintro e w6 ⟨rfl, t6, g6⟩
        rw [HT4.out]
        rw [HT3.out] at g6
        have HG6 := hid g6
        have HK6 := hid (kept_turn HK5.out HR.out t6)
        have HO6 := hid (own_good HO5.out HG5.out t6)
        clear c0 t6 g6
        go_wp2_with fail
        go_roundw
        case rel => exact ⟨_, m, rfl, by omega, by omega, HG6, HK6, HO6⟩
        case measure => simp [intOf]
end Go.Proofs.Ytnpfjfolpfokoaa
