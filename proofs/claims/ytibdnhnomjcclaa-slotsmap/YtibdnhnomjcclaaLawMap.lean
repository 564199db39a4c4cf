/- The law that a table is a map, walked: it answers true and turns nothing that was there. -/
import Derived.Test.YtibdnhnomjcclaaWant
import Derived.Test.YtibdnhnomjcclaaLawEmpty
namespace Go.Proofs.Ytibdnhnomjcclaa
open Go.ChangeShapes Go.WideShapes Go.ChangeAt Go.RowKit
set_option linter.unusedVariables false
set_option linter.unusedSimpArgs false

set_option maxHeartbeats 3200000 in
set_option maxRecDepth 100000 in
theorem map_walk (a : Int) (oa : Option Addr) (len cap b o : Nat) (S : Nat → Opx) (z : ByteArray) (w : World) (wa : (Lit.int .u16 a).wf = true) (hr : Row w oa len cap b o S) (hzl : z.size ≤ maxLen) :
    Calls Try.prog 4 #[.int .u16 a, .slice oa len cap, .string z] w fun e w' => e = .returned (.bool true) ∧ Kept w w' := by
  have hz := zero35
  have hmm := @run_makeMap Try.prog
  obtain ⟨ha0, ha1⟩ := bounds_u16 wa
  obtain ⟨N, rfl⟩ := Int.eq_ofNat_of_zero_le ha0
  obtain ⟨k, hk⟩ : ∃ k : Nat, 1 + (N : Int) % 1024 = (k : Int) ∧ 1 ≤ k ∧ k ≤ 1024 := ⟨1 + N % 1024, by omega, by omega, by omega⟩
  obtain ⟨hk, hk1, hk2⟩ := hk
  have HRw := hid hr
  have HZl := hid hzl
  unfold maxLen at hzl
  clear wa hr
  go_enter Try.func4, Try.ntmps4
  go_wp2_with fail
  refine (new_any k hk1 hk2 _).mono ?_
  rintro e w1 ⟨X, R, m, rfl, z1, hX, hR, k1, g1⟩
  have HX := hid hX
  have HR := hid hR
  have HG1 := hid g1
  have HK1 := hid k1
  have h4 := z1.low
  clear hX hR z1 g1 k1
  go_wp2_with fail
  refine (fixed_any _).mono ?_
  rintro e w2 ⟨rfl, k2⟩
  have HG2 := hid (good_kept HG1.out k2)
  have HK2 := hid (kept_trans HK1.out k2)
  clear HG1 HK1 k2
  by_cases hz5 : 500 < z.size
  · have hz6 : (500 : Int) < (z.size : Int) := by omega
    clear hz5
    go_wp2_with fail
    refine (fixed_any _).mono ?_
    rintro e w3 ⟨rfl, k3⟩
    go_wp2_with fail
    go_ret
    exact ⟨rfl, kept_trans HK2.out k3⟩
  have hz6 : ¬ (500 : Int) < (z.size : Int) := by omega
  clear hz5
  have HG3 := hid (good_alloc HG2.out (.map #[] 0))
  have HK3 := hid (kept_alloc HK2.out (.map #[] 0))
  have HW3 := hid (wants_made w2)
  have HB := hid HK2.out.2
  go_wp2_with fail
  clear hmm HG2 HK2
  generalize w2.alloc (.map #[] 0) = w3 at *
  generalize w2.heap.size = B at *
  refine (cut_any oa len cap b o S _ (ops_kept HRw.out HK3.out)).mono ?_
  rintro e w4 ⟨n1, rfl, hn1, hn2, hs, k4⟩
  have HG4 := hid (good_kept HG3.out k4)
  have HK4 := hid (kept_trans HK3.out k4)
  have HW4 := hid (wants_kept HW3.out k4)
  have HR1 := hid (ops_less HRw.out hn1)
  have HS1 := hid hs
  clear HG3 HK3 HW3 k4 HRw hn1 hs
  go_wp2_with fail
  go_loopw [55] (fun i wr => ∃ (j : Nat) (L : Tb), j ≤ n1 ∧ i = .int .i64 j ∧ Hid (Good wr X R m k L) ∧ Hid (Kept w wr) ∧ Hid (∃ n, n ≤ j ∧ Wants wr B n (mp m L) (cnt L m))) (fun i _ => n1 - (intOf i).toNat)
  case atStart =>
    refine ⟨0, _, Nat.zero_le _, rfl, HG4, HK4, hid ⟨0, Nat.le_refl _, ?_⟩⟩
    rw [show mp m (fun _ => no) = (fun _ => none) from funext fun q => mp_new HG4.out.pos q, cnt_new]
    exact HW4.out
  case round =>
    obtain ⟨j, L, hj, rfl, HG, HKr, HWr⟩ := hrel
    clear HG4 HK4 HW4
    obtain ⟨n, hnj, hW⟩ := HWr.out
    have HW := hid hW
    clear HWr hW
    by_cases hlt : j < n1
    · obtain ⟨rfl, hb⟩ := HR1.out.2.2.2.1 (by omega)
      obtain ⟨ks, c0, c1, c2⟩ := (ops_kept HR1.out HKr.out).2.2.2.2.1 j hlt
      have hsv := HR1.out.2.2.2.2.2 j hlt
      have hs := HS1.out j hlt
      generalize S j = s at *
      have hs : s.key.size ≤ 1000 := by omega
      have hsm : s.key.size ≤ maxLen := ks
      have HP := hid (at_new wr #[.int .i64 s.kind, .int .i64 s.v, .string s.key] 35)
      have HGa := hid (good_alloc HG.out (.cells #[.int .i64 s.kind, .int .i64 s.v, .string s.key] 35))
      have HKa := hid (kept_alloc HKr.out (.cells #[.int .i64 s.kind, .int .i64 s.v, .string s.key] 35))
      have HWa := hid (wants_alloc HW.out (.cells #[.int .i64 s.kind, .int .i64 s.v, .string s.key] 35))
      by_cases e0 : s.kind = 0
      · have f0 : (s.kind == 0) = true := by simpa using e0
        clear e0
        cases e : mp m L s.key with
        | none =>
          by_cases hc : cnt L m = k
          · have hlook := wants_look HWa.out s.key hsm
            have hlen := wants_len HWa.out 3
            rw [e] at hlook
            have HE := hid e
            clear e
            have hcb : ((cnt L m : Int) == (k : Int)) = true := by simp; omega
            have HN : Hid ( (mp m L s.key = none ∧ cnt L m = k)) := hid (by rw [HE.out]; simp; exact hc)
            clear hc
            go_wp2_with fail
            refine (set_any s.key hs s.v _ HGa.out).mono ?_
            rintro e1 w5 ⟨rfl, t5, g5⟩
            rw [set_full L s.key s.v HN.out.1 HN.out.2] at g5
            have e5 : (setT (hm m) m k L s.key s.v).1 = 6 := by rw [set_err, if_pos HN.out]
            rw [e5]
            have HKn := hid (kept_turns HKa.out HX.out HR.out t5)
            have HWn := hid (wants_turns HWa.out HGa.out.tab t5)
            have HGn := hid g5
            clear t5 g5 e5 hlook hlen c0 c1 c2
            go_wp2_with fail
            go_roundw
            case rel => exact ⟨j + 1, _, by omega, by go_num, HGn, HKn, hid ⟨n, by omega, HWn.out⟩⟩
            case measure => simp [intOf]; omega
          · have hlook := wants_look HWa.out s.key hsm
            have hlen := wants_len HWa.out 3
            rw [e] at hlook
            have HE := hid e
            clear e
            have hcb : ((cnt L m : Int) == (k : Int)) = false := by simp; omega
            have HN : Hid (¬ (mp m L s.key = none ∧ cnt L m = k)) := hid (by rw [HE.out]; simp; exact hc)
            clear hc
            go_wp2_with fail
            refine (set_any s.key hs s.v _ HGa.out).mono ?_
            rintro e1 w5 ⟨rfl, t5, g5⟩
            have e5 : (setT (hm m) m k L s.key s.v).1 = 0 := by rw [set_err, if_neg HN.out]
            rw [e5]
            have HKn := hid (kept_turns HKa.out HX.out HR.out t5)
            have HWn := hid (wants_turns HWa.out HGa.out.tab t5)
            have HGn := hid g5
            have HPn := hid (at_turns HP.out t5 (at_ne HP.out HGa.out.tab.1 (by decide)) (row_ne HP.out HGa.out.tab.2 (by decide)))
            obtain ⟨w6, hup, hW6, ht6⟩ := wants_put HWn.out (by omega) s.key hsm s.v hsv
            have HWm : Hid (Wants w6 B (n + 1) (mp m (setT (hm m) m k L s.key s.v).2) (cnt (setT (hm m) m k L s.key s.v).2 m)) := hid (by
              rw [show mp m (setT (hm m) m k L s.key s.v).2 = (fun q => if q = s.key then some s.v else mp m L q) from funext fun q => set_mp HGa.out g5 HN.out q, set_cnt HGa.out HN.out]
              exact hW6)
            have HGm := hid (good_turned g5 ht6)
            have HKm := hid (kept_turned HKn.out HB.out ht6)
            obtain ⟨p0, p1, p2, pf⟩ := at_cells3 HPn.out
            clear t5 g5 e5 hlook hlen c0 c1 c2 hW6 ht6 HWn HGn HKn
            generalize (setT (hm m) m k L s.key s.v).2 = L3 at *
            go_wp2_with fail
            go_roundw
            case rel => exact ⟨j + 1, L3, by omega, by go_num, HGm, HKm, hid ⟨n + 1, by omega, HWm.out⟩⟩
            case measure => simp [intOf]; omega
        | some y =>
          by_cases hc : cnt L m = k
          · have hlook := wants_look HWa.out s.key hsm
            have hlen := wants_len HWa.out 3
            rw [e] at hlook
            have HE := hid e
            clear e
            have hcb : ((cnt L m : Int) == (k : Int)) = true := by simp; omega
            have HN : Hid (¬ (mp m L s.key = none ∧ cnt L m = k)) := hid (by rw [HE.out]; simp)
            clear hc
            go_wp2_with fail
            refine (set_any s.key hs s.v _ HGa.out).mono ?_
            rintro e1 w5 ⟨rfl, t5, g5⟩
            have e5 : (setT (hm m) m k L s.key s.v).1 = 0 := by rw [set_err, if_neg HN.out]
            rw [e5]
            have HKn := hid (kept_turns HKa.out HX.out HR.out t5)
            have HWn := hid (wants_turns HWa.out HGa.out.tab t5)
            have HGn := hid g5
            have HPn := hid (at_turns HP.out t5 (at_ne HP.out HGa.out.tab.1 (by decide)) (row_ne HP.out HGa.out.tab.2 (by decide)))
            obtain ⟨w6, hup, hW6, ht6⟩ := wants_put HWn.out (by omega) s.key hsm s.v hsv
            have HWm : Hid (Wants w6 B (n + 1) (mp m (setT (hm m) m k L s.key s.v).2) (cnt (setT (hm m) m k L s.key s.v).2 m)) := hid (by
              rw [show mp m (setT (hm m) m k L s.key s.v).2 = (fun q => if q = s.key then some s.v else mp m L q) from funext fun q => set_mp HGa.out g5 HN.out q, set_cnt HGa.out HN.out]
              exact hW6)
            have HGm := hid (good_turned g5 ht6)
            have HKm := hid (kept_turned HKn.out HB.out ht6)
            obtain ⟨p0, p1, p2, pf⟩ := at_cells3 HPn.out
            clear t5 g5 e5 hlook hlen c0 c1 c2 hW6 ht6 HWn HGn HKn
            generalize (setT (hm m) m k L s.key s.v).2 = L3 at *
            go_wp2_with fail
            go_roundw
            case rel => exact ⟨j + 1, L3, by omega, by go_num, HGm, HKm, hid ⟨n + 1, by omega, HWm.out⟩⟩
            case measure => simp [intOf]; omega
          · have hlook := wants_look HWa.out s.key hsm
            have hlen := wants_len HWa.out 3
            rw [e] at hlook
            have HE := hid e
            clear e
            have hcb : ((cnt L m : Int) == (k : Int)) = false := by simp; omega
            have HN : Hid (¬ (mp m L s.key = none ∧ cnt L m = k)) := hid (by rw [HE.out]; simp)
            clear hc
            go_wp2_with fail
            refine (set_any s.key hs s.v _ HGa.out).mono ?_
            rintro e1 w5 ⟨rfl, t5, g5⟩
            have e5 : (setT (hm m) m k L s.key s.v).1 = 0 := by rw [set_err, if_neg HN.out]
            rw [e5]
            have HKn := hid (kept_turns HKa.out HX.out HR.out t5)
            have HWn := hid (wants_turns HWa.out HGa.out.tab t5)
            have HGn := hid g5
            have HPn := hid (at_turns HP.out t5 (at_ne HP.out HGa.out.tab.1 (by decide)) (row_ne HP.out HGa.out.tab.2 (by decide)))
            obtain ⟨w6, hup, hW6, ht6⟩ := wants_put HWn.out (by omega) s.key hsm s.v hsv
            have HWm : Hid (Wants w6 B (n + 1) (mp m (setT (hm m) m k L s.key s.v).2) (cnt (setT (hm m) m k L s.key s.v).2 m)) := hid (by
              rw [show mp m (setT (hm m) m k L s.key s.v).2 = (fun q => if q = s.key then some s.v else mp m L q) from funext fun q => set_mp HGa.out g5 HN.out q, set_cnt HGa.out HN.out]
              exact hW6)
            have HGm := hid (good_turned g5 ht6)
            have HKm := hid (kept_turned HKn.out HB.out ht6)
            obtain ⟨p0, p1, p2, pf⟩ := at_cells3 HPn.out
            clear t5 g5 e5 hlook hlen c0 c1 c2 hW6 ht6 HWn HGn HKn
            generalize (setT (hm m) m k L s.key s.v).2 = L3 at *
            go_wp2_with fail
            go_roundw
            case rel => exact ⟨j + 1, L3, by omega, by go_num, HGm, HKm, hid ⟨n + 1, by omega, HWm.out⟩⟩
            case measure => simp [intOf]; omega
      · have f0 : (s.kind == 0) = false := by simpa using e0
        clear e0
        by_cases e1 : s.kind = 1
        · have f1 : (s.kind == 1) = true := by simpa using e1
          clear e1
          cases e : mp m L s.key with
          | none =>
            have hlook := wants_look HWa.out s.key hsm
            rw [e] at hlook
            have HE := hid e
            clear e
            go_wp2_with fail
            refine (drop_any s.key hsm _ HGa.out).mono ?_
            rintro e1 w5 ⟨rfl, t5, g5⟩
            have e5 : (dropT (hm m) m L s.key).1 = false := by rw [drop_told, HE.out]; rfl
            rw [e5]
            have HKn := hid (kept_turns HKa.out HX.out HR.out t5)
            have HWn := hid (wants_turns HWa.out HGa.out.tab t5)
            have HPn := hid (at_turns HP.out t5 (at_ne HP.out HGa.out.tab.1 (by decide)) (row_ne HP.out HGa.out.tab.2 (by decide)))
            obtain ⟨w6, hup, hW6, ht6⟩ := wants_del HWn.out s.key hsm 0
            have HWm : Hid (Wants w6 B n (mp m (dropT (hm m) m L s.key).2) (cnt (dropT (hm m) m L s.key).2 m)) := hid (by
              rw [show mp m (dropT (hm m) m L s.key).2 = (fun q => if q = s.key then none else mp m L q) from funext fun q => drop_mp HGa.out g5 q]
              exact hW6 _ (drop_cnt HGa.out))
            have HGm := hid (good_turned g5 ht6)
            have HKm := hid (kept_turned HKn.out HB.out ht6)
            obtain ⟨p0, p1, p2, pf⟩ := at_cells3 HPn.out
            clear t5 g5 e5 hlook c0 c1 c2 hW6 ht6 HWn HKn
            generalize (dropT (hm m) m L s.key).2 = L3 at *
            go_wp2_with fail
            go_roundw
            case rel => exact ⟨j + 1, L3, by omega, by go_num, HGm, HKm, hid ⟨n, by omega, HWm.out⟩⟩
            case measure => simp [intOf]; omega
          | some y =>
            have hlook := wants_look HWa.out s.key hsm
            rw [e] at hlook
            have HE := hid e
            clear e
            go_wp2_with fail
            refine (drop_any s.key hsm _ HGa.out).mono ?_
            rintro e1 w5 ⟨rfl, t5, g5⟩
            have e5 : (dropT (hm m) m L s.key).1 = true := by rw [drop_told, HE.out]; rfl
            rw [e5]
            have HKn := hid (kept_turns HKa.out HX.out HR.out t5)
            have HWn := hid (wants_turns HWa.out HGa.out.tab t5)
            have HPn := hid (at_turns HP.out t5 (at_ne HP.out HGa.out.tab.1 (by decide)) (row_ne HP.out HGa.out.tab.2 (by decide)))
            obtain ⟨w6, hup, hW6, ht6⟩ := wants_del HWn.out s.key hsm 0
            have HWm : Hid (Wants w6 B n (mp m (dropT (hm m) m L s.key).2) (cnt (dropT (hm m) m L s.key).2 m)) := hid (by
              rw [show mp m (dropT (hm m) m L s.key).2 = (fun q => if q = s.key then none else mp m L q) from funext fun q => drop_mp HGa.out g5 q]
              exact hW6 _ (drop_cnt HGa.out))
            have HGm := hid (good_turned g5 ht6)
            have HKm := hid (kept_turned HKn.out HB.out ht6)
            obtain ⟨p0, p1, p2, pf⟩ := at_cells3 HPn.out
            clear t5 g5 e5 hlook c0 c1 c2 hW6 ht6 HWn HKn
            generalize (dropT (hm m) m L s.key).2 = L3 at *
            go_wp2_with fail
            go_roundw
            case rel => exact ⟨j + 1, L3, by omega, by go_num, HGm, HKm, hid ⟨n, by omega, HWm.out⟩⟩
            case measure => simp [intOf]; omega
        · have f1 : (s.kind == 1) = false := by simpa using e1
          clear e1
          go_wp2_with fail
          go_roundw
          case rel => exact ⟨j + 1, L, by omega, by go_num, HGa, HKa, hid ⟨n, by omega, HWa.out⟩⟩
          case measure => simp [intOf]; omega
    · clear HR1 HS1
      have hc4 := cnt_le L m
      go_wp2_with fail
      refine (keys_any h4 HG.out.small _ HG.out.tab).mono ?_
      rintro e w5 ⟨v, rfl, hv, k5⟩
      have HG5 := hid (good_kept HG.out k5)
      have HK5 := hid (kept_trans HKr.out k5)
      have HW5 := hid (wants_kept HW.out k5)
      obtain ⟨va, vc, rfl, hvc⟩ := own_slice hv
      have HV := hid hv
      have HN := hid (keysOf_length L m)
      have HM : Hid (∀ q, q ∈ keysOf L m → q.size ≤ maxLen ∧ ∃ x, mp m L q = some x) := hid (fun q hq => by
        obtain ⟨i, hi, g⟩ := (keysOf_mem L m q).1 hq
        refine ⟨by have := HG5.out.small i; rw [g.2] at this; unfold maxLen; omega, ?_⟩
        cases e : mp m L q with
        | none => exact absurd g ((mp_none HG5.out.ok HG5.out.free q).1 e i)
        | some x => exact ⟨x, rfl⟩)
      generalize hKK : keysOf L m = KK at *
      generalize hcc : cnt L m = c at *
      have HC := hid hcc
      have HVC := hid hvc
      clear hcc hKK hvc hv k5 HKr hlt HG HW
      go_wp2_with fail
      go_loopw [119] (fun i wr => ∃ (j : Nat), j ≤ c ∧ i = .int .i64 j ∧ Hid (Kept w5 wr)) (fun i _ => c - (intOf i).toNat)
      case atStart => exact ⟨0, Nat.zero_le _, rfl, hid (kept_refl _)⟩
      case round =>
        obtain ⟨j, hj, rfl, HKr⟩ := hrel
        have HG6 := hid (good_kept HG5.out HKr.out)
        have HW6 := hid (wants_kept HW5.out HKr.out)
        by_cases hlt : j < c
        · have hjl : j < KK.length := by rw [HN.out]; exact hlt
          obtain ⟨g, rfl, hcl⟩ := HVC.out (by omega)
          have c1 := hcl j (.string KK[j]) (by simp [hjl])
          have c0 := (kept_cell HKr.out (cell_lt c1)).trans c1
          obtain ⟨hxs, y, hy⟩ := HM.out KK[j] (List.getElem_mem hjl)
          generalize KK[j] = x at *
          clear hcl c1
          go_wp2_with fail
          refine (get_any x hxs _ HG6.out).mono ?_
          rintro e w7 ⟨rfl, k7⟩
          rw [valI_mp, taken_mp, hy]
          have hlook := wants_look (wants_kept HW6.out k7) x hxs
          rw [hy] at hlook
          have HK7 := hid (kept_trans HKr.out k7)
          clear k7 hy
          go_wp2_with fail
          go_roundw
          case rel => exact ⟨j + 1, by omega, by go_num, HK7⟩
          case measure => simp [intOf]; omega
        · clear HM HVC
          go_wp2_with fail
          refine (get_any z HZl.out _ HG6.out).mono ?_
          rintro e w7 ⟨rfl, k7⟩
          rw [valI_mp, taken_mp]
          have HG7 := hid (good_kept HG6.out k7)
          have HW7 := hid (wants_kept HW6.out k7)
          have hlook := wants_look HW7.out z HZl.out
          have HK7 := hid (kept_trans (kept_trans HK5.out HKr.out) k7)
          generalize (mp m L z).isSome = bz at *
          generalize (mp m L z).getD 0 = vz at *
          have hTb := HG7.out.tab
          rw [HC.out] at hTb
          have HT7 := hid hTb
          clear k7 hTb
          have hlen := wants_len HW7.out 3
          go_wp2_with fail
          refine (len_any _ HT7.out).mono ?_
          rintro e w8 ⟨rfl, rfl⟩
          go_wp2_with fail
          refine (keys_any h4 HG7.out.small _ HG7.out.tab).mono ?_
          rintro e w9 ⟨v9, rfl, hv9, k9⟩
          rw [HC.out] at hv9
          obtain ⟨va9, vc9, rfl, -⟩ := own_slice hv9
          have hlen9 := wants_len (wants_kept HW7.out k9) 3
          have HK9 := hid (kept_trans HK7.out k9)
          clear hv9 k9 hlen hlook
          have hbz : (bz == bz) = true := by simp
          go_wp2_with fail
          go_ret
          exact ⟨rfl, HK9.out⟩
end Go.Proofs.Ytibdnhnomjcclaa
