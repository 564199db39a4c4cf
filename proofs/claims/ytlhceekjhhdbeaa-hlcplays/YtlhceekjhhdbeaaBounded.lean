/- The law that the last stamp is never further ahead than the time and the drift, walked: it answers true and turns nothing that was there. -/
import Derived.Test.YtlhceekjhhdbeaaOpen
namespace Go.Proofs.Ytlhceekjhhdbeaa
open Go.ChangeShapes Go.WideShapes Go.ChangeAt Go.RowKit
set_option linter.unusedVariables false
set_option linter.unusedSimpArgs false

/- One call of a row: 0 Now, 1 See, else Pass. -/
def step (k : Clk) (kd n : Int) (s : Stp) : Clk := if kd = 0 then (nowK k).2.2 else if kd = 1 then (seeK k s).2 else passK k n
theorem step_ok {k : Clk} (h : k.ok) (kd n : Int) {s : Stp} (hs : s.ok) : (step k kd n s).ok := by
  unfold step
  split
  · exact (now_ok h).1
  split
  · exact see_ok h hs
  · exact pass_ok h n
def Bound (k : Clk) : Prop := k.last.p ≤ k.time + k.drift
theorem now_fields (k : Clk) : (nowK k).2.2.time = k.time ∧ (nowK k).2.2.drift = k.drift ∧ (nowK k).2.2.node = k.node ∧ (nowK k).2.2.wakes = k.wakes := by
  unfold nowK
  split
  · exact ⟨rfl, rfl, rfl, rfl⟩
  split
  · exact ⟨rfl, rfl, rfl, rfl⟩
  split <;> exact ⟨rfl, rfl, rfl, rfl⟩
theorem see_fields (k : Clk) (s : Stp) : (seeK k s).2.time = k.time ∧ (seeK k s).2.drift = k.drift ∧ (seeK k s).2.node = k.node ∧ (seeK k s).2.wakes = k.wakes := by
  unfold seeK
  split
  · exact ⟨rfl, rfl, rfl, rfl⟩
  · simp only
    split <;> exact ⟨rfl, rfl, rfl, rfl⟩
theorem pass_fields (k : Clk) (n : Int) : (passK k n).drift = k.drift ∧ (passK k n).node = k.node ∧ (passK k n).wakes = k.wakes ∧ (passK k n).last = k.last := by
  unfold passK
  split <;> exact ⟨rfl, rfl, rfl, rfl⟩
theorem pass_time {k : Clk} (h : k.ok) (n : Int) : k.time ≤ (passK k n).time := by
  unfold Clk.ok at h
  unfold passK
  split
  · simp only; split <;> omega
  · omega
theorem step_drift (k : Clk) (kd n : Int) (s : Stp) : (step k kd n s).drift = k.drift := by
  unfold step
  split
  · exact (now_fields k).2.1
  split
  · exact (see_fields k s).2.1
  · exact (pass_fields k n).1
theorem bound_now {k : Clk} (hk : k.ok) (h : Bound k) : Bound (nowK k).2.2 := by
  unfold Clk.ok at hk
  unfold Bound at *
  unfold nowK
  split
  · exact h
  split
  · simp only; omega
  split
  · exact h
  · simp only; omega
theorem bound_see {k : Clk} (h : Bound k) (s : Stp) : Bound (seeK k s).2 := by
  unfold Bound at *
  unfold seeK
  split
  · exact h
  · simp only
    split
    · simp only; omega
    · exact h
theorem bound_pass {k : Clk} (hk : k.ok) (h : Bound k) (n : Int) : Bound (passK k n) := by
  have := pass_time hk n
  have e := pass_fields k n
  unfold Bound at *
  rw [e.1, e.2.2.2]
  omega
theorem bound_step {k : Clk} (hk : k.ok) (h : Bound k) (kd n : Int) (s : Stp) : Bound (step k kd n s) := by
  unfold step
  split
  · exact bound_now hk h
  split
  · exact bound_see h s
  · exact bound_pass hk h n
theorem bound_new (node time drift : Int) (rest : Bool) (h : mayNew node time drift) (h2 : 0 ≤ time) : Bound (newK node time drift rest) := by
  unfold mayNew at h
  unfold Bound newK zero
  simp only
  omega
theorem zero40 (w : World) : (zeroValue 40).run Try.prog w = .ok (.agg #[.int .i64 0, .int .i64 0, .int .u64 0, .int .u32 0, .int .u8 0]) w := by kernel_rfl
theorem field_phys (s : Stp) (w : World) : (Instr.field 25 (.agg #[.int .u64 s.p, .int .u32 s.l, .int .u8 s.n]) 0).run Try.prog w = .ok (.int .u64 s.p) w := by
  simp [go_sem, Instr.field]
  rfl
set_option maxHeartbeats 1600000 in
set_option maxRecDepth 100000 in
theorem bounded_walk (node time drift : Int) (oa : Option Addr) (len cap b o : Nat) (K M : Nat → Int) (S : Nat → Stp) (w : World) (wn : (Lit.int .u8 node).wf = true) (wt : (Lit.int .u64 time).wf = true) (wd : (Lit.int .i64 drift).wf = true) (hr : Row w oa len cap b o K M S) :
    Calls Try.prog 6 #[.int .u8 node, .int .u64 time, .int .i64 drift, .slice oa len cap] w fun e w' => e = .returned (.bool true) ∧ Kept w w' := by
  have hz := zero40
  by_cases hm : mayNew node time drift
  · have b1 : 0 ≤ node := (bounds_u8 wn).1
    have b2 : 0 ≤ time := (bounds_u64 wt).1
    have b3 : 0 ≤ drift := hm.2.2.1
    have b4 : drift ≤ 1000 := hm.2.2.2
    have HM : Hid (mayNew node time drift) := hm
    have HR : Hid (Row w oa len cap b o K M S) := hr
    clear hm hr wn wt wd
    go_enter Try.func6, Try.ntmps6
    go_wp2_with fail
    refine (new_good node time drift false HM.out b1 b2 _).mono ?_
    rintro e w1 ⟨rfl, K1, C1⟩
    have HC : Hid (w.heap.size ≤ w.heap.size) := Nat.le_refl _
    generalize hc : w.heap.size = c at *
    have HC : Hid (w.heap.size ≤ c) := Nat.le_of_eq hc
    clear hc
    go_wp2_with fail
    refine (cut_any oa len cap b o K M S w1 (row_kept HR.out K1)).mono ?_
    rintro e w2 ⟨rfl, rfl⟩
    obtain ⟨L, hL⟩ : ∃ L, L = if len ≤ 300 then len else 300 := ⟨_, rfl⟩
    rw [← hL]
    have HL : Hid (Row w oa L cap b o K M S) := row_less HR.out (by rw [hL]; split <;> omega)
    have L3 : L ≤ 300 := by rw [hL]; split <;> omega
    clear hL HR
    have N0 := new_ok false HM.out b1 b2
    have N1 := bound_new node time drift false HM.out b2
    go_wp2_with fail
    go_loopw [26] (fun i wr => ∃ (j : Nat) (k : Clk), j ≤ L ∧ i = .int .i64 j ∧ Hid (Kept w wr) ∧ Hid k.ok ∧ Hid (Bound k) ∧ Hid (k.drift = drift) ∧ Hid (Clock c k wr)) (fun i _ => L - (intOf i).toNat)
    case atStart => exact ⟨0, _, Nat.zero_le _, rfl, K1, N0, N1, rfl, C1⟩
    case round =>
      obtain ⟨j, k, hj, rfl, HK, HO, HB, HDr, HCl⟩ := hrel
      by_cases hlt : j < L
      · obtain ⟨rfl, hb⟩ := HL.out.2.2.2.1 (by omega)
        obtain ⟨wk, wm, so, c0, c1, c2, c3, c4⟩ := (row_kept HL.out HK.out).2.2.2.2 j hlt
        by_cases e0 : K j = 0
        · have f0 : (K j == 0) = true := by simpa using e0
          clear e0
          go_wp2_with fail
          refine (now_any c k HO.out _ (at_alloc HCl.out _)).mono ?_
          rintro e w3 ⟨rfl, T3, C3⟩
          have K3 : Kept w w3 := kept_turn (kept_alloc HK.out _) HC.out T3
          clear c0 c1 c2 c3 c4 T3
          obtain ⟨k', hk'⟩ : ∃ k', k' = (nowK k).2.2 := ⟨_, rfl⟩
          rw [← hk'] at C3
          have HO3 : Hid k'.ok := by rw [hk']; exact (now_ok HO.out).1
          have HB3 : Hid (Bound k') := by rw [hk']; exact bound_now HO.out HB.out
          have HD3 : Hid (k'.drift = drift) := by rw [hk']; exact (now_fields k).2.1.trans HDr.out
          clear hk'
          have t1 : 0 ≤ k'.time := HO3.out.2.2.1
          have t2 : k'.time ≤ 281474976710655 := HO3.out.2.2.2.1
          have t3 : decide (k'.time + drift < k'.last.p) = false := by have := HB3.out; unfold Bound at this; rw [HD3.out] at this; simp; omega
          have t4 : decide (281474976710655 < k'.time) = false := by simp; omega
          go_wp2_with fail
          refine (last_any c k' _ C3).mono ?_
          have hfl := field_phys k'.last
          rintro e w4 ⟨rfl, k4⟩
          have K4 := kept_trans K3 k4
          have C4 := clock_kept C3 k4
          clear K3 C3 k4
          go_wp2_with fail
          refine (time_any c k' _ C4).mono ?_
          rintro e w5 ⟨rfl, rfl⟩
          go_wp2_with fail
          refine (time_any c k' _ C4).mono ?_
          rintro e w6 ⟨rfl, rfl⟩
          go_wp2_with fail
          go_roundw
          case rel => exact ⟨j + 1, k', by omega, by go_num, K4, HO3, HB3, HD3, C4⟩
          case measure => simp [intOf]; omega
        · have f0 : (K j == 0) = false := by simpa using e0
          clear e0
          by_cases e1 : K j = 1
          · have f1 : (K j == 1) = true := by simpa using e1
            clear e1
            go_wp2_with fail
            refine (see_any c k HO.out (S j) _ (at_alloc HCl.out _)).mono ?_
            rintro e w3 ⟨rfl, T3, C3⟩
            have K3 : Kept w w3 := kept_turn (kept_alloc HK.out _) HC.out T3
            clear c0 c1 c2 c3 c4 T3
            obtain ⟨k', hk'⟩ : ∃ k', k' = (seeK k (S j)).2 := ⟨_, rfl⟩
            rw [← hk'] at C3
            have HO3 : Hid k'.ok := by rw [hk']; exact see_ok HO.out so
            have HB3 : Hid (Bound k') := by rw [hk']; exact bound_see HB.out _
            have HD3 : Hid (k'.drift = drift) := by rw [hk']; exact (see_fields k (S j)).2.1.trans HDr.out
            clear hk'
            have t1 : 0 ≤ k'.time := HO3.out.2.2.1
            have t2 : k'.time ≤ 281474976710655 := HO3.out.2.2.2.1
            have t3 : decide (k'.time + drift < k'.last.p) = false := by have := HB3.out; unfold Bound at this; rw [HD3.out] at this; simp; omega
            have t4 : decide (281474976710655 < k'.time) = false := by simp; omega
            go_wp2_with fail
            refine (last_any c k' _ C3).mono ?_
            have hfl := field_phys k'.last
            rintro e w4 ⟨rfl, k4⟩
            have K4 := kept_trans K3 k4
            have C4 := clock_kept C3 k4
            clear K3 C3 k4
            go_wp2_with fail
            refine (time_any c k' _ C4).mono ?_
            rintro e w5 ⟨rfl, rfl⟩
            go_wp2_with fail
            refine (time_any c k' _ C4).mono ?_
            rintro e w6 ⟨rfl, rfl⟩
            go_wp2_with fail
            go_roundw
            case rel => exact ⟨j + 1, k', by omega, by go_num, K4, HO3, HB3, HD3, C4⟩
            case measure => simp [intOf]; omega
          · have f1 : (K j == 1) = false := by simpa using e1
            clear e1
            go_wp2_with fail
            refine (pass_any c k HO.out (M j) wm _ (at_alloc HCl.out _)).mono ?_
            rintro e w3 ⟨rfl, T3, C3⟩
            have K3 : Kept w w3 := kept_turn (kept_alloc HK.out _) HC.out T3
            clear c0 c1 c2 c3 c4 T3
            obtain ⟨k', hk'⟩ : ∃ k', k' = passK k (M j) := ⟨_, rfl⟩
            rw [← hk'] at C3
            have HO3 : Hid k'.ok := by rw [hk']; exact pass_ok HO.out _
            have HB3 : Hid (Bound k') := by rw [hk']; exact bound_pass HO.out HB.out _
            have HD3 : Hid (k'.drift = drift) := by rw [hk']; exact (pass_fields k (M j)).1.trans HDr.out
            clear hk'
            have t1 : 0 ≤ k'.time := HO3.out.2.2.1
            have t2 : k'.time ≤ 281474976710655 := HO3.out.2.2.2.1
            have t3 : decide (k'.time + drift < k'.last.p) = false := by have := HB3.out; unfold Bound at this; rw [HD3.out] at this; simp; omega
            have t4 : decide (281474976710655 < k'.time) = false := by simp; omega
            go_wp2_with fail
            refine (last_any c k' _ C3).mono ?_
            have hfl := field_phys k'.last
            rintro e w4 ⟨rfl, k4⟩
            have K4 := kept_trans K3 k4
            have C4 := clock_kept C3 k4
            clear K3 C3 k4
            go_wp2_with fail
            refine (time_any c k' _ C4).mono ?_
            rintro e w5 ⟨rfl, rfl⟩
            go_wp2_with fail
            refine (time_any c k' _ C4).mono ?_
            rintro e w6 ⟨rfl, rfl⟩
            go_wp2_with fail
            go_roundw
            case rel => exact ⟨j + 1, k', by omega, by go_num, K4, HO3, HB3, HD3, C4⟩
            case measure => simp [intOf]; omega
      · go_wp2_with fail
        refine (fixed_any _).mono ?_
        rintro e w3 ⟨rfl, k3⟩
        have K3 := kept_trans HK.out k3
        go_wp2_with fail
        go_ret
        exact ⟨rfl, K3⟩
  · clear hr
    go_enter Try.func6, Try.ntmps6
    go_wp2_with fail
    refine (new_bad node time drift false hm _).mono ?_
    rintro e w1 ⟨rfl, rfl⟩
    go_wp2_with fail
    refine (fixed_any _).mono ?_
    rintro e w3 ⟨rfl, k3⟩
    go_wp2_with fail
    go_ret
    exact ⟨rfl, k3⟩
end Go.Proofs.Ytlhceekjhhdbeaa
