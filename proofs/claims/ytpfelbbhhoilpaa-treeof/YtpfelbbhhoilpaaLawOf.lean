/- The law on a tree of any leaves, walked: it answers true and turns nothing that was there. -/
import Derived.Test.YtpfelbbhhoilpaaOf
namespace Go.Proofs.Ytpfelbbhhoilpaa
open Go.ChangeShapes Go.WideShapes Go.ChangeAt Go.RowKit
set_option linter.unusedVariables false
set_option linter.unusedSimpArgs false
set_option maxRecDepth 100000

/- Leaves that were turned from noughts, up to one. -/
def upto (N : Nat → Int) (k : Nat) : Nat → Int := fun j => if j < k then N j else 0
theorem upto_next {N : Nat → Int} {k : Nat} (hx : U (N k)) : flipL (upto N k) k (N k) = upto N (k + 1) := by
  funext j
  unfold flipL
  by_cases e : j = k
  · subst e
    rw [upd_at]
    unfold upto
    rw [if_neg (by omega), if_pos (by omega), xo_zero hx]
  · rw [upd_ne _ _ e]
    unfold upto
    by_cases h : j < k
    · rw [if_pos h, if_pos (by omega)]
    · rw [if_neg h, if_neg (by omega)]
theorem upto_wf {N : Nat → Int} (h : Wl N) (k : Nat) : Wl (upto N k) := by
  intro j hj
  unfold upto
  split
  · exact h j hj
  · exact U_zero
theorem upto_all (N : Nat → Int) : Eq64 (upto N 64) N := fun j hj => if_pos hj
set_option maxHeartbeats 6400000 in
theorem of_walk (oa : Option Addr) (len cap : Nat) (N : Nat → Int) (w : World) (hr : Ra w (.slice oa len cap) N len) (hU : ∀ i, i < len → U (N i)) (hm : len ≤ maxLen) :
    Calls Try.prog 5 #[.slice oa len cap] w fun e w' => e = .returned (.bool true) ∧ Kept w w' := by
  unfold maxLen at hm
  by_cases h1 : 1000 < len
  · have e1 : decide ((1000 : Int) < (len : Int)) = true := by simp; omega
    clear hr hU h1
    go_enter Try.func5, Try.ntmps5
    go_wp2_with fail
    refine (fixed_any w).mono ?_
    rintro e w1 ⟨rfl, k1⟩
    go_wp2_with fail
    go_ret
    exact ⟨rfl, k1⟩
  · have e1 : decide ((1000 : Int) < (len : Int)) = false := by simp; omega
    by_cases h2 : len = 64
    · subst h2
      have HR := hid hr
      have HU := hid hU
      have HO := hid (of_any (fun j hj => hU j hj) w hr)
      clear hr hU h1 e1 hm
      go_enter Try.func5, Try.ntmps5
      go_wp2_with fail
      refine HO.out.mono ?_
      rintro e w1 ⟨rfl, k1, t1⟩
      obtain ⟨X, hX⟩ : ∃ X, w.heap.size = X := ⟨_, rfl⟩
      have HX := hid hX
      rw [hX] at t1 ⊢
      have HT1 := hid t1
      have HK1 := hid k1
      clear t1 k1 hX HO
      go_wp2_with fail
      refine (new_any w1).mono ?_
      rintro e w2 ⟨rfl, k2, t2, s2⟩
      obtain ⟨Y, hY⟩ : ∃ Y, w1.heap.size = Y := ⟨_, rfl⟩
      have HY : Hid (X < Y) := hid (by have := tr_lt HT1.out; omega)
      rw [hY] at t2 ⊢
      have HT2 := hid (tr_kept HT1.out k2)
      have HK2 := hid (kept_trans HK1.out k2)
      have HU2 : Hid (Tr w2 Y (upto N 0)) := hid (tr_ext t2 (fun j hj => by unfold upto; simp))
      clear t2 k2 s2 hY HT1 HK1
      go_wp2_with fail
      go_loopw [43] (fun i wr => ∃ k : Nat, k ≤ 64 ∧ i = .int .i64 (k : Int) ∧ Hid (Tr wr Y (upto N k)) ∧ Hid (Tr wr X N) ∧ Hid (Kept w wr)) (fun i _ => 64 - (intOf i).toNat)
      case atStart => exact ⟨0, Nat.zero_le _, rfl, HU2, HT2, HK2⟩
      case round =>
        obtain ⟨k, hk, rfl, HUr, HTr, HKr⟩ := hrel
        clear HU2 HT2 HK2
        by_cases hlt : k < 64
        · obtain ⟨a', c', e0, h3⟩ := ra_kept HR.out HKr.out
          injection e0 with e0 _ e1
          subst e0 e1
          obtain ⟨g1, o1, rfl, h4⟩ := h3 (by omega)
          have c0 := h4 k hlt
          have HF := hid (flip_ok k (N k) hlt wr HUr.out)
          rw [upto_next (HU.out k hlt)] at HF
          generalize N k = x at *
          clear h3 h4
          go_wp2_with fail
          refine HF.out.mono ?_
          rintro e w4 ⟨rfl, t4, r4⟩
          have HU4 := hid r4
          have HT4 := hid (tr_turn HTr.out t4 (by have := HY.out; omega))
          have HK4 := hid (kept_turn HKr.out (by have := HY.out; have := HX.out; omega) t4)
          clear t4 r4 c0
          go_wp2_with fail
          go_roundw
          case rel => exact ⟨k + 1, by omega, by go_num, HU4, HT4, HK4⟩
          case measure => simp [intOf]; omega
        · have he : k = 64 := by omega
          subst he
          have HU3 := hid (tr_ext HUr.out (upto_all N))
          clear HUr
          rw [show ((64 : Nat) : Int) = 64 from rfl]
          go_wp2_with fail
          go_loopw [53] (fun i wr => ∃ k : Nat, k ≤ 128 ∧ i = .int .i64 (k : Int) ∧ Hid (Tr wr Y N) ∧ Hid (Tr wr X N) ∧ Hid (Kept w wr)) (fun i _ => 128 - (intOf i).toNat)
          case atStart => exact ⟨0, Nat.zero_le _, rfl, HU3, HTr, HKr⟩
          case round =>
            obtain ⟨k, hk, rfl, HUr, HTq, HKq⟩ := hrel
            clear HU3 HTr HKr
            by_cases hlt : k < 128
            · have HA := hid (fun w1 (h : Tr w1 X N) => node_all (((k % 7 : Nat) : Int)) (k : Int) w1 h)
              have HB := hid (fun w1 (h : Tr w1 Y N) => node_all (((k % 7 : Nat) : Int)) (k : Int) w1 h)
              obtain ⟨m, hm⟩ : ∃ m, k % 7 = m := ⟨_, rfl⟩
              have hmi : (k : Int) % 7 = (m : Int) := by omega
              rw [hm] at HA HB
              generalize nodI N (m : Int) (k : Int) = y at *
              have hne : (y != y) = false := by simp
              clear hm
              go_wp2_with fail
              refine (HA.out _ HTq.out).mono ?_
              rintro e w4 ⟨rfl, k4⟩
              have HU4 := hid (tr_kept HUr.out k4)
              have HT4 := hid (tr_kept HTq.out k4)
              have HK4 := hid (kept_trans HKq.out k4)
              clear k4
              go_wp2_with fail
              refine (HB.out _ HU4.out).mono ?_
              rintro e w5 ⟨rfl, k5⟩
              have HU5 := hid (tr_kept HU4.out k5)
              have HT5 := hid (tr_kept HT4.out k5)
              have HK5 := hid (kept_trans HK4.out k5)
              clear k5
              go_wp2_with fail
              go_roundw
              case rel => exact ⟨k + 1, by omega, by go_num, HU5, HT5, HK5⟩
              case measure => simp [intOf]; omega
            · have he : k = 128 := by omega
              subst he
              go_wp2_with fail
              refine (fixed_any _).mono ?_
              rintro e w4 ⟨rfl, k4⟩
              have HU4 := hid (tr_kept HUr.out k4)
              have HT4 := hid (tr_kept HTq.out k4)
              have HK4 := hid (kept_trans HKq.out k4)
              clear k4 HUr HTq HKq
              have hA := root_any _ HT4.out
              have HB := hid (fun w1 (h : Tr w1 Y N) => root_any w1 h)
              generalize nod N 1 = y at *
              have hee : (y == y) = true := by simp
              go_wp2_with fail
              refine hA.mono ?_
              rintro e w5 ⟨rfl, k5⟩
              have HU5 := hid (tr_kept HU4.out k5)
              have HT5 := hid (tr_kept HT4.out k5)
              have HK5 := hid (kept_trans HK4.out k5)
              clear k5 HU4 HT4 HK4 hA
              go_wp2_with fail
              refine (HB.out _ HU5.out).mono ?_
              rintro e w6 ⟨rfl, k6⟩
              have HT6 := hid (tr_kept HT5.out k6)
              have HK6 := hid (kept_trans HK5.out k6)
              clear k6 HU5 HT5 HK5 HB
              go_wp2_with fail
              refine (leaves_any _ HT6.out).mono ?_
              rintro e w7 ⟨v7, rfl, r7, k7⟩
              have HK7 := hid (kept_trans HK6.out k7)
              have HS := hid (sameu_any N 64 (by omega) _ _ _ r7 (ra_kept HR.out HK7.out))
              clear r7 k7 HT6 HK6
              go_wp2_with fail
              refine HS.out.mono ?_
              rintro e w8 ⟨rfl, k8⟩
              go_wp2_with fail
              go_ret
              exact ⟨rfl, kept_trans HK7.out k8⟩
    · have e2 : ((len : Int) != 64) = true := by simp; omega
      have HO := hid (of_bad oa len cap h2 w)
      clear hr hU h1 h2
      go_enter Try.func5, Try.ntmps5
      go_wp2_with fail
      refine HO.out.mono ?_
      rintro e w1 ⟨rfl, rfl⟩
      go_wp2_with fail
      refine (fixed_any _).mono ?_
      rintro e w2 ⟨rfl, k2⟩
      go_wp2_with fail
      go_ret
      exact ⟨rfl, k2⟩
end Go.Proofs.Ytpfelbbhhoilpaa
