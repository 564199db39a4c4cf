/- The walk of TalkAgain, out of what the landed talk must answer. -/
import Derived.Test.YtalcbahnhiibkaaTkIs
namespace Go.Proofs.Ytalcbahnhiibkaa
open Go.ChangeShapes Go.WideShapes Go.ChangeAt Go.RowKit
set_option linter.unusedVariables false
set_option linter.unusedSimpArgs false
set_option maxRecDepth 100000

def one4 (x : Nw) (j : Nat) : List Pc := if j < 4 then [⟨x, j⟩] else []
theorem one_pks (x : Nw) (j : Nat) : pks [⟨x, j⟩] 2 = [0] := rfl
theorem one_take (x : Nw) (j : Nat) (h : j < 4) : takeT (one4 x j) 2 = [x] ∧ takeR (one4 x j) 4 2 = one4 x (j + 1) := by
  unfold one4
  rw [if_pos h]
  refine ⟨rfl, ?_⟩
  unfold takeR keep
  rw [one_pks]
  have : bump [⟨x, j⟩] [0] = [⟨x, j + 1⟩] := rfl
  rw [this]
  by_cases h2 : j + 1 < 4 <;> simp [h2]
theorem alone_last (x : Nw) : takeT (one4 x 4) 2 = [] := rfl
theorem one_add (x y : Nw) (j : Nat) (h : x.node = y.node) : addP (one4 x j) y = one4 y 0 := by
  unfold one4 addP
  by_cases hj : j < 4
  · simp [hj, h]
  · simp [hj]
theorem one_new (x : Nw) : addP [] x = one4 x 0 := rfl
set_option maxHeartbeats 12800000 in
theorem again_walk {T : Shape} (hT : TalkIs T) (x y : Nw) (n : Int) (hx : NwOk x) (hy : NwOk y) (hn : 0 ≤ n) (hn2 : n < 256) (w : World) : Calls Try.prog 5 #[.agg #[.int .u8 x.node, .int .u8 x.st, .int .u32 x.inc], .agg #[.int .u8 y.node, .int .u8 y.st, .int .u32 y.inc], .int .u8 n] w fun e w' => e = .returned (.bool true) ∧ Kept w w' := by
  have HT := hid hT
  have HF := hid (fun u => fixed_any hT u)
  obtain ⟨a, ha⟩ : ∃ a, x.node % 64 = a := ⟨_, rfl⟩
  have HX' : Hid (NwOk ⟨a, x.st, x.inc⟩ ∧ NwOk ⟨a, y.st, y.inc⟩ ∧ a < 64) := hid (by
    have h1 := Int.emod_nonneg x.node (show (64 : Int) ≠ 0 by decide)
    have h2 := Int.emod_lt_of_pos x.node (show (0 : Int) < 64 by decide)
    rw [ha] at h1 h2
    exact ⟨⟨⟨h1, by show a < 256; omega⟩, hx.2⟩, ⟨⟨h1, by show a < 256; omega⟩, hy.2⟩, h2⟩)
  have k0 := kept_alloc (kept_refl w) (.cells #[.int .u8 x.node, .int .u8 x.st, .int .u32 x.inc] 33)
  have a0 := at_new w #[.int .u8 x.node, .int .u8 x.st, .int .u32 x.inc] 33
  obtain ⟨w0, hw0⟩ : ∃ w0, w.alloc (.cells #[.int .u8 x.node, .int .u8 x.st, .int .u32 x.inc] 33) = w0 := ⟨_, rfl⟩
  obtain ⟨P, hP⟩ : ∃ P, w.heap.size = P := ⟨_, rfl⟩
  rw [hw0] at k0 a0
  rw [hP] at a0
  have k1 := kept_alloc (kept_refl w0) (.cells #[.int .u8 y.node, .int .u8 y.st, .int .u32 y.inc] 33)
  have b1 := at_new w0 #[.int .u8 y.node, .int .u8 y.st, .int .u32 y.inc] 33
  obtain ⟨w1, hw1⟩ : ∃ w1, w0.alloc (.cells #[.int .u8 y.node, .int .u8 y.st, .int .u32 y.inc] 33) = w1 := ⟨_, rfl⟩
  obtain ⟨Q, hQ⟩ : ∃ Q, w0.heap.size = Q := ⟨_, rfl⟩
  rw [hw1] at k1 b1
  rw [hQ] at b1
  have a1 := at_kept a0 k1
  have hPQ : P ≠ Q := by have := at_lt a0; omega
  obtain ⟨p0, p1, p2⟩ := at_cells3' a1
  have pf := at_frozen a1
  have qf : ∀ o, (w1.setCell ⟨P, 0, none⟩ (.int .u8 a)).frozen? ⟨Q, o, none⟩ = false := at_frozen (at_other b1 (Ne.symm hPQ) 0 (.int .u8 a))
  obtain ⟨q0, q1, q2⟩ := at_cells3' (at_other b1 (Ne.symm hPQ) 0 (.int .u8 a))
  have a2 : At ((w1.setCell ⟨P, 0, none⟩ (.int .u8 a)).setCell ⟨Q, 0, none⟩ (.int .u8 a)) P #[.int .u8 a, .int .u8 x.st, .int .u32 x.inc] 33 := at_other (at_set a1 0 (.int .u8 a)) hPQ 0 (.int .u8 a)
  have b2 : At ((w1.setCell ⟨P, 0, none⟩ (.int .u8 a)).setCell ⟨Q, 0, none⟩ (.int .u8 a)) Q #[.int .u8 a, .int .u8 y.st, .int .u32 y.inc] 33 := at_set (at_other b1 (Ne.symm hPQ) 0 (.int .u8 a)) 0 (.int .u8 a)
  have k2 : Kept w ((w1.setCell ⟨P, 0, none⟩ (.int .u8 a)).setCell ⟨Q, 0, none⟩ (.int .u8 a)) := kept_set (kept_set (kept_trans k0 k1) (by omega) 0 _) (by have := k0.2; omega) 0 _
  have HA2 := hid a2
  have HB2 := hid b2
  have HK2 := hid k2
  obtain ⟨r, hr⟩ : ∃ r : Nat, n % 4 = (r : Int) := ⟨(n % 4).toNat, by omega⟩
  have hr4 : r < 4 := by omega
  have ht1 : Int.tmod x.node 64 = a := by rw [Int.tmod_eq_emod_of_nonneg hx.1.1, ha]
  have ht2 : Int.tmod n 4 = (r : Int) := by rw [Int.tmod_eq_emod_of_nonneg hn, hr]
  have hwa : IntKind.u8.wrap a = a := by have := HX'.out; rw [IntKind.wrap_u8]; have h3 := this.1.1; simp only at h3; omega
  have hwr : IntKind.i64.wrap (r : Int) = (r : Int) := IntWalk.i64_in _ (by omega)
  have hwn : IntKind.i64.wrap n = n := IntWalk.i64_in _ (by omega)
  clear hT a0 a1 b1 a2 b2 k0 k1 k2 hx hy ha hr
  go_enter Try.func5, Try.ntmps5
  go_wp2_with fail
  clear hw0 hw1 p0 p1 p2 pf q0 q1 q2 qf ht1 hwa hP hQ
  generalize (w1.setCell ⟨P, 0, none⟩ (.int .u8 a)).setCell ⟨Q, 0, none⟩ (.int .u8 a) = W at *
  have hN := tt_new (T := T) (W := W) (w := W) (n := 4) (k := 2) HT.out (kept_refl W) (by decide) (by decide) (by decide) (by decide)
  refine hN.mono ?_
  rintro e w3 ⟨X, F, rfl, t3, -⟩
  have HT3 := hid t3
  clear t3 hN
  go_wp2_with fail
  refine (HF.out w3).mono ?_
  rintro e w4 ⟨rfl, k4⟩
  have HT4 := hid (tt_kept HT.out HT3.out k4)
  clear k4 HT3 HF
  obtain ⟨p0, p1, p2⟩ := at_cells3' (at_kept HA2.out HT4.out.k)
  have hA := tt_add HT.out HT4.out (by decide) (by decide) (x := ⟨a, x.st, x.inc⟩) HX'.out.1 HX'.out.2.2
  rw [one_new] at hA
  go_wp2_with fail
  refine hA.mono ?_
  rintro e w5 ⟨rfl, F5, t5, -⟩
  have HT5 := hid t5
  clear t5 hA HT4 p0 p1 p2
  go_wp2_with fail
  clear ht2 hwr hwn
  have HOn : Hid (∀ (l : List Pc) (F : Nat → Prop) (u : World), TT T W X 4 2 l F u → Calls Try.prog 11 #[.pointer (some ⟨X, 0, none⟩)] u fun e w' => ∃ r F', e = .returned r ∧ Rg encN 3 w' r (takeT l 2) ∧ TT T W X 4 2 (takeR l 4 2) F' w' ∧ Sd F u F' w') := hid (fun l F u h => tt_take HT.out h (by decide) (by decide) (by decide) (by decide))
  go_loopw [36] (fun iv wr => ∃ (i : Nat) (F' : Nat → Prop), i ≤ r ∧ iv = .int .i64 (i : Int) ∧ Hid (TT T W X 4 2 (one4 ⟨a, x.st, x.inc⟩ i) F' wr)) (fun iv _ => r - (intOf iv).toNat)
  case atStart => exact ⟨0, F5, by omega, rfl, HT5⟩
  case round =>
    obtain ⟨i, F', hi, rfl, HTr⟩ := hrel
    clear HT5
    by_cases hlt : i < r
    · obtain ⟨e1, e2⟩ := one_take ⟨a, x.st, x.inc⟩ i (by omega)
      have hK := HOn.out _ _ _ HTr.out
      rw [e1, e2] at hK
      clear e1 e2
      go_wp2_with fail
      refine hK.mono ?_
      rintro e w6 ⟨r6, F6, rfl, rr, t6, -⟩
      have HT6 := hid t6
      obtain ⟨g, o, cp, rfl⟩ := rg_pos rr (by simp)
      obtain ⟨d0, d1, d2⟩ := rg_N rr (i := 0) rfl
      rw [Nat.zero_mul, Nat.add_zero] at d0 d1 d2
      obtain ⟨p0, p1, p2⟩ := at_cells3' (at_kept HA2.out t6.k)
      have heq := eq_self_N ⟨a, x.st, x.inc⟩
      clear t6 rr hK HTr
      simp only [List.length_singleton]
      go_wp2_with fail
      go_quiet (fail)
      go_wp2_with fail
      go_roundw
      case rel => exact ⟨i + 1, F6, by omega, by go_num, hid (tt_kept HT.out HT6.out (kept_drewN (kept_refl _) _))⟩
      case measure => simp [intOf]; omega
    · have he : i = r := by omega
      subst he
      have hA := tt_add HT.out HTr.out (by decide) (by decide) (x := ⟨a, y.st, y.inc⟩) HX'.out.2.1 HX'.out.2.2
      rw [one_add ⟨a, x.st, x.inc⟩ ⟨a, y.st, y.inc⟩ _ rfl] at hA
      obtain ⟨q0, q1, q2⟩ := at_cells3' (at_kept HB2.out HTr.out.k)
      go_wp2_with fail
      refine hA.mono ?_
      rintro e w7 ⟨rfl, F7, t7, -⟩
      have HT7 := hid t7
      clear t7 hA HTr q0 q1 q2
      go_wp2_with fail
      go_loopw [54] (fun iv wr => ∃ (i : Nat) (F' : Nat → Prop), i ≤ 4 ∧ iv = .int .i64 (i : Int) ∧ Hid (TT T W X 4 2 (one4 ⟨a, y.st, y.inc⟩ i) F' wr)) (fun iv _ => 4 - (intOf iv).toNat)
      case atStart => exact ⟨0, F7, by omega, rfl, HT7⟩
      case round =>
        obtain ⟨j, F', hj, rfl, HTr⟩ := hrel
        clear HT7
        by_cases hlt2 : j < 4
        · obtain ⟨e1, e2⟩ := one_take ⟨a, y.st, y.inc⟩ j (by omega)
          have hK := HOn.out _ _ _ HTr.out
          rw [e1, e2] at hK
          clear e1 e2
          go_wp2_with fail
          refine hK.mono ?_
          rintro e w8 ⟨r8, F8, rfl, rr, t8, -⟩
          have HT8 := hid t8
          obtain ⟨g, o, cp, rfl⟩ := rg_pos rr (by simp)
          obtain ⟨d0, d1, d2⟩ := rg_N rr (i := 0) rfl
          rw [Nat.zero_mul, Nat.add_zero] at d0 d1 d2
          obtain ⟨p0, p1, p2⟩ := at_cells3' (at_kept HB2.out t8.k)
          have heq := eq_self_N ⟨a, y.st, y.inc⟩
          clear t8 rr hK HTr
          simp only [List.length_singleton]
          go_wp2_with fail
          go_quiet (fail)
          go_wp2_with fail
          go_roundw
          case rel => exact ⟨j + 1, F8, by omega, by go_num, hid (tt_kept HT.out HT8.out (kept_drewN (kept_refl _) _))⟩
          case measure => simp [intOf]; omega
        · have he : j = 4 := by omega
          subst he
          have hK := HOn.out _ _ _ HTr.out
          rw [alone_last] at hK
          go_wp2_with fail
          refine hK.mono ?_
          rintro e w9 ⟨r9, F9, rfl, rr, t9, -⟩
          obtain ⟨b9, c9, rfl, -, -, -, -⟩ := rr
          have HK9 := hid t9.k
          obtain ⟨p0, p1, p2⟩ := at_cells3' (at_kept HA2.out t9.k)
          have hB := HT.out.add_nil ⟨a, x.st, x.inc⟩ w9 HX'.out.1
          clear hK t9 HTr
          simp only [List.length_nil]
          go_wp2_with fail
          refine hB.mono ?_
          rintro e w10 ⟨rfl, k10⟩
          have hC := HT.out.take_nil w10
          clear hB p0 p1 p2
          go_wp2_with fail
          refine hC.mono ?_
          rintro e w11 ⟨b11, c11, rfl, k11⟩
          have hD := HT.out.len_nil w11
          clear hC
          go_wp2_with fail
          refine hD.mono ?_
          rintro e w12 ⟨rfl, k12⟩
          have HKz := hid (kept_trans HK2.out (kept_trans HK9.out (kept_trans k10 (kept_trans k11 k12))))
          clear hD k10 k11 k12
          go_wp2_with fail
          go_ret
          exact ⟨rfl, HKz.out⟩
end Go.Proofs.Ytalcbahnhiibkaa
