/- The contracts of the landed Over and Yes. At most 100 nodes. -/
import Derived.Test.YtjmldnbepajnoaaRAkMem
namespace Go.Proofs.YtjmldnbepajnoaaR
open Go.ChangeShapes Go.WideShapes Go.ChangeAt Go.RowKit
set_option linter.unusedVariables false
set_option linter.unusedSimpArgs false
set_option maxRecDepth 100000

theorem over_is (X : Nat) (a : Aq) (F : Nat → Prop) (now : Int) (w : World) (h : AO w X a F) (hl : a.l.length ≤ 100) : Calls Try.prog 14 #[.pointer (some ⟨X, 0, none⟩), .int .u64 now] w fun e w' => e = .returned (.bool (overQ a now)) ∧ Kept w w' := by
  obtain ⟨v, hX, hO, -⟩ := h
  have hC := cont0 (p := fun q => !q.c) (l := memL a) enters_over (by rw [mem_len]; omega) v w (rg_own encA_ok hO) (fun u q _ _ => overp_any q u)
  rw [allC_is] at hC
  obtain ⟨va, vc, rfl, -, -⟩ := og_is encA_ok hO
  obtain ⟨c0, c1, -⟩ := at_cells2 hX
  have HK := hid (kept_refl w)
  by_cases hu : a.u ≤ now
  · have HE : Hid (true = overQ a now) := hid (by unfold overQ; rw [decide_eq_true hu]; rfl)
    have hd : decide (a.u ≤ now) = true := by simpa using hu
    clear hC hX hO
    go_enter Try.func14, Try.ntmps14
    go_wp2_with fail
    go_ret
    exact ⟨ret_bool HE.out, HK.out⟩
  · have HE : Hid (allC a = overQ a now) := hid (by unfold overQ; rw [decide_eq_false hu]; rfl)
    have hd : decide (a.u ≤ now) = false := by simpa using hu
    generalize allC a = al at *
    clear hX hO
    go_enter Try.func14, Try.ntmps14
    go_wp2_with fail
    refine hC.mono ?_
    rintro e w1 ⟨rfl, k1⟩
    have HK1 := hid k1
    clear hC k1 c0 c1
    go_wp2_with fail
    go_ret
    exact ⟨ret_bool HE.out, HK1.out⟩
set_option maxHeartbeats 3200000 in
theorem yes_is (X : Nat) (a : Aq) (F : Nat → Prop) (w : World) (h : AO w X a F) (hl : a.l.length ≤ 100) : Calls Try.prog 11 #[.pointer (some ⟨X, 0, none⟩)] w fun e w' => e = .returned (.int .i64 ((hasL a).length : Int)) ∧ Kept w w' := by
  obtain ⟨v, hX, hO, -⟩ := h
  have HR := hid (rg_own encA_ok hO)
  have HE : Hid (cntM (memL a) = (hasL a).length) := hid (cntM_is a)
  have hml : (memL a).length ≤ 100 := by rw [mem_len]; exact hl
  obtain ⟨va, vc, rfl, hc1, hc2⟩ := og_is encA_ok hO
  unfold maxLen at hc2
  obtain ⟨c0, c1, -⟩ := at_cells2 hX
  generalize memL a = M at *
  have HT : Hid (M.take M.length = M) := hid List.take_length
  have HG : Hid (∀ k : Nat, k < M.length → ∃ y, M[k]? = some y) := hid (fun k hk => ⟨M[k], List.getElem?_eq_getElem hk⟩)
  have HP : Hid (0 < M.length → ∃ g o, va = some ⟨g, o, none⟩) := hid (fun hp => by
    obtain ⟨g, o, c, e⟩ := rg_pos HR.out hp
    injection e with e1
    exact ⟨g, o, e1⟩)
  have HCl : Hid (∀ k, cntM (M.take k) ≤ 100) := hid (fun k => Nat.le_trans (cntM_le _) (by rw [List.length_take]; omega))
  have hza := zeroAv
  generalize hm : M.length = m at *
  clear hX hO hm
  go_enter Try.func11, Try.ntmps11
  go_wp2_with fail
  clear c0 c1
  go_loopw [3, 13] (fun nv iv wr => ∃ (k : Nat), k ≤ m ∧ nv = .int .i64 (cntM (M.take k) : Int) ∧ iv = .int .i64 (k : Int) ∧ Hid (Kept w wr)) (fun _ iv _ => m - (intOf iv).toNat)
  case atStart => exact ⟨0, Nat.zero_le _, rfl, rfl, hid (kept_refl w)⟩
  case round =>
    obtain ⟨k, hk, rfl, rfl, HK⟩ := hrel
    by_cases hlt : k < m
    · have hltz : (k : Int) < (m : Int) := by omega
      obtain ⟨y, hy⟩ := HG.out k hlt
      obtain ⟨gg, oo, rfl⟩ := HP.out (by omega)
      obtain ⟨c0, c1, c2, c3, c4, c5, c6, c7, c8, c9, ca, cb⟩ := rg_A (rg_kept encA_ok HR.out HK.out) hy
      have HZ := hid (at_new wr #[.int .u8 y.n, .bool y.c, .bool y.x.has, .bool y.x.past, .string y.x.r.key, .int .u64 y.x.r.s.p, .int .u32 y.x.r.s.l, .int .u8 y.x.r.s.n, .int .u8 y.x.r.kind, .int .u32 y.x.r.flags, .int .u64 y.x.r.exp, .string y.x.r.body] 54)
      have HKa := hid (kept_trans HK.out (kept_alloc (kept_refl wr) (.cells #[.int .u8 y.n, .bool y.c, .bool y.x.has, .bool y.x.past, .string y.x.r.key, .int .u64 y.x.r.s.p, .int .u32 y.x.r.s.l, .int .u8 y.x.r.s.n, .int .u8 y.x.r.kind, .int .u32 y.x.r.flags, .int .u64 y.x.r.exp, .string y.x.r.body] 54)))
      obtain ⟨p0, p1, p2, p3, p4, p5, p6, p7, p8, p9, pa, pb⟩ := cells12 HZ.out
      have HNx := hid (cntM_next hy)
      have hcl := HCl.out k
      obtain ⟨cn, hcn⟩ : ∃ cn, cntM (M.take k) = cn := ⟨_, rfl⟩
      rw [hcn] at hcl HNx ⊢
      clear hy hcn
      cases hb : y.x.has with
      | true =>
        have HN1 : Hid (cntM (M.take (k + 1)) = cn + 1) := hid (by rw [HNx.out, hb]; rfl)
        rw [hb] at c2 p2
        simp only [hb] at p0 p1 p3 p4 p5 p6 p7 p8 p9 pa pb HKa
        clear hb HNx HZ
        go_wp2_with fail
        go_roundw
        case rel => exact ⟨k + 1, by omega, by rw [HN1.out]; go_num, by go_num, HKa⟩
        case measure => simp [intOf]; omega
      | false =>
        have HN1 : Hid (cntM (M.take (k + 1)) = cn) := hid (by rw [HNx.out, hb]; rfl)
        rw [hb] at c2 p2
        simp only [hb] at p0 p1 p3 p4 p5 p6 p7 p8 p9 pa pb HKa
        clear hb HNx HZ
        go_wp2_with fail
        go_roundw
        case rel => exact ⟨k + 1, by omega, by rw [HN1.out], by go_num, HKa⟩
        case measure => simp [intOf]; omega
    · have hltz : ¬ (k : Int) < (m : Int) := by omega
      obtain rfl : k = m := by omega
      rw [HT.out, HE.out]
      go_wp2_with fail
      go_ret
      exact ⟨rfl, HK.out⟩
end Go.Proofs.YtjmldnbepajnoaaR
