/- The contract of the statements' own fixed: the chapter's example. -/
import Derived.Test.YtjmldnbepajnoaaRAkT
namespace Go.Proofs.YtjmldnbepajnoaaR
open Go.ChangeShapes Go.WideShapes Go.ChangeAt Go.RowKit
set_option linter.unusedVariables false
set_option linter.unusedSimpArgs false
set_option maxRecDepth 100000

theorem zeroRv (w : World) : (zeroValue 32).run Try.prog w = .ok (.agg #[.string ⟨#[]⟩, .int .u64 0, .int .u32 0, .int .u8 0, .int .u8 0, .int .u32 0, .int .u64 0, .string ⟨#[]⟩]) w := by kernel_rfl
theorem at_cells8' {w : World} {X T : Nat} {a0 a1 a2 a3 a4 a5 a6 a7 : Value} (h : At w X #[a0, a1, a2, a3, a4, a5, a6, a7] T) : w.cell? ⟨X, 0, none⟩ = some a0 ∧ w.cell? ⟨X, 1, none⟩ = some a1 ∧ w.cell? ⟨X, 2, none⟩ = some a2 ∧ w.cell? ⟨X, 3, none⟩ = some a3 ∧ w.cell? ⟨X, 4, none⟩ = some a4 ∧ w.cell? ⟨X, 5, none⟩ = some a5 ∧ w.cell? ⟨X, 6, none⟩ = some a6 ∧ w.cell? ⟨X, 7, none⟩ = some a7 :=
  ⟨at_cell h 0, at_cell h 1, at_cell h 2, at_cell h 3, at_cell h 4, at_cell h 5, at_cell h 6, at_cell h 7⟩
set_option maxHeartbeats 6400000 in
theorem fixed_any {T : Shape Aq} (hT : AskIs T) (w : World) : Calls Try.prog 6 #[] w fun e w' => e = .returned (.bool true) ∧ Kept w w' := by
  have HT := hid hT
  have ka := kept_alloc (kept_refl w) (.cells #[.int .u8 1, .int .u8 2] 5)
  have hN := ak_new (T := T) (W := w) (l := [1, 2]) (u := 10) hT ka (by unfold U8; decide) (by decide) (by unfold inU64; decide) (rg_own encU_ok (og_built encU_ok 5 w w.heap.size (Nat.le_refl _) [1, 2] (by decide)))
  have hz := zeroRv
  clear hT ka
  go_enter Try.func6, Try.ntmps6
  go_wp2_with fail
  refine hN.mono ?_
  rintro e w1 ⟨X, F, rfl, t1, -, -⟩
  have HT1 : Hid (TT T w X ex0 F w1) := hid t1
  have hO := HT.out.over X ex0 F 9 w1 t1.t ex_g0 (by unfold inU64; decide)
  rw [ex_o0] at hO
  clear t1 hN
  go_wp2_with fail
  refine hO.mono ?_
  rintro e w2 ⟨rfl, k2⟩
  have hA := ak_take (n := 3) (x := exE) HT.out (tt_kept HT.out.obj HT1.out k2) ex_g0 (by unfold okU; decide) exE_ok
  rw [ex_m3.1, ex_m3.2] at hA
  clear k2 hO HT1
  go_wp2_with fail
  refine hA.mono ?_
  rintro e w3 ⟨F3, rfl, t3, -⟩
  have hB : Calls Try.prog 9 #[.pointer (some ⟨X, 0, none⟩), .int .u8 1, .agg #[.bool true, .bool false, .string ⟨#[107]⟩, .int .u64 0, .int .u32 0, .int .u8 0, .int .u8 3, .int .u32 0, .int .u64 0, .string ⟨#[]⟩]] w3 fun e w' => ∃ F', e = .returned (.bool true) ∧ TT T w X ex1 F' w' ∧ Sd F3 w3 F' w' := ak_take (n := 1) (x := exX) HT.out t3 ex_g0 (by unfold okU; decide) exX_ok
  clear t3 hA
  go_wp2_with fail
  refine hB.mono ?_
  rintro e w4 ⟨F4, rfl, t4, -⟩
  have HT4 := hid t4
  have hC := HT.out.best X ex1 F4 w4 t4.t ⟨_, ga_1⟩
  rw [ex_b1, ex_l1, ex_s1] at hC
  have hC2 : Calls Try.prog 10 #[.pointer (some ⟨X, 0, none⟩)] w4 fun e w' => e = .returned (.tuple #[.agg #[.string ⟨#[107]⟩, .int .u64 0, .int .u32 0, .int .u8 0, .int .u8 3, .int .u32 0, .int .u64 0, .string ⟨#[]⟩], .bool true, .bool true]) ∧ Kept w4 w' := hC
  clear t4 hB hC
  go_wp2_with fail
  refine hC2.mono ?_
  rintro e w5 ⟨rfl, k5⟩
  have HA := hid (at_new w5 #[.string ⟨#[107]⟩, .int .u64 0, .int .u32 0, .int .u8 0, .int .u8 3, .int .u32 0, .int .u64 0, .string ⟨#[]⟩] 32)
  have kb := kept_alloc (kept_refl w5) (.cells #[.string ⟨#[107]⟩, .int .u64 0, .int .u32 0, .int .u8 0, .int .u8 3, .int .u32 0, .int .u64 0, .string ⟨#[]⟩] 32)
  have HT6 := hid (tt_kept HT.out.obj HT4.out (kept_trans k5 kb))
  have hD := HT.out.behind X ex1 F4 _ HT6.out.t ⟨_, ga_1⟩
  rw [ex_d1] at hD
  clear k5 kb hC2 HT4
  go_wp2_with fail
  refine hD.mono ?_
  rintro e w6 ⟨r6, rfl, o6, k6⟩
  obtain ⟨ra, rc, rfl, -, -⟩ := og_is encU_ok o6
  obtain ⟨b0, b1, b2, b3, b4, b5, b6, b7⟩ := at_cells8' (at_kept HA.out k6)
  have HT7 := hid (tt_kept HT.out.obj HT6.out k6)
  have hE : Calls Try.prog 9 #[.pointer (some ⟨X, 0, none⟩), .int .u8 2, .agg #[.bool false, .bool false, .string ⟨#[]⟩, .int .u64 0, .int .u32 0, .int .u8 0, .int .u8 0, .int .u32 0, .int .u64 0, .string ⟨#[]⟩]] w6 fun e w' => ∃ F', e = .returned (.bool true) ∧ TT T w X ex2 F' w' ∧ Sd F4 w6 F' w' := ak_take (n := 2) (x := zeroRp) HT.out HT7.out ⟨_, ga_1⟩ (by unfold okU; decide) zeroRp_ok
  clear o6 k6 hD HT6
  generalize w5.heap.size = Z at *
  go_wp2_with fail
  refine hE.mono ?_
  rintro e w7 ⟨F7, rfl, t7, -⟩
  have hO := HT.out.over X ex2 F7 9 w7 t7.t ⟨_, ga_2⟩ (by unfold inU64; decide)
  rw [ex_o2] at hO
  have HT8 := hid t7
  clear t7 hE HT7 b0 b1 b2 b3 b4 b5 b6 b7
  go_wp2_with fail
  refine hO.mono ?_
  rintro e w8 ⟨rfl, k8⟩
  have HT9 := hid (tt_kept HT.out.obj HT8.out k8)
  have hD := HT.out.behind X ex2 F7 _ HT9.out.t ⟨_, ga_2⟩
  rw [ex_d2] at hD
  clear hO k8 HT8
  go_wp2_with fail
  refine hD.mono ?_
  rintro e w9 ⟨r9, rfl, o9, k9⟩
  have kc := kept_alloc (kept_refl w9) (.cells #[.int .u8 2] 5)
  have HTa := hid (tt_kept HT.out.obj HT9.out (kept_trans k9 kc))
  have hS := sameU_any [2] (by decide) _ _ _ (rg_own encU_ok (og_stays o9 kc)) (rg_own encU_ok (og_built encU_ok 5 w9 w9.heap.size (Nat.le_refl _) [2] (by decide)))
  obtain ⟨ra, rc, rfl, -, -⟩ := og_is encU_ok o9
  clear o9 k9 kc hD HT9
  go_wp2_with fail
  refine hS.mono ?_
  rintro e wa ⟨rfl, ka⟩
  have HTb := hid (tt_kept HT.out.obj HTa.out ka)
  have hY := HT.out.yes X ex2 F7 _ HTb.out.t ⟨_, ga_2⟩
  rw [ex_h2] at hY
  have hY2 : Calls Try.prog 11 #[.pointer (some ⟨X, 0, none⟩)] wa fun e w' => e = .returned (.int .i64 1) ∧ Kept wa w' := hY
  clear hS ka HTa hY
  go_wp2_with fail
  refine hY2.mono ?_
  rintro e wb ⟨rfl, kb⟩
  have HK := hid (kept_trans HTb.out.k kb)
  clear kb hY2 HTb
  go_wp2_with fail
  go_ret
  exact ⟨rfl, HK.out⟩
end Go.Proofs.YtjmldnbepajnoaaR
