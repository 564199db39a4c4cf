/- The chapter's examples, walked out of what the landed code must answer. -/
import Derived.Test.YtdcokccfannfmaaVwRef
namespace Go.Proofs.Ytdcokccfannfmaa
open Go.ChangeShapes Go.WideShapes Go.ChangeAt Go.RowKit
set_option linter.unusedVariables false
set_option linter.unusedSimpArgs false
set_option maxRecDepth 100000

set_option maxHeartbeats 3200000 in
theorem fixed_any (hF : FreshIs) (hH : HearIs) (w : World) : Calls Try.prog 10 #[] w fun e w' => e = .returned (.bool true) ∧ Kept w w' := by
  have HF := hid hF
  have HH := hid hH
  have zm := zeroM
  have zn := zeroN
  clear hF hH
  go_enter Try.func10, Try.ntmps10
  go_wp2_with fail
  refine (HF.out 3 w (by decide)).mono ?_
  rintro e w1 ⟨v1, rfl, r1, k1⟩
  rw [fresh3] at r1
  have HO2 : Hid (Og encN 3 42 (w1.alloc (.cells #[.int .u8 1, .int .u8 3, .int .u32 0, .int .u8 1, .int .u8 1, .int .u32 0, .int .u8 1, .int .u8 1, .int .u32 1, .int .u8 0, .int .u8 2, .int .u32 4] 42)) w1.heap.size (.slice (some ⟨w1.heap.size, 0, none⟩) 4 4) fNews) := hid (og_built encN_ok 42 w1 _ (Nat.le_refl _) fNews (by decide))
  have HR2 := hid (rg_own encN_ok HO2.out)
  have HV2 := hid (rg_kept encM_ok r1 (kept_alloc (kept_refl w1) (.cells #[.int .u8 1, .int .u8 3, .int .u32 0, .int .u8 1, .int .u8 1, .int .u32 0, .int .u8 1, .int .u8 1, .int .u32 1, .int .u8 0, .int .u8 2, .int .u32 4] 42)))
  have HK2 := hid (kept_alloc k1 (.cells #[.int .u8 1, .int .u8 3, .int .u32 0, .int .u8 1, .int .u8 1, .int .u32 0, .int .u8 1, .int .u8 1, .int .u32 1, .int .u8 0, .int .u8 2, .int .u32 4] 42))
  clear r1 k1 HO2
  go_wp2_with fail
  refine (HH.out 0 [⟨1, 0⟩, ⟨1, 0⟩, ⟨1, 0⟩] fNews _ _ _ (by decide) (by decide) (by decide) (by decide) (fun m hm => by simp at hm; subst hm; unfold okM; decide) (fun x hx => by
    unfold fNews at hx
    simp at hx
    rcases hx with rfl | rfl | rfl | rfl <;> (unfold okN okM; decide)) HV2.out HR2.out).mono ?_
  rintro e w3 ⟨v3, v4, rfl, r3, r4, k3⟩
  rw [f_view] at r3
  obtain ⟨a4, c4, rfl, -, -, -, -⟩ := r4
  rw [f_chg]
  obtain ⟨g, o, c3, rfl⟩ := rg_pos r3 (by decide)
  obtain ⟨p0, p1⟩ := rg_M (i := 0) (x := ⟨1, 5⟩) r3 rfl
  obtain ⟨q0, q1⟩ := rg_M (i := 1) (x := ⟨1, 1⟩) r3 rfl
  have e1 := eq_self_M ⟨1, 5⟩ w3
  have e2 := eq_self_M ⟨1, 1⟩ w3
  have HK3 := hid (kept_trans HK2.out k3)
  simp only [Nat.zero_mul, Nat.add_zero, Nat.one_mul] at p0 p1 q0 q1 e1 e2
  rw [show ([⟨1, 5⟩, ⟨1, 1⟩, ⟨1, 0⟩] : List M).length = 3 from rfl]
  clear r3 k3 HK2 HV2 HR2
  go_wp2_with fail
  go_ret
  exact ⟨rfl, HK3.out⟩
end Go.Proofs.Ytdcokccfannfmaa
