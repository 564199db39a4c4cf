/- The fixed examples of the sums stand: the law's own function of no argument answers true and turns nothing that was there. No condition. -/
import Derived.Test.YthgjfnejcoadoaaSum
namespace Go.Proofs.Ythgjfnejcoadoaa
open Go.ChangeShapes Go.WideShapes Go.ChangeAt Go.RowKit
set_option linter.unusedVariables false

theorem sum_digits (b : Nat) (w : World) (h : Tab b w) :
    Calls Try.prog 10 #[.pointer (some ⟨b, 0, none⟩), .string ⟨#[49, 50, 51, 52, 53, 54, 55, 56, 57]⟩] w fun e w' => e = .returned (.int .u32 3421780262) ∧ Only b w w' ∧ Made b w' := by
  refine (sum_any b ⟨#[49, 50, 51, 52, 53, 54, 55, 56, 57]⟩ (by decide) w h).mono ?_
  rintro e w' ⟨rfl, hO, hM⟩
  exact ⟨by rw [more_digits]; rfl, hO, hM⟩
theorem sum_empty (b : Nat) (w : World) (h : Tab b w) :
    Calls Try.prog 10 #[.pointer (some ⟨b, 0, none⟩), .string ⟨#[]⟩] w fun e w' => e = .returned (.int .u32 0) ∧ Only b w w' ∧ Made b w' := by
  refine (sum_any b ⟨#[]⟩ (by decide) w h).mono ?_
  rintro e w' ⟨rfl, hO, hM⟩
  exact ⟨by rw [more_empty]; rfl, hO, hM⟩
theorem entry_one (b : Nat) (w : World) (h : Tab b w) :
    Calls Try.prog 12 #[.pointer (some ⟨b, 0, none⟩), .int .i64 1] w fun e w' => e = .returned (.int .u32 1996959894) ∧ Only b w w' ∧ Made b w' := by
  refine (entry_any b 1 w h).mono ?_
  rintro e w' ⟨rfl, hO, hM⟩
  exact ⟨by rw [show lowest 1 = 1 by decide, eig_1]; rfl, hO, hM⟩
theorem fixed_any (w : World) :
    Calls Try.prog 8 #[] w fun e w' => e = .returned (.bool true) ∧ Grown w w' := by
  go_enter Try.func8, Try.ntmps8
  go_wp2_with fail
  refine (new_any w).mono ?_
  rintro e w1 ⟨rfl, c, hw1, hF⟩
  have HG : Hid (Grown w w1) := by rw [hw1]; exact (Grown.refl w).alloc _ _
  clear hw1
  have hb : Hid (w.heap.size ≤ w.heap.size) := Nat.le_refl _
  generalize hbb : w.heap.size = b at *
  have HF : Hid (Fresh b w1) := hF
  clear hF
  go_wp2_with fail
  refine (sum_digits b _ (.inl HF.out)).mono ?_
  rintro e w2 ⟨rfl, hO, hM⟩
  have HG2 : Hid (Grown w w2) := hO.grown (by omega) HG.out
  have HM2 : Hid (Made b w2) := hM
  clear hO hM
  go_wp2_with fail
  refine (sum_empty b _ (.inr HM2.out)).mono ?_
  rintro e w3 ⟨rfl, hO, hM⟩
  have HG3 : Hid (Grown w w3) := hO.grown (by omega) HG2.out
  have HM3 : Hid (Made b w3) := hM
  clear hO hM
  go_wp2_with fail
  refine (entry_one b _ (.inr HM3.out)).mono ?_
  rintro e w4 ⟨rfl, hO, hM⟩
  have HG4 : Hid (Grown w w4) := hO.grown (by omega) HG3.out
  clear hO hM
  go_wp2_with fail
  go_ret
  exact ⟨rfl, HG4.out⟩
end Go.Proofs.Ythgjfnejcoadoaa
