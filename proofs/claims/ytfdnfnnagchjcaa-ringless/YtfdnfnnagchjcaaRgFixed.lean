/- What the landed Weight, Owners, Owns and Moved must answer, as the laws' walks take it; and the chapter's examples. -/
import Derived.Test.YtfdnfnnagchjcaaRgMov
namespace Go.Proofs.Ytfdnfnnagchjcaa
open Go.ChangeShapes Go.WideShapes Go.ChangeAt Go.RowKit
set_option linter.unusedVariables false
set_option linter.unusedSimpArgs false
set_option maxRecDepth 100000

/- Nodes are numbers of 8 bits. -/
def U8 (l : List Int) : Prop := ∀ n ∈ l, 0 ≤ n ∧ n < 256
def RowR {α : Type} (enc : α → List Value) (c : Nat) (xs : List α) (w : World) (e : Ending) (w' : World) : Prop := ∃ v, e = .returned v ∧ Rg enc c w' v xs ∧ Kept w w'
def WeightIs : Prop := ∀ (key : ByteArray) (n : Int) (w : World), key.size ≤ 1000 → 0 ≤ n → n < 256 → Calls Try.prog 11 #[.string key, .int .u8 n] w fun e w' => e = .returned (.int .u64 (wt key n)) ∧ Kept w w'
def OwnersIs : Prop := ∀ (key : ByteArray) (l : List Int) (v : Value) (w : World), key.size ≤ 1000 → l.length ≤ 500 → U8 l → Rg encU 1 w v l → Calls Try.prog 14 #[.string key, v] w (RowR encU 1 (owners key l) w)
def OwnsIs : Prop := ∀ (key : ByteArray) (l : List Int) (n : Int) (v : Value) (w : World), key.size ≤ 1000 → l.length ≤ 500 → U8 l → 0 ≤ n → n < 256 → Rg encU 1 w v l → Calls Try.prog 16 #[.string key, v, .int .u8 n] w fun e w' => e = .returned (.bool (mem (owners key l) n)) ∧ Kept w w'
def MovedIs : Prop := ∀ (l : List ByteArray) (a b : List Int) (v u z : Value) (w : World), l.length ≤ 50 → (∀ k ∈ l, k.size ≤ 1000) → (l ≠ [] → a.length ≤ 200 ∧ b.length ≤ 200) → U8 a → U8 b → Rg encK 1 w v l → Rg encU 1 w u a → Rg encU 1 w z b → Calls Try.prog 19 #[v, u, z] w (RowR encK 1 (moved l a b) w)
def key0 : ByteArray := ⟨#[107, 101, 121]⟩
set_option maxHeartbeats 3200000 in
theorem fixed_any (hO : OwnersIs) (w : World) : Calls Try.prog 10 #[] w fun e w' => e = .returned (.bool true) ∧ Kept w w' := by
  have HO := hid hO
  have HOm : Hid (Og encU 1 5 (w.alloc (.cells #[.int .u8 3, .int .u8 3] 5)) w.heap.size (.slice (some ⟨w.heap.size, 0, none⟩) 2 2) [3, 3]) := hid (og_built encU_ok 5 w _ (Nat.le_refl _) [3, 3] (by decide))
  have HK1 := hid (kept_alloc (kept_refl w) (.cells #[.int .u8 3, .int .u8 3] 5))
  obtain ⟨w1, hw1⟩ : ∃ w1, w.alloc (.cells #[.int .u8 3, .int .u8 3] 5) = w1 := ⟨_, rfl⟩
  rw [hw1] at HOm HK1
  have HR1 := hid (rg_own encU_ok HOm.out)
  clear HOm hO
  go_enter Try.func10, Try.ntmps10
  go_wp2_with fail
  generalize w.heap.size = B at *
  clear hw1
  refine (HO.out key0 [3, 3] _ w1 (by decide) (by decide) (by unfold U8; decide) HR1.out).mono ?_
  rintro e w2 ⟨v2, rfl, r2, k2⟩
  rw [owners_33] at r2
  have HK2 := hid (kept_trans HK1.out k2)
  have HA3 : Hid (Rg encU 1 (w2.alloc (.cells #[.int .u8 3] 5)) (.slice (some ⟨w2.heap.size, 0, none⟩) 1 1) [3]) := hid (rg_alone encU_ok (y := 3) (at_new w2 #[.int .u8 3] 5))
  have HR3 := hid (rg_kept encU_ok r2 (kept_alloc (kept_refl w2) (.cells #[.int .u8 3] 5)))
  have HK3 := hid (kept_alloc HK2.out (.cells #[.int .u8 3] 5))
  clear r2 k2 HK1 HK2 HR1
  go_wp2_with fail
  refine (sameU_any [3] (by decide) _ _ _ HR3.out HA3.out).mono ?_
  rintro e w4 ⟨rfl, k4⟩
  have HK4 := hid (kept_trans HK3.out k4)
  clear k4 HK3 HR3 HA3
  go_wp2_with fail
  refine (HO.out key0 [] _ w4 (by decide) (by decide) (by unfold U8; decide) (rg_nil _ _ _)).mono ?_
  rintro e w5 ⟨v5, rfl, r5, k5⟩
  rw [owners_none] at r5
  obtain ⟨a5, c5, rfl, -, -, -, -⟩ := r5
  have HK5 := hid (kept_trans HK4.out k5)
  have HOx : Hid (Og encU 1 5 (w5.alloc (.cells #[.int .u8 0, .int .u8 1, .int .u8 2] 5)) w5.heap.size (.slice (some ⟨w5.heap.size, 0, none⟩) 3 3) [0, 1, 2]) := hid (og_built encU_ok 5 w5 _ (Nat.le_refl _) [0, 1, 2] (by decide))
  have HK6 := hid (kept_alloc HK5.out (.cells #[.int .u8 0, .int .u8 1, .int .u8 2] 5))
  have HR6 := hid (rg_own encU_ok HOx.out)
  clear k5 HK4 HK5 HOx
  go_wp2_with fail
  refine (HO.out key0 [0, 1, 2] _ _ (by decide) (by decide) (by unfold U8; decide) HR6.out).mono ?_
  rintro e w7 ⟨v7, rfl, r7, k7⟩
  obtain ⟨a7, c7, rfl, -, -, -, -⟩ := r7
  rw [owners_012]
  have HK7 := hid (kept_trans HK6.out k7)
  clear k7 HK6 HR6
  go_wp2_with fail
  go_ret
  exact ⟨rfl, HK7.out⟩
end Go.Proofs.Ytfdnfnnagchjcaa
