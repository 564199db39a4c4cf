/- The contract of the statements' own fixed: the chapter's example, over whatever answers as the counts must. -/
import Derived.Test.YtibidhmahjbciaaCtIs
namespace Go.Proofs.Ytibidhmahjbciaa
open Go.ChangeShapes Go.WideShapes Go.ChangeAt Go.RowKit
set_option linter.unusedVariables false
set_option linter.unusedSimpArgs false
set_option maxRecDepth 100000

def tA : ByteArray := ⟨#[97]⟩
def tB : ByteArray := ⟨#[98]⟩
def tC : ByteArray := ⟨#[99]⟩
theorem tAB : tA ≠ tB := by decide
theorem tAC : tA ≠ tC := by decide
theorem tBC : tB ≠ tC := by decide
theorem qok_ab : ∀ x ∈ [tA, tB], QOk x := fun x hx => by
  simp only [List.mem_cons, List.not_mem_nil, or_false] at hx
  rcases hx with rfl | rfl <;> exact qok_one _
theorem may_ab : MayC [tA, tB] := may_of _ (by decide) (by decide) (by decide) (by decide)
theorem ex_0 : newC [tA, tB] = [⟨tA, 0⟩, ⟨tB, 0⟩] := rfl
theorem ex_1 : addC [⟨tA, 0⟩, ⟨tB, 0⟩] tA 5 = [⟨tA, 5⟩, ⟨tB, 0⟩] := by rw [add_at (i := 0) (x := ⟨tA, 0⟩) 5 rfl (place_yes _ _ _)]; rfl
theorem ex_2 : addC [⟨tA, 5⟩, ⟨tB, 0⟩] tA 18446744073709551615 = [⟨tA, 18446744073709551615⟩, ⟨tB, 0⟩] := by rw [add_at (i := 0) (x := ⟨tA, 5⟩) _ rfl (place_yes _ _ _)]; rfl
theorem ex_pc (n m : Int) : placeC [⟨tA, n⟩, ⟨tB, m⟩] tC = 2 := by
  rw [place_no _ _ (show (⟨tA, n⟩ : Ct).name ≠ tC from tAC), place_no _ _ (show (⟨tB, m⟩ : Ct).name ≠ tC from tBC)]
  rfl
theorem ex_3 (n m : Int) : addC [⟨tA, n⟩, ⟨tB, m⟩] tC 1 = [⟨tA, n⟩, ⟨tB, m⟩] := add_off _ (ex_pc n m)
theorem ex_h (n m : Int) : hasC [⟨tA, n⟩, ⟨tB, m⟩] tA = true ∧ hasC [⟨tA, n⟩, ⟨tB, m⟩] tC = false := by
  unfold hasC
  rw [ex_pc, place_yes]
  exact ⟨rfl, rfl⟩
theorem ex_g (n m : Int) : getC [⟨tA, n⟩, ⟨tB, m⟩] tA = n ∧ getC [⟨tA, n⟩, ⟨tB, m⟩] tB = m := by
  unfold getC
  rw [place_yes, place_no _ _ (show (⟨tA, n⟩ : Ct).name ≠ tB from tAB), place_yes]
  exact ⟨rfl, rfl⟩
theorem ex_ok {n m : Int} (hn : inU64 n) (hm : inU64 m) : LsOk [⟨tA, n⟩, ⟨tB, m⟩] := ⟨show 2 ≤ 4096 from by decide, fun c hc => by
  simp only [List.mem_cons, List.not_mem_nil, or_false] at hc
  rcases hc with rfl | rfl
  · exact hn
  · exact hm⟩
set_option maxHeartbeats 6400000 in
theorem fixed_any {T : Shape (List Ct)} (hT : CtIs T) (w : World) : Calls Try.prog 7 #[] w fun e w' => e = .returned (.bool true) ∧ Kept w w' := by
  have HT := hid hT
  have ka := kept_alloc (kept_refl w) (.cells #[.string ⟨#[97]⟩, .string ⟨#[98]⟩] 9)
  have hN := ct_new (T := T) (W := w) hT ka may_ab qok_ab (rg_own encK_ok (og_built encK_ok 9 w w.heap.size (Nat.le_refl _) [tA, tB] (by decide)))
  rw [ex_0] at hN
  clear hT ka
  go_enter Try.func7, Try.ntmps7
  go_wp2_with fail
  refine hN.mono ?_
  rintro e w1 ⟨X, F, rfl, t1, -, -⟩
  have hA := ct_add HT.out t1 (ex_ok (by unfold inU64; decide) (by unfold inU64; decide)) tA (tx_one _) (n := 5) (by unfold inU64; decide)
  rw [ex_1, (ex_h 0 0).1] at hA
  clear hN
  have hA' : Calls Try.prog 13 #[.pointer (some ⟨X, 0, none⟩), .string ⟨#[97]⟩, .int .u64 5] w1 fun e w' => ∃ F', e = .returned (.bool true) ∧ TT T w X [⟨tA, 5⟩, ⟨tB, 0⟩] F' w' ∧ Sd F w1 F' w' := hA
  clear hA
  go_wp2_with fail
  refine hA'.mono ?_
  rintro e w2 ⟨F2, rfl, t2, -⟩
  have hB := ct_add HT.out t2 (ex_ok (by unfold inU64; decide) (by unfold inU64; decide)) tA (tx_one _) (n := 18446744073709551615) (by unfold inU64; decide)
  rw [ex_2, (ex_h 5 0).1] at hB
  clear t1 hA'
  have hB' : Calls Try.prog 13 #[.pointer (some ⟨X, 0, none⟩), .string ⟨#[97]⟩, .int .u64 18446744073709551615] w2 fun e w' => ∃ F', e = .returned (.bool true) ∧ TT T w X [⟨tA, 18446744073709551615⟩, ⟨tB, 0⟩] F' w' ∧ Sd F2 w2 F' w' := hB
  clear hB
  go_wp2_with fail
  refine hB'.mono ?_
  rintro e w3 ⟨F3, rfl, t3, -⟩
  have hC := ct_add HT.out t3 (ex_ok (by unfold inU64; decide) (by unfold inU64; decide)) tC (tx_one _) (n := 1) (by unfold inU64; decide)
  rw [ex_3, (ex_h _ 0).2] at hC
  clear t2 hB'
  have hC' : Calls Try.prog 13 #[.pointer (some ⟨X, 0, none⟩), .string ⟨#[99]⟩, .int .u64 1] w3 fun e w' => ∃ F', e = .returned (.bool false) ∧ TT T w X [⟨tA, 18446744073709551615⟩, ⟨tB, 0⟩] F' w' ∧ Sd F3 w3 F' w' := hC
  clear hC
  go_wp2_with fail
  refine hC'.mono ?_
  rintro e w4 ⟨F4, rfl, t4, -⟩
  have hG := ct_get HT.out t4 (ex_ok (by unfold inU64; decide) (by unfold inU64; decide)) tA (tx_one _)
  rw [(ex_g _ _).1] at hG
  clear t3 hC'
  have hG' : Calls Try.prog 14 #[.pointer (some ⟨X, 0, none⟩), .string ⟨#[97]⟩] w4 fun e w' => e = .returned (.int .u64 18446744073709551615) ∧ TT T w X [⟨tA, 18446744073709551615⟩, ⟨tB, 0⟩] F4 w' ∧ Kept w4 w' := hG
  clear hG
  go_wp2_with fail
  refine hG'.mono ?_
  rintro e w5 ⟨rfl, t5, -⟩
  have hH := ct_get HT.out t5 (ex_ok (by unfold inU64; decide) (by unfold inU64; decide)) tB (tx_one _)
  rw [(ex_g _ _).2] at hH
  clear t4 hG'
  have hH' : Calls Try.prog 14 #[.pointer (some ⟨X, 0, none⟩), .string ⟨#[98]⟩] w5 fun e w' => e = .returned (.int .u64 0) ∧ TT T w X [⟨tA, 18446744073709551615⟩, ⟨tB, 0⟩] F4 w' ∧ Kept w5 w' := hH
  clear hH
  go_wp2_with fail
  refine hH'.mono ?_
  rintro e w6 ⟨rfl, t6, -⟩
  have HK := hid t6.k
  clear t5 t6 hH'
  go_wp2_with fail
  go_ret
  exact ⟨rfl, HK.out⟩
end Go.Proofs.Ytibidhmahjbciaa
