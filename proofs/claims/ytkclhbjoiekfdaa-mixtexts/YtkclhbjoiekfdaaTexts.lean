/- Contracts of the program's and the reference's functions on texts: a text's number and its range, as plain functions of the bytes. The text has at most as many bytes as a text may have. -/
import Derived.Test.YtkclhbjoiekfdaaWalks
import Derived.WalkKit
import Derived.ProofKit
import Derived.OpenShut
namespace Go.Proofs.Ytkclhbjoiekfdaa
open Go.ChangeShapes Go.WideShapes Go.ChangeAt Go.RowKit
set_option linter.unusedVariables false

def foldT (l : List UInt8) : Int := l.foldl (fun h c => mixI (bits .xor .u64 h (IntKind.u64.wrap (c.toNat : Int)))) 11400714819323198485
def textI (l : List UInt8) (n : Int) : Int := mixI (bits .xor .u64 (foldT l) n)
theorem foldT_snoc (l : List UInt8) (c : UInt8) : foldT (l ++ [c]) = mixI (bits .xor .u64 (foldT l) (IntKind.u64.wrap (c.toNat : Int))) := by
  unfold foldT; rw [List.foldl_append]; rfl
theorem take_snoc (s : ByteArray) (k : Nat) (h : k < s.size) : s.data.toList.take (k + 1) = s.data.toList.take k ++ [s[k]] := by
  rw [List.take_succ_eq_append_getElem (by simpa using h)]; rfl
theorem text_any (s : ByteArray) (hs : s.size ≤ maxLen) (w : World) :
    Calls Try.prog 14 #[.string s] w fun e w' => e = .returned (.int .u64 (textI s.data.toList s.size)) ∧ w' = w := by
  unfold maxLen at hs
  go_enter Try.func14, Try.ntmps14
  go_wp2
  go_loop [3, 4, 7] (fun h i j => ∃ k : Nat, k ≤ s.size ∧ j = .int .i64 k ∧ h = .int .u64 (foldT (s.data.toList.take k))) (fun _ _ j => s.size - (intOf j).toNat)
  case atStart => exact ⟨0, Nat.zero_le _, rfl, rfl⟩
  case round =>
    obtain ⟨k, hk, rfl, rfl⟩ := hrel
    by_cases hlt : k < s.size
    · have HS : Hid (foldT (s.data.toList.take (k + 1)) = mixI (bits .xor .u64 (foldT (s.data.toList.take k)) (IntKind.u64.wrap (s[k].toNat : Int)))) := by
        show _ = _
        rw [take_snoc s k hlt, foldT_snoc]
      generalize hh : foldT (s.data.toList.take k) = h at *
      clear hh
      go_wp2_with (go_at_call 10; refine (mix_any _ _).mono ?_; rintro e w' ⟨rfl, rfl⟩)
      go_round
      case rel => exact ⟨k + 1, by omega, by go_num, by rw [HS.out]⟩
      case measure => simp [intOf]; omega
    · have hkk : k = s.size := by omega
      subst hkk
      rw [List.take_of_length_le (by simp)]
      go_wp2_with (go_at_call 10; refine (mix_any _ _).mono ?_; rintro e w' ⟨rfl, rfl⟩)
      go_ret
      refine ⟨ret_int ?_, rfl⟩
      rfl
theorem reftext_any (s : ByteArray) (hs : s.size ≤ maxLen) (w : World) :
    Calls Try.prog 15 #[.string s] w fun e w' => e = .returned (.int .u64 (textI s.data.toList s.size)) ∧ w' = w := by
  unfold maxLen at hs
  go_enter Try.func15, Try.ntmps15
  go_wp2
  go_loop [3, 4] (fun h j => ∃ k : Nat, k ≤ s.size ∧ j = .int .i64 k ∧ h = .int .u64 (foldT (s.data.toList.take k))) (fun _ j => s.size - (intOf j).toNat)
  case atStart => exact ⟨0, Nat.zero_le _, rfl, rfl⟩
  case round =>
    obtain ⟨k, hk, rfl, rfl⟩ := hrel
    by_cases hlt : k < s.size
    · have HS : Hid (foldT (s.data.toList.take (k + 1)) = mixI (bits .xor .u64 (foldT (s.data.toList.take k)) (IntKind.u64.wrap (s[k].toNat : Int)))) := by
        show _ = _
        rw [take_snoc s k hlt, foldT_snoc]
      generalize hh : foldT (s.data.toList.take k) = h at *
      clear hh
      go_wp2_with (go_at_call 11; refine (refmix_any _ (wf_bits _ _ _ _) _).mono ?_; rintro e w' ⟨rfl, rfl⟩)
      go_round
      case rel => exact ⟨k + 1, by omega, by go_num, by rw [HS.out]⟩
      case measure => simp [intOf]; omega
    · have hkk : k = s.size := by omega
      subst hkk
      rw [List.take_of_length_le (by simp)]
      go_wp2_with (go_at_call 11; refine (refmix_any _ (wf_bits _ _ _ _) _).mono ?_; rintro e w' ⟨rfl, rfl⟩)
      go_ret
      refine ⟨ret_int ?_, rfl⟩
      rfl
theorem wf_textI (l : List UInt8) (n : Int) : (Lit.int .u64 (textI l n)).wf = true := wf_mixI _
theorem shr58 (t : Int) (h : (Lit.int .u64 t).wf = true) : wrap64 (t / 288230376151711744) = t / 288230376151711744 := by
  have := bounds_u64 h
  unfold wrap64; omega
theorem quo58 (t : Int) (h : (Lit.int .u64 t).wf = true) : wrap64 (IntKind.u64.wrap (t.tdiv 288230376151711744)) = t / 288230376151711744 := by
  have := bounds_u64 h
  rw [Int.tdiv_eq_ediv_of_nonneg this.1, IntKind.wrap_u64]
  unfold wrap64; omega
theorem range_any (s : ByteArray) (hs : s.size ≤ maxLen) (w : World) :
    Calls Try.prog 16 #[.string s] w fun e w' => e = .returned (.int .i64 (textI s.data.toList s.size / 288230376151711744)) ∧ w' = w := by
  have ht := wf_textI s.data.toList s.size
  go_enter Try.func16, Try.ntmps16
  go_wp2_with fail
  refine (text_any s hs _).mono ?_
  rintro e w' ⟨rfl, rfl⟩
  go_wp2_with fail
  go_ret
  exact ⟨ret_int (shr58 _ ht), rfl⟩
theorem refrange_any (s : ByteArray) (hs : s.size ≤ maxLen) (w : World) :
    Calls Try.prog 17 #[.string s] w fun e w' => e = .returned (.int .i64 (textI s.data.toList s.size / 288230376151711744)) ∧ w' = w := by
  have ht := wf_textI s.data.toList s.size
  go_enter Try.func17, Try.ntmps17
  go_wp2_with fail
  refine (reftext_any s hs _).mono ?_
  rintro e w' ⟨rfl, rfl⟩
  go_wp2_with fail
  go_ret
  exact ⟨ret_int (quo58 _ ht), rfl⟩
theorem range_facts (t : Int) (h : (Lit.int .u64 t).wf = true) : 0 ≤ t / 288230376151711744 ∧ t / 288230376151711744 < 64 := by
  have := bounds_u64 h
  omega
theorem mixTexts_walk (s : ByteArray) (hs : s.size ≤ maxLen) (w : World) :
    Calls Try.prog 4 #[.string s] w fun e w' => e = .returned (.bool true) ∧ Grown w w' := by
  have hs' := hs
  unfold maxLen at hs'
  by_cases hc : (5000 : Int) < s.size
  · go_enter Try.func4, Try.ntmps4
    go_wp2_with (go_at_call 9; refine (fixed_any _).mono ?_; rintro e w' ⟨rfl, rfl⟩)
    go_ret
    exact ⟨rfl, Grown.refl _⟩
  · go_enter Try.func4, Try.ntmps4
    go_wp2_with (first | (go_at_call 9; refine (fixed_any _).mono ?_; rintro e w' ⟨rfl, rfl⟩) | (go_at_call 14; refine (text_any s hs _).mono ?_; rintro e w' ⟨rfl, rfl⟩) | (go_at_call 15; refine (reftext_any s hs _).mono ?_; rintro e w' ⟨rfl, rfl⟩) | (go_at_call 16; refine (range_any s hs _).mono ?_; rintro e w' ⟨rfl, rfl⟩) | (go_at_call 17; refine (refrange_any s hs _).mono ?_; rintro e w' ⟨rfl, rfl⟩))
    go_ret
    exact ⟨rfl, Grown.refl _⟩
theorem mixRange_walk (s : ByteArray) (hs : s.size ≤ maxLen) (w : World) :
    Calls Try.prog 7 #[.string s] w fun e w' => e = .returned (.bool true) ∧ Grown w w' := by
  have hs' := hs
  unfold maxLen at hs'
  obtain ⟨h0, h1⟩ := range_facts (textI s.data.toList s.size) (wf_textI _ _)
  by_cases hc : (5000 : Int) < s.size
  · go_enter Try.func7, Try.ntmps7
    go_wp2_with (go_at_call 9; refine (fixed_any _).mono ?_; rintro e w' ⟨rfl, rfl⟩)
    go_ret
    exact ⟨rfl, Grown.refl _⟩
  · go_enter Try.func7, Try.ntmps7
    go_wp2_with (first | (go_at_call 9; refine (fixed_any _).mono ?_; rintro e w' ⟨rfl, rfl⟩) | (go_at_call 14; refine (text_any s hs _).mono ?_; rintro e w' ⟨rfl, rfl⟩) | (go_at_call 16; refine (range_any s hs _).mono ?_; rintro e w' ⟨rfl, rfl⟩))
    go_ret
    exact ⟨rfl, Grown.refl _⟩
end Go.Proofs.Ytkclhbjoiekfdaa
