/- Contracts of the program's and the reference's functions on texts: a text's number and its range, as plain functions of the bytes. The text has at most as many bytes as a text may have. -/
import Derived.Test.YthgbdaladngpdaaGreatMixWalks
import Derived.WalkKit
import Derived.ProofKit
import Derived.OpenShut
namespace Go.Proofs.YthgbdaladngpdaaGreat
open Go.ChangeShapes Go.WideShapes Go.ChangeAt Go.RowKit
set_option linter.unusedVariables false
set_option maxRecDepth 100000

def foldT (l : List UInt8) : Int := l.foldl (fun h c => mixI (bits .xor .u64 h (IntKind.u64.wrap (c.toNat : Int)))) 11400714819323198485
def textI (l : List UInt8) (n : Int) : Int := mixI (bits .xor .u64 (foldT l) n)
theorem foldT_snoc (l : List UInt8) (c : UInt8) : foldT (l ++ [c]) = mixI (bits .xor .u64 (foldT l) (IntKind.u64.wrap (c.toNat : Int))) := by
  unfold foldT; rw [List.foldl_append]; rfl
theorem one_more {k : Nat} {s : ByteArray} (h : k < s.size) : s.data.toList.take k ++ [s[k]] = s.data.toList.take (k + 1) :=
  (List.take_succ_eq_append_getElem (l := s.data.toList) (by simpa using h)).symm
theorem text_any (s : ByteArray) (hs : s.size ≤ maxLen) (w : World) :
    Calls Tryz.prog 90 #[.string s] w fun e w' => e = .returned (.int .u64 (textI s.data.toList s.size)) ∧ w' = w := by
  unfold maxLen at hs
  go_enter Tryz.func90, Tryz.ntmps90
  go_wp2
  go_loop [3, 4, 7] (fun h i j => ∃ k : Nat, k ≤ s.size ∧ j = .int .i64 k ∧ h = .int .u64 (foldT (s.data.toList.take k))) (fun _ _ j => s.size - (intOf j).toNat)
  case atStart => exact ⟨0, Nat.zero_le _, rfl, rfl⟩
  case round =>
    obtain ⟨k, hk, rfl, rfl⟩ := hrel
    by_cases hlt : k < s.size
    · have HS : Hid (foldT (s.data.toList.take (k + 1)) = mixI (bits .xor .u64 (foldT (s.data.toList.take k)) (IntKind.u64.wrap (s[k].toNat : Int)))) := by
        show _ = _
        rw [← one_more hlt, foldT_snoc]
      generalize hh : foldT (s.data.toList.take k) = h at *
      clear hh
      go_wp2_with (go_at_call 110; refine (mix_any _ _).mono ?_; rintro e w' ⟨rfl, rfl⟩)
      go_round
      case rel => exact ⟨k + 1, by omega, by go_num, by rw [HS.out]⟩
      case measure => simp [intOf]; omega
    · have hkk : k = s.size := by omega
      subst hkk
      rw [List.take_of_length_le (by simp)]
      go_wp2_with (go_at_call 110; refine (mix_any _ _).mono ?_; rintro e w' ⟨rfl, rfl⟩)
      go_ret
      refine ⟨mret_int ?_, rfl⟩
      rfl
theorem reftext_any (s : ByteArray) (hs : s.size ≤ maxLen) (w : World) :
    Calls Tryz.prog 35 #[.string s] w fun e w' => e = .returned (.int .u64 (textI s.data.toList s.size)) ∧ w' = w := by
  unfold maxLen at hs
  go_enter Tryz.func35, Tryz.ntmps35
  go_wp2
  go_loop [3, 4] (fun h j => ∃ k : Nat, k ≤ s.size ∧ j = .int .i64 k ∧ h = .int .u64 (foldT (s.data.toList.take k))) (fun _ j => s.size - (intOf j).toNat)
  case atStart => exact ⟨0, Nat.zero_le _, rfl, rfl⟩
  case round =>
    obtain ⟨k, hk, rfl, rfl⟩ := hrel
    by_cases hlt : k < s.size
    · have HS : Hid (foldT (s.data.toList.take (k + 1)) = mixI (bits .xor .u64 (foldT (s.data.toList.take k)) (IntKind.u64.wrap (s[k].toNat : Int)))) := by
        show _ = _
        rw [← one_more hlt, foldT_snoc]
      generalize hh : foldT (s.data.toList.take k) = h at *
      clear hh
      go_wp2_with (go_at_call 64; refine (refmix_any _ (wf_bits _ _ _ _) _).mono ?_; rintro e w' ⟨rfl, rfl⟩)
      go_round
      case rel => exact ⟨k + 1, by omega, by go_num, by rw [HS.out]⟩
      case measure => simp [intOf]; omega
    · have hkk : k = s.size := by omega
      subst hkk
      rw [List.take_of_length_le (by simp)]
      go_wp2_with (go_at_call 64; refine (refmix_any _ (wf_bits _ _ _ _) _).mono ?_; rintro e w' ⟨rfl, rfl⟩)
      go_ret
      refine ⟨mret_int ?_, rfl⟩
      rfl
theorem wf_textI (l : List UInt8) (n : Int) : (Lit.int .u64 (textI l n)).wf = true := wf_mixI _


end Go.Proofs.YthgbdaladngpdaaGreat
