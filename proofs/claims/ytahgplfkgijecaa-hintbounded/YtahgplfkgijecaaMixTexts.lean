/- Contracts of the program's and the reference's functions on texts: a text's number and its range, as plain functions of the bytes. The text has at most as many bytes as a text may have. -/
import Derived.Test.YtahgplfkgijecaaMixWalks
import Derived.WalkKit
import Derived.ProofKit
import Derived.OpenShut
namespace Go.Proofs.Ytahgplfkgijecaa
open Go.ChangeShapes Go.WideShapes Go.ChangeAt Go.RowKit
set_option linter.unusedVariables false

def foldT (l : List UInt8) : Int := l.foldl (fun h c => mixI (bits .xor .u64 h (IntKind.u64.wrap (c.toNat : Int)))) 11400714819323198485
def textI (l : List UInt8) (n : Int) : Int := mixI (bits .xor .u64 (foldT l) n)
theorem foldT_snoc (l : List UInt8) (c : UInt8) : foldT (l ++ [c]) = mixI (bits .xor .u64 (foldT l) (IntKind.u64.wrap (c.toNat : Int))) := by
  unfold foldT; rw [List.foldl_append]; rfl
theorem take_snoc (s : ByteArray) (k : Nat) (h : k < s.size) : s.data.toList.take (k + 1) = s.data.toList.take k ++ [s[k]] := by
  rw [List.take_succ_eq_append_getElem (by simpa using h)]; rfl
theorem text_any (s : ByteArray) (hs : s.size ≤ maxLen) (w : World) :
    Calls Try.prog 61 #[.string s] w fun e w' => e = .returned (.int .u64 (textI s.data.toList s.size)) ∧ w' = w := by
  unfold maxLen at hs
  go_enter Try.func61, Try.ntmps61
  go_wp2
  go_loop [3, 4, 7] (fun h i j => ∃ k : Nat, k ≤ s.size ∧ j = .int .i64 k ∧ h = .int .u64 (foldT (s.data.toList.take k))) (fun _ _ j => s.size - (intOf j).toNat)
  case atStart => exact ⟨0, Nat.zero_le _, rfl, rfl⟩
  case round =>
    obtain ⟨k, hk, rfl, rfl⟩ := hrel
    by_cases hlt : k < s.size
    · have HS : Hid (foldT (s.data.toList.take (k + 1)) = mixI (bits .xor .u64 (foldT (s.data.toList.take k)) (IntKind.u64.wrap (s[k].toNat : Int)))) := by
        show _ = _
        rw [take_snoc s k hlt, foldT_snoc]
      generalize hh : foldT (s.data.toList.take k) = h at *
      clear hh
      go_wp2_with (go_at_call 72; refine (mix_any _ _).mono ?_; rintro e w' ⟨rfl, rfl⟩)
      go_round
      case rel => exact ⟨k + 1, by omega, by go_num, by rw [HS.out]⟩
      case measure => simp [intOf]; omega
    · have hkk : k = s.size := by omega
      subst hkk
      rw [List.take_of_length_le (by simp)]
      go_wp2_with (go_at_call 72; refine (mix_any _ _).mono ?_; rintro e w' ⟨rfl, rfl⟩)
      go_ret
      refine ⟨ret_int ?_, rfl⟩
      rfl
theorem reftext_any (s : ByteArray) (hs : s.size ≤ maxLen) (w : World) :
    Calls Try.prog 74 #[.string s] w fun e w' => e = .returned (.int .u64 (textI s.data.toList s.size)) ∧ w' = w := by
  unfold maxLen at hs
  go_enter Try.func74, Try.ntmps74
  go_wp2
  go_loop [3, 4] (fun h j => ∃ k : Nat, k ≤ s.size ∧ j = .int .i64 k ∧ h = .int .u64 (foldT (s.data.toList.take k))) (fun _ j => s.size - (intOf j).toNat)
  case atStart => exact ⟨0, Nat.zero_le _, rfl, rfl⟩
  case round =>
    obtain ⟨k, hk, rfl, rfl⟩ := hrel
    by_cases hlt : k < s.size
    · have HS : Hid (foldT (s.data.toList.take (k + 1)) = mixI (bits .xor .u64 (foldT (s.data.toList.take k)) (IntKind.u64.wrap (s[k].toNat : Int)))) := by
        show _ = _
        rw [take_snoc s k hlt, foldT_snoc]
      generalize hh : foldT (s.data.toList.take k) = h at *
      clear hh
      go_wp2_with (go_at_call 78; refine (refmix_any _ (wf_bits _ _ _ _) _).mono ?_; rintro e w' ⟨rfl, rfl⟩)
      go_round
      case rel => exact ⟨k + 1, by omega, by go_num, by rw [HS.out]⟩
      case measure => simp [intOf]; omega
    · have hkk : k = s.size := by omega
      subst hkk
      rw [List.take_of_length_le (by simp)]
      go_wp2_with (go_at_call 78; refine (refmix_any _ (wf_bits _ _ _ _) _).mono ?_; rintro e w' ⟨rfl, rfl⟩)
      go_ret
      refine ⟨ret_int ?_, rfl⟩
      rfl
theorem wf_textI (l : List UInt8) (n : Int) : (Lit.int .u64 (textI l n)).wf = true := wf_mixI _
theorem shr58 (t : Int) (h : (Lit.int .u64 t).wf = true) : wrap64 (t / 288230376151711744) = t / 288230376151711744 := by
  have := bounds_u64 h
  unfold wrap64; omega
theorem quo58 (t : Int) (h : (Lit.int .u64 t).wf = true) : wrap64 (IntKind.u64.wrap (t.tdiv 288230376151711744)) = t / 288230376151711744 := by
  have := bounds_u64 h
  rw [Int.tdiv_eq_ediv_of_nonneg this.1, IntKind.wrap_u64]
  unfold wrap64; omega


theorem range_facts (t : Int) (h : (Lit.int .u64 t).wf = true) : 0 ≤ t / 288230376151711744 ∧ t / 288230376151711744 < 64 := by
  have := bounds_u64 h
  omega


end Go.Proofs.Ytahgplfkgijecaa
