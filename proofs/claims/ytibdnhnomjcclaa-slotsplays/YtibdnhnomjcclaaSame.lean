/- The contract of the reference's Same, of two rows with the same texts: it answers true and turns nothing. -/
import Derived.Test.YtibdnhnomjcclaaKeys
namespace Go.Proofs.Ytibdnhnomjcclaa
open Go.ChangeShapes Go.WideShapes Go.ChangeAt Go.RowKit
set_option linter.unusedVariables false
set_option linter.unusedSimpArgs false

set_option maxHeartbeats 1600000 in
theorem same_any (K : List ByteArray) (n : Nat) (hn : K.length = n) (hK : n ≤ 4096) (A B : Nat) (va vb : Value) (w : World) (ha : w.ownsRow A 9 1 va n (K.map Value.string)) (hb : w.ownsRow B 9 1 vb n (K.map Value.string)) :
    Calls Try.prog 21 #[va, vb] w fun e w' => e = .returned (.bool true) ∧ Kept w w' := by
  obtain ⟨a, c, rfl, h1⟩ := own_slice ha
  obtain ⟨b, d, rfl, h2⟩ := own_slice hb
  have H1 := hid h1
  have H2 := hid h2
  have HA := hid ha
  have HB := hid hb
  have HX : Hid (∀ i (h : i < K.length), (K.map Value.string)[i]? = some (.string K[i])) := hid (fun i h => by simp [h])
  have HN := hid hn
  clear h1 h2 ha hb hn
  go_enter Try.func21, Try.ntmps21
  go_wp2_with fail
  go_loopw [13] (fun j wr => ∃ k : Nat, k ≤ n ∧ j = .int .i64 k ∧ Hid (Kept w wr)) (fun j _ => n - (intOf j).toNat)
  case atStart => exact ⟨0, Nat.zero_le _, rfl, hid (kept_refl w)⟩
  case round =>
    obtain ⟨k, hk, rfl, HK⟩ := hrel
    by_cases hlt : k < n
    · obtain ⟨g1, rfl, h3⟩ := H1.out (by omega)
      obtain ⟨g2, rfl, h4⟩ := H2.out (by omega)
      have hkl : k < K.length := by rw [HN.out]; exact hlt
      have e1 := h3 k _ (HX.out k hkl)
      have e2 := h4 k _ (HX.out k hkl)
      have c1 := (kept_cell HK.out (cell_lt e1)).trans e1
      have c2 := (kept_cell HK.out (cell_lt e2)).trans e2
      have hne : (!K[k].toList == K[k].toList) = false := by simp
      clear h3 h4 e1 e2
      generalize K[k] = x at *
      go_wp2_with fail
      go_quiet (fail)
      go_wp2_with fail
      go_roundw
      case rel => exact ⟨k + 1, by omega, by go_num, hid (kept_drewN HK.out _)⟩
      case measure => simp [intOf]; omega
    · have he : k = n := by omega
      subst he
      go_wp2_with fail
      go_ret
      exact ⟨rfl, HK.out⟩
end Go.Proofs.Ytibdnhnomjcclaa
