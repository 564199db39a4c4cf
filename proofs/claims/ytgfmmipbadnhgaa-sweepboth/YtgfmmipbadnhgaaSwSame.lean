/- The contracts of the references' Same: of rows of what is seen, of records, of keys. The rows have at most 4096 members. -/
import Derived.Test.YtgfmmipbadnhgaaSwCovered
namespace Go.Proofs.Ytgfmmipbadnhgaa
open Go.ChangeShapes Go.WideShapes Go.ChangeAt Go.RowKit
set_option linter.unusedVariables false
set_option linter.unusedSimpArgs false
set_option maxRecDepth 100000

set_option maxHeartbeats 1600000 in
theorem sameS_any (l : List Sn) (hn : l.length ≤ 4096) (va vb : Value) (w : World) (ha : Rg encS 5 w va l) (hb : Rg encS 5 w vb l) : Calls Try.prog 10 #[va, vb] w fun e w' => e = .returned (.bool true) ∧ Kept w w' := by
  have HRa := hid ha
  have HRb := hid hb
  obtain ⟨a, ca, rfl, -, -, -, -⟩ := ha
  obtain ⟨b, cb, rfl, -, -, -, -⟩ := hb
  have HG : Hid (∀ k, k < l.length → ∃ y, l[k]? = some y) := hid (fun k hk => ⟨l[k], List.getElem?_eq_getElem hk⟩)
  have HPa : Hid (0 < l.length → ∃ g o, a = some ⟨g, o, none⟩) := hid (fun hp => by
    obtain ⟨g, o, c, e⟩ := rg_pos HRa.out hp
    injection e with e1
    exact ⟨g, o, e1⟩)
  have HPb : Hid (0 < l.length → ∃ g o, b = some ⟨g, o, none⟩) := hid (fun hp => by
    obtain ⟨g, o, c, e⟩ := rg_pos HRb.out hp
    injection e with e1
    exact ⟨g, o, e1⟩)
  generalize hm : l.length = m at *
  clear hm
  go_enter Try.func10, Try.ntmps10
  go_wp2_with fail
  go_loopw [13] (fun j wr => ∃ k : Nat, k ≤ m ∧ j = .int .i64 k ∧ Hid (Kept w wr)) (fun j _ => m - (intOf j).toNat)
  case atStart => exact ⟨0, Nat.zero_le _, rfl, hid (kept_refl w)⟩
  case round =>
    obtain ⟨k, hk, rfl, HK⟩ := hrel
    by_cases hlt : k < m
    · obtain ⟨x, hx⟩ := HG.out k hlt
      obtain ⟨g1, o1, rfl⟩ := HPa.out (by omega)
      obtain ⟨g2, o2, rfl⟩ := HPb.out (by omega)
      have e1 := rg_S (rg_kept encS_ok HRa.out HK.out) hx
      have e2 := rg_S (rg_kept encS_ok HRb.out HK.out) hx
      obtain ⟨a0, a1, a2, a3, a4⟩ := e1
      obtain ⟨b0, b1, b2, b3, b4⟩ := e2
      have heq := eq_self_S x
      clear hx
      go_wp2_with fail
      go_quiet (fail)
      go_wp2_with fail
      go_roundw
      case rel => exact ⟨k + 1, by omega, by go_num, hid (kept_drewN HK.out _)⟩
      case measure => simp [intOf]; omega
    · have he : k = m := by omega
      subst he
      go_wp2_with fail
      go_ret
      exact ⟨rfl, HK.out⟩
set_option maxHeartbeats 1600000 in
theorem sameR_any (l : List R) (hn : l.length ≤ 4096) (va vb : Value) (w : World) (ha : Rg encR 8 w va l) (hb : Rg encR 8 w vb l) : Calls Try.prog 13 #[va, vb] w fun e w' => e = .returned (.bool true) ∧ Kept w w' := by
  have HRa := hid ha
  have HRb := hid hb
  obtain ⟨a, ca, rfl, -, -, -, -⟩ := ha
  obtain ⟨b, cb, rfl, -, -, -, -⟩ := hb
  have HG : Hid (∀ k, k < l.length → ∃ y, l[k]? = some y) := hid (fun k hk => ⟨l[k], List.getElem?_eq_getElem hk⟩)
  have HPa : Hid (0 < l.length → ∃ g o, a = some ⟨g, o, none⟩) := hid (fun hp => by
    obtain ⟨g, o, c, e⟩ := rg_pos HRa.out hp
    injection e with e1
    exact ⟨g, o, e1⟩)
  have HPb : Hid (0 < l.length → ∃ g o, b = some ⟨g, o, none⟩) := hid (fun hp => by
    obtain ⟨g, o, c, e⟩ := rg_pos HRb.out hp
    injection e with e1
    exact ⟨g, o, e1⟩)
  generalize hm : l.length = m at *
  clear hm
  go_enter Try.func13, Try.ntmps13
  go_wp2_with fail
  go_loopw [13] (fun j wr => ∃ k : Nat, k ≤ m ∧ j = .int .i64 k ∧ Hid (Kept w wr)) (fun j _ => m - (intOf j).toNat)
  case atStart => exact ⟨0, Nat.zero_le _, rfl, hid (kept_refl w)⟩
  case round =>
    obtain ⟨k, hk, rfl, HK⟩ := hrel
    by_cases hlt : k < m
    · obtain ⟨x, hx⟩ := HG.out k hlt
      obtain ⟨g1, o1, rfl⟩ := HPa.out (by omega)
      obtain ⟨g2, o2, rfl⟩ := HPb.out (by omega)
      have e1 := rg_R (rg_kept encR_ok HRa.out HK.out) hx
      have e2 := rg_R (rg_kept encR_ok HRb.out HK.out) hx
      obtain ⟨a0, a1, a2, a3, a4, a5, a6, a7⟩ := e1
      obtain ⟨b0, b1, b2, b3, b4, b5, b6, b7⟩ := e2
      have heq := eq_self_R x
      clear hx
      go_wp2_with fail
      go_quiet (fail)
      go_wp2_with fail
      go_roundw
      case rel => exact ⟨k + 1, by omega, by go_num, hid (kept_drewN HK.out _)⟩
      case measure => simp [intOf]; omega
    · have he : k = m := by omega
      subst he
      go_wp2_with fail
      go_ret
      exact ⟨rfl, HK.out⟩
set_option maxHeartbeats 1600000 in
theorem sameK_any (l : List ByteArray) (hn : l.length ≤ 4096) (va vb : Value) (w : World) (ha : Rg encK 1 w va l) (hb : Rg encK 1 w vb l) : Calls Try.prog 16 #[va, vb] w fun e w' => e = .returned (.bool true) ∧ Kept w w' := by
  have HRa := hid ha
  have HRb := hid hb
  obtain ⟨a, ca, rfl, -, -, -, -⟩ := ha
  obtain ⟨b, cb, rfl, -, -, -, -⟩ := hb
  have HG : Hid (∀ k, k < l.length → ∃ y, l[k]? = some y) := hid (fun k hk => ⟨l[k], List.getElem?_eq_getElem hk⟩)
  have HPa : Hid (0 < l.length → ∃ g o, a = some ⟨g, o, none⟩) := hid (fun hp => by
    obtain ⟨g, o, c, e⟩ := rg_pos HRa.out hp
    injection e with e1
    exact ⟨g, o, e1⟩)
  have HPb : Hid (0 < l.length → ∃ g o, b = some ⟨g, o, none⟩) := hid (fun hp => by
    obtain ⟨g, o, c, e⟩ := rg_pos HRb.out hp
    injection e with e1
    exact ⟨g, o, e1⟩)
  generalize hm : l.length = m at *
  clear hm
  go_enter Try.func16, Try.ntmps16
  go_wp2_with fail
  go_loopw [13] (fun j wr => ∃ k : Nat, k ≤ m ∧ j = .int .i64 k ∧ Hid (Kept w wr)) (fun j _ => m - (intOf j).toNat)
  case atStart => exact ⟨0, Nat.zero_le _, rfl, hid (kept_refl w)⟩
  case round =>
    obtain ⟨k, hk, rfl, HK⟩ := hrel
    by_cases hlt : k < m
    · obtain ⟨x, hx⟩ := HG.out k hlt
      obtain ⟨g1, o1, rfl⟩ := HPa.out (by omega)
      obtain ⟨g2, o2, rfl⟩ := HPb.out (by omega)
      have e1 := rg_K (rg_kept encK_ok HRa.out HK.out) hx
      have e2 := rg_K (rg_kept encK_ok HRb.out HK.out) hx
      have hne : (x.toList != x.toList) = false := by simp
      clear hx
      go_wp2_with fail
      go_quiet (fail)
      go_wp2_with fail
      go_roundw
      case rel => exact ⟨k + 1, by omega, by go_num, hid (kept_drewN HK.out _)⟩
      case measure => simp [intOf]; omega
    · have he : k = m := by omega
      subst he
      go_wp2_with fail
      go_ret
      exact ⟨rfl, HK.out⟩
end Go.Proofs.Ytgfmmipbadnhgaa
