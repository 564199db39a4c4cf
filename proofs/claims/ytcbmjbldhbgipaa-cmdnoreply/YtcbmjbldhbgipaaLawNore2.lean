/- The walk of the statement CmdNoreply, of any arguments: true, and nothing that was there is turned. No condition. -/
import Derived.Test.YtcbmjbldhbgipaaLawNore
namespace Go.Proofs.Ytcbmjbldhbgipaa
open Go.ChangeShapes Go.WideShapes Go.ChangeAt Go.RowKit
set_option linter.unusedVariables false
set_option linter.unusedSimpArgs false

theorem nore_law (key : ByteArray) (kd n : Int) (w : World) (hk0 : key.size ≤ maxLen) (wkd : (Lit.int .u8 kd).wf = true) (wn : (Lit.int .u16 n).wf = true) :
    Calls Try.prog 7 #[.string key, .int .u8 kd, .int .u16 n] w fun e w' => e = .returned (.bool true) ∧ Kept w w' := by
  have hkd := bounds_u8 wkd
  have hn := bounds_u16 wn
  cases hk : keyMay key with
  | false =>
    have HM : Hid (∀ w, _) := fun w => refKeyMay_any key hk0 w
    rw [hk] at HM
    clear hk hk0 wkd wn
    go_enter Try.func7, Try.ntmps7
    go_wp2_with fail
    refine (HM.out _).mono ?_
    rintro e u1 ⟨rfl, hu⟩
    rw [hu]; clear hu u1
    go_wp2_with fail
    refine (fixed_any _).mono ?_
    rintro e w3 ⟨rfl, hk3⟩
    go_wp2_with fail
    go_ret
    exact ⟨rfl, hk3⟩
  | true =>
    obtain ⟨m, hm⟩ : ∃ m, Int.tmod n 1025 = m := ⟨_, rfl⟩
    have hm' : n % 1025 = m := by rw [← hm, Int.tmod_eq_emod_of_nonneg (by omega)]
    have hm2 : 0 ≤ m ∧ m < 1025 := by omega
    have h1 := digits_int n (by omega)
    have h2 := digits_int m (by omega)
    have hD : Wd (ba (digsI n)) ∧ Wd (ba (digsI m)) ∧ (ba (digsI n)).size ≤ 20 ∧ (ba (digsI m)).size ≤ 20 := ⟨wd_digsI n, wd_digsI m, digsI_size n (by omega), digsI_size m (by omega)⟩
    have hr : Int.tmod kd 3 = kd % 3 := Int.tmod_eq_emod_of_nonneg (by omega)
    rcases (show kd % 3 = 0 ∨ kd % 3 = 1 ∨ kd % 3 = 2 by omega) with h | h | h
    · exact nore_0 key _ _ kd n m hk (by omega) (by rw [hr]; exact h) (by omega) hm hm2 h1 h2 hD (parse_del1 key hk false) (parse_del1 key hk true) w
    · exact nore_1 key _ _ kd n m hk (by omega) (by rw [hr]; exact h) (by omega) hm hm2 h1 h2 hD (parse_tou2 key hk n (by omega) false) (parse_tou2 key hk n (by omega) true) w
    · have h0 : ∀ q, _ := fun q => parse_set4 key hk 0 m.toNat 0 (by omega) (by omega) (by omega) q
      have e0 : ba (digs 0) = ⟨#[48]⟩ := by rw [digs_low 0 (by omega)]; rfl
      have e1 : ba (digsI 0) = ⟨#[48]⟩ := e0
      rw [e0, e1, ← digsI_nat m.toNat, show ((m.toNat : Nat) : Int) = m by omega] at h0
      have hf := h0 false
      have ht := h0 true
      rw [if_neg (show ¬ 1024 < m.toNat by omega)] at hf ht
      exact nore_2 key _ _ kd n m hk (by omega) (by rw [hr]; exact h) (by omega) hm hm2 h1 h2 hD hf ht w
end Go.Proofs.Ytcbmjbldhbgipaa
