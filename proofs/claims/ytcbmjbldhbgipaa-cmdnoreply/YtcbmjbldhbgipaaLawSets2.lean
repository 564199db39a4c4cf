/- The walk of the statement CmdSets, of any parts: true, and nothing that was there is turned. No condition. -/
import Derived.Test.YtcbmjbldhbgipaaLawSets
namespace Go.Proofs.Ytcbmjbldhbgipaa
open Go.ChangeShapes Go.WideShapes Go.ChangeAt Go.RowKit
set_option linter.unusedVariables false
set_option linter.unusedSimpArgs false

theorem digsI_size (z : Int) (h : -10000000000 < z ∧ z < 10000000000) : (ba (digsI z)).size ≤ 20 := by
  rw [ba_size]
  unfold digsI
  split
  · have := digs_len 10 (-z).toNat (by omega) (by omega)
    simp
    omega
  · have := digs_len 10 z.toNat (by omega) (by omega)
    omega
theorem sets_law (key : ByteArray) (f t b : Int) (q : Bool) (w : World) (hk0 : key.size ≤ maxLen) (wf : (Lit.int .u32 f).wf = true) (wt : (Lit.int .i32 t).wf = true) (wb : (Lit.int .u32 b).wf = true) :
    Calls Try.prog 6 #[.string key, .int .u32 f, .int .i32 t, .int .u32 b, .bool q] w fun e w' => e = .returned (.bool true) ∧ Kept w w' := by
  have hf := bounds_u32 wf
  have ht := bounds_i32 wt
  have hb := bounds_u32 wb
  cases hk : keyMay key with
  | false =>
    have HM : Hid (∀ w, _) := fun w => refKeyMay_any key hk0 w
    rw [hk] at HM
    clear hk hk0 wf wt wb
    go_enter Try.func6, Try.ntmps6
    go_wp2_with fail
    refine (HM.out _).mono ?_
    rintro e u1 ⟨rfl, hu⟩
    rw [hu]; clear hu u1
    go_wp2_with fail
    refine (fixed_any _).mono ?_
    rintro e w3 ⟨rfl, hk3⟩
    go_wp2_with fail
    go_ret
    exact ⟨rfl, hk3⟩
  | true =>
    have h1 := digits_int f (by omega)
    have h2 := digits_int t (by omega)
    have h3 := digits_int b (by omega)
    have hD : Wd (ba (digsI f)) ∧ Wd (ba (digsI t)) ∧ Wd (ba (digsI b)) ∧ (ba (digsI f)).size ≤ 20 ∧ (ba (digsI t)).size ≤ 20 ∧ (ba (digsI b)).size ≤ 20 :=
      ⟨wd_digsI f, wd_digsI t, wd_digsI b, digsI_size f (by omega), digsI_size t (by omega), digsI_size b (by omega)⟩
    have hp := parse_set4 key hk f.toNat b.toNat t (by omega) (by omega) (by omega) q
    rw [← digsI_nat f.toNat, ← digsI_nat b.toNat, show ((f.toNat : Nat) : Int) = f by omega, show ((b.toNat : Nat) : Int) = b by omega] at hp
    by_cases hbig : 1024 < b
    · rw [if_pos (show 1024 < b.toNat by omega)] at hp
      cases q with
      | false => exact sets_n_big key _ _ _ f t b hk (by omega) (by omega) (by omega) hbig h1 h2 h3 hD hp w
      | true => exact sets_q_big key _ _ _ f t b hk (by omega) (by omega) (by omega) hbig h1 h2 h3 hD hp w
    · rw [if_neg (show ¬ 1024 < b.toNat by omega)] at hp
      cases q with
      | false => exact sets_n_ok key _ _ _ f t b hk (by omega) (by omega) (by omega) hbig h1 h2 h3 hD hp w
      | true => exact sets_q_ok key _ _ _ f t b hk (by omega) (by omega) (by omega) hbig h1 h2 h3 hD hp w
end Go.Proofs.Ytcbmjbldhbgipaa
