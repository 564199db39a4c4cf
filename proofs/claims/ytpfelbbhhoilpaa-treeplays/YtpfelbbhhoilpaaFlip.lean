/- The contract of Flip. -/
import Derived.Test.YtpfelbbhhoilpaaSmall
namespace Go.Proofs.Ytpfelbbhhoilpaa
open Go.ChangeShapes Go.WideShapes Go.ChangeAt Go.RowKit
set_option linter.unusedVariables false
set_option linter.unusedSimpArgs false
set_option maxRecDepth 100000

theorem flip_nil (i x : Int) (w : World) : Calls Try.prog 11 #[.pointer none, .int .i64 i, .int .u64 x] w fun e w' => e = .returned (.int .i64 1) ∧ w' = w := by
  go_enter Try.func11, Try.ntmps11
  go_wp2_with fail
  go_ret
  exact ⟨rfl, rfl⟩
theorem flip_bad {X : Nat} (i x : Int) (h : ¬ okI i) (w : World) : Calls Try.prog 11 #[.pointer (some ⟨X, 0, none⟩), .int .i64 i, .int .u64 x] w fun e w' => e = .returned (.int .i64 1) ∧ w' = w := by
  by_cases g : i < 0
  · have e1 : decide (i < 0) = true := by simpa using g
    clear h g
    go_enter Try.func11, Try.ntmps11
    go_wp2_with fail
    go_ret
    exact ⟨rfl, rfl⟩
  · have e1 : decide (i < 0) = false := by simpa using g
    have e2 : decide ((64 : Int) ≤ i) = true := by unfold okI at h; simp; omega
    clear h g
    go_enter Try.func11, Try.ntmps11
    go_wp2_with fail
    go_ret
    exact ⟨rfl, rfl⟩
/- The nodes while they are reckoned anew: those that stand above the leaf, up to the one that was reckoned last, aren't yet. -/
def Mid (L : Nat → Int) (i : Nat) (x : Int) (a : Nat) (N : Nat → Int) : Prop := ∀ k, k < 128 → a / 2 < k ∨ ¬ under i k → N k = nod (flipL L i x) k
theorem mid_first {L : Nat → Int} {i : Nat} {x : Int} (hi : i < 64) : Mid L i x (64 + i) (upd (nod L) (64 + i) (xo (nod L (64 + i)) x)) := by
  intro k hk h
  by_cases e : k = 64 + i
  · subst e
    rw [upd_at, nod_at, nod_at]
    unfold flipL
    rw [upd_at]
  · rw [upd_ne _ _ e]
    refine nod_same (fun j hj hu => ?_) hk
    unfold flipL
    by_cases ej : j = i
    · exfalso
      subst ej
      rcases h with h | h
      · obtain ⟨m, hm⟩ := hu
        cases m with
        | zero => simp at hm; omega
        | succ m =>
          have : (64 + j) / 2 ^ (m + 1) ≤ (64 + j) / 2 ^ 1 := Nat.div_le_div_left (Nat.pow_le_pow_right (by omega) (by omega)) (by omega)
          omega
      · exact h hu
    · rw [upd_ne _ _ ej]
theorem mid_next {L : Nat → Int} {i : Nat} {x : Int} {m : Nat} {N : Nat → Int} (hi : i < 64) (h : Mid L i x ((64 + i) / 2 ^ m) N) {a : Nat} (ha : (64 + i) / 2 ^ m / 2 = a) (h1 : 1 ≤ a) : Mid L i x a (upd N a (twoI (N (2 * a)) (N (2 * a + 1)))) := by
  have hlt : (64 + i) / 2 ^ m ≤ 64 + i := Nat.div_le_self _ _
  intro k hk hh
  by_cases e : k = a
  · rw [e, upd_at, nod_up _ h1 (by omega), h (2 * a) (by omega) (.inl (by omega)), h (2 * a + 1) (by omega) (.inl (by omega))]
  · rw [upd_ne _ _ e]
    refine h k hk ?_
    by_cases hu : under i k
    · rcases hh with hh | hh
      · by_cases g : a < k
        · exact .inl (by omega)
        · exfalso
          refine under_gap (m := m + 1) hu ?_ ?_
          · rw [Nat.pow_succ, ← Nat.div_div_eq_div_mul, ha]; exact hh
          · rw [Nat.pow_succ, ← Nat.div_div_eq_div_mul, ha]; omega
      · exact .inr hh
    · exact .inr hu
theorem mid_last {L : Nat → Int} {i : Nat} {x : Int} {N : Nat → Int} (h : Mid L i x 1 N) (h0 : N 0 = 0) : ∀ k, k < 128 → N k = nod (flipL L i x) k := by
  intro k hk
  rcases Nat.eq_zero_or_pos k with e | e
  · rw [e, h0, nod_zero]
  · exact h k hk (.inl (by omega))
theorem half_big {i m : Nat} (h : 1 < (64 + i) / 2 ^ m) : (64 + i) / 2 ^ (m + 1) = (64 + i) / 2 ^ m / 2 ∧ 1 ≤ (64 + i) / 2 ^ m / 2 := by
  rw [Nat.pow_succ, ← Nat.div_div_eq_div_mul]
  exact ⟨rfl, by omega⟩
def FlipC (X : Nat) (L : Nat → Int) (w : World) (e : Ending) (w' : World) : Prop := e = .returned (.int .i64 0) ∧ Turn X w w' ∧ Tr w' X L
set_option maxHeartbeats 1600000 in
theorem flip_ok {X : Nat} {L : Nat → Int} (i : Nat) (x : Int) (hi : i < 64) (w : World) (h : Tr w X L) :
    Calls Try.prog 11 #[.pointer (some ⟨X, 0, none⟩), .int .i64 (i : Int), .int .u64 x] w (FlipC X (flipL L i x) w) := by
  obtain ⟨a, ha⟩ : ∃ a, 64 + i = a := ⟨_, rfl⟩
  have e1 : decide ((i : Int) < 0) = false := by simp
  have e2 : decide ((64 : Int) ≤ (i : Int)) = false := by simp; omega
  have hwa : IntKind.i64.wrap (64 + (i : Int)) = (a : Int) := by rw [IntWalk.i64_in _ (by omega)]; omega
  have hai : 64 + (i : Int) = (a : Int) := by omega
  have b1 : (a : Int) < 128 := by omega
  have d1 : ¬ (128 : Int) ≤ (a : Int) := by omega
  have HMid := hid (mid_first (L := L) (x := x) hi)
  rw [ha] at HMid
  have HA := hid ha
  have ha128 : a < 128 := by omega
  have HN := hid h.1
  have HZ : Hid (upd (nod L) a (xo (nod L a) x) 0 = 0) := hid (by rw [upd_ne _ _ (by omega), nod_zero])
  have HEnd : Hid (∀ w' N, Turn X w w' → Nd w' X N → Mid L i x 1 N → N 0 = 0 → FlipC X (flipL L i x) w (.returned (.int .i64 0)) w') := hid (fun w' N t hN hm h0 => ⟨rfl, t, nd_ext hN (mid_last hm h0), flip_wf h.2 i x⟩)
  have HI := hid hi
  clear ha h hi
  go_enter Try.func11, Try.ntmps11
  go_wp2_with fail
  clear hai hwa e1 e2
  replace HN := hid (at_drew HN.out)
  have c0 : w.drew.cell? ⟨X, a, none⟩ = some (.int .u64 (nod L a)) := nd_cell HN.out ha128
  have cf : ∀ j, w.drew.frozen? ⟨X, j, none⟩ = false := nd_free HN.out
  have HN3 := hid (nd_set HN.out ha128 (xo (nod L a) x))
  have HT3 := hid (turn_set (turn_drew (Turn.refl X w)) a (.int .u64 (xo (nod L a) x)))
  have hxo : bits .xor .u64 (nod L a) x = xo (nod L a) x := rfl
  refine wp_region_noPanic ?_
  refine wp_region_held_drew (S := (fun _ => True)) (by kernel_rfl) (trivial) (fun hHeld => ?_)
  generalize w.drew = w2 at *
  refine wpAnyH_take (i := 0) (v := .pointer (some ⟨X, 0, none⟩)) rfl (by kernel_rfl) (by kernel_rfl) (by kernel_rfl) (fun _ _ _ h => h) (Or.inl ⟨by rfl, fun w hSw => by (try dsimp only at hSw); go_simp⟩) trivial ?_
  try simp only [List.getElem_toArray, List.getElem_cons_zero, List.getElem_cons_succ, Act.put, List.setIfInBounds_toArray, List.set_cons_zero, List.set_cons_succ]
  refine wpAnyH_take (i := 1) (v := .int .i64 (a : Int)) rfl (by kernel_rfl) (by kernel_rfl) (by kernel_rfl) (fun _ _ _ h => h) (Or.inl ⟨by rfl, fun w hSw => by (try dsimp only at hSw); go_simp⟩) trivial ?_
  try simp only [List.getElem_toArray, List.getElem_cons_zero, List.getElem_cons_succ, Act.put, List.setIfInBounds_toArray, List.set_cons_zero, List.set_cons_succ]
  refine wpAnyH_take (i := 2) (v := .pointer (some ⟨X, 0, none⟩)) rfl (by kernel_rfl) (by kernel_rfl) (by kernel_rfl) (fun _ _ _ h => h) (Or.inl ⟨by rfl, fun w hSw => by (try dsimp only at hSw); go_simp⟩) trivial ?_
  try simp only [List.getElem_toArray, List.getElem_cons_zero, List.getElem_cons_succ, Act.put, List.setIfInBounds_toArray, List.set_cons_zero, List.set_cons_succ]
  refine wpAnyH_take (i := 3) (v := .pointer (some ⟨X, 0, none⟩)) rfl (by kernel_rfl) (by kernel_rfl) (by kernel_rfl) (fun _ _ _ h => h) (Or.inl ⟨by rfl, fun w hSw => by (try dsimp only at hSw); go_simp⟩) trivial ?_
  try simp only [List.getElem_toArray, List.getElem_cons_zero, List.getElem_cons_succ, Act.put, List.setIfInBounds_toArray, List.set_cons_zero, List.set_cons_succ]
  refine wpAnyH_take (i := 4) (v := .pointer (some ⟨X, a, none⟩)) rfl (by kernel_rfl) (by kernel_rfl) (by kernel_rfl) (fun _ _ _ h => h) (Or.inl ⟨by rfl, fun w hSw => by (try dsimp only at hSw); go_simp⟩) trivial ?_
  try simp only [List.getElem_toArray, List.getElem_cons_zero, List.getElem_cons_succ, Act.put, List.setIfInBounds_toArray, List.set_cons_zero, List.set_cons_succ]
  refine wpAnyH_take (i := 6) (v := .int .u64 x) rfl (by kernel_rfl) (by kernel_rfl) (by kernel_rfl) (fun _ _ _ h => h) (Or.inl ⟨by rfl, fun w hSw => by (try dsimp only at hSw); go_simp⟩) trivial ?_
  try simp only [List.getElem_toArray, List.getElem_cons_zero, List.getElem_cons_succ, Act.put, List.setIfInBounds_toArray, List.set_cons_zero, List.set_cons_succ]
  refine wpAnyH_take (i := 8) (v := .pointer (some ⟨X, 0, none⟩)) rfl (by kernel_rfl) (by kernel_rfl) (by kernel_rfl) (fun _ _ _ h => h) (Or.inl ⟨by rfl, fun w hSw => by (try dsimp only at hSw); go_simp⟩) trivial ?_
  try simp only [List.getElem_toArray, List.getElem_cons_zero, List.getElem_cons_succ, Act.put, List.setIfInBounds_toArray, List.set_cons_zero, List.set_cons_succ]
  refine wpAnyH_take (i := 9) (v := .pointer (some ⟨X, 0, none⟩)) rfl (by kernel_rfl) (by kernel_rfl) (by kernel_rfl) (fun _ _ _ h => h) (Or.inl ⟨by rfl, fun w hSw => by (try dsimp only at hSw); go_simp⟩) trivial ?_
  try simp only [List.getElem_toArray, List.getElem_cons_zero, List.getElem_cons_succ, Act.put, List.setIfInBounds_toArray, List.set_cons_zero, List.set_cons_succ]
  refine wpAnyH_ready (rs := [5]) (by kernel_rfl) (by simp) ?_
  refine AllReadyH.cons (i := 5) rfl (fun K hK => ?_) AllReadyH.nil
  go_simp
  clear hHeld
  show K _ _
  refine hK.out _ _ (trivial) (fun hHeld => ?_)
  clear hK K
  try simp only [List.getElem_toArray, List.getElem_cons_zero, List.getElem_cons_succ, Act.put, List.setIfInBounds_toArray, List.set_cons_zero, List.set_cons_succ]
  refine wpAnyH_take (i := 7) (v := .int .u64 (xo (nod L a) x)) rfl (by kernel_rfl) (by kernel_rfl) (by kernel_rfl) (fun _ _ _ h => h) (Or.inl ⟨by rfl, fun w hSw => by (try dsimp only at hSw); go_simp⟩) trivial ?_
  try simp only [List.getElem_toArray, List.getElem_cons_zero, List.getElem_cons_succ, Act.put, List.setIfInBounds_toArray, List.set_cons_zero, List.set_cons_succ]
  refine wpAnyH_take (i := 10) (v := .pointer (some ⟨X, a, none⟩)) rfl (by kernel_rfl) (by kernel_rfl) (by kernel_rfl) (fun _ _ _ h => h) (Or.inl ⟨by rfl, fun w hSw => by (try dsimp only at hSw); go_simp⟩) trivial ?_
  try simp only [List.getElem_toArray, List.getElem_cons_zero, List.getElem_cons_succ, Act.put, List.setIfInBounds_toArray, List.set_cons_zero, List.set_cons_succ]
  refine wpAnyH_ready (rs := [11]) (by kernel_rfl) (by simp) ?_
  refine AllReadyH.cons (i := 11) rfl (fun K hK => ?_) AllReadyH.nil
  go_simp
  clear hHeld
  show K _ _
  refine hK.out _ _ (trivial) (fun hHeld => ?_)
  clear hK K
  try simp only [List.getElem_toArray, List.getElem_cons_zero, List.getElem_cons_succ, Act.put, List.setIfInBounds_toArray, List.set_cons_zero, List.set_cons_succ]
  refine wpAnyH_done (by kernel_rfl) ?_ _
  refine NoPanic.normal ?_
  clear hxo
  generalize w2.setCell ⟨X, a, none⟩ (.int .u64 (xo (nod L a) x)) = w3 at *
  generalize upd (nod L) a (xo (nod L a) x) = N3 at *
  clear c0 cf HN
  go_wp2_with fail
  go_loopw [7] (fun v wr => ∃ (m b : Nat) (N : Nat → Int), (64 + i) / 2 ^ m = b ∧ 1 ≤ b ∧ b < 128 ∧ v = .int .i64 (b : Int) ∧ Hid (Nd wr X N) ∧ Hid (Turn X w wr) ∧ Hid (Mid L i x b N) ∧ Hid (N 0 = 0)) (fun v _ => (intOf v).toNat)
  case atStart => exact ⟨0, a, N3, by have := HA.out; simp; omega, by have := HA.out; omega, ha128, rfl, HN3, HT3, HMid, HZ⟩
  case round =>
    obtain ⟨m, b, N, hb, hb1, hb2, rfl, HN, HT, HM, H0⟩ := hrel
    clear HN3 HT3 HMid HZ
    by_cases hlt : 1 < b
    · obtain ⟨c, hc⟩ : ∃ c, b / 2 = c := ⟨_, rfl⟩
      have hq : (b : Int) / 2 = (c : Int) := by omega
      have HC := hid (half_big (i := i) (m := m) (by omega))
      rw [hb, hc] at HC
      have HM2 := HM.out
      rw [← hb] at HM2
      have HMn := hid (mid_next HI.out HM2 (by rw [hb]; exact hc) HC.out.2)
      have HR := hid (fun w1 h1 => reckon_any (X := X) (N := N) c HC.out.2 (by omega) w1 h1)
      have H0n : Hid (upd N c (twoI (N (2 * c)) (N (2 * c + 1))) 0 = 0) := hid (by rw [upd_ne _ _ (by have := HC.out.2; omega)]; exact H0.out)
      have hcb : c < b := by omega
      clear HM2 hb hc
      go_wp2_with fail
      refine (HR.out _ HN.out).mono ?_
      rintro e w4 ⟨rfl, t4, n4⟩
      have HN4 := hid n4
      have HT4 := hid (HT.out.trans t4)
      clear t4 n4
      go_wp2_with fail
      go_roundw
      case rel => exact ⟨m + 1, c, _, HC.out.1, HC.out.2, by omega, rfl, HN4, HT4, HMn, H0n⟩
      case measure => simp [intOf]; omega
    · have hb1 : b = 1 := by omega
      subst hb1
      clear hb
      go_wp2_with fail
      go_ret
      exact HEnd.out _ _ HT.out HN.out HM.out H0.out
theorem flip_any {X : Nat} {L : Nat → Int} (f : Fx) (w : World) (h : Tr w X L) :
    Calls Try.prog 11 #[.pointer (some ⟨X, 0, none⟩), .int .i64 f.i, .int .u64 f.x] w fun e w' => e = .returned (.int .i64 (if okI f.i then 0 else 1)) ∧ Turn X w w' ∧ Tr w' X (flipO f L) := by
  by_cases g : okI f.i
  · rw [if_pos g, flipO_ok g]
    obtain ⟨i, hi⟩ := Int.eq_ofNat_of_zero_le g.1
    rw [hi]
    exact flip_ok i f.x (by unfold okI at g; omega) w h
  · rw [if_neg g, flipO_bad g]
    refine (flip_bad f.i f.x g w).mono ?_
    rintro e w1 ⟨rfl, rfl⟩
    exact ⟨rfl, Turn.refl _ _, h⟩
end Go.Proofs.Ytpfelbbhhoilpaa
