/- The contracts of the reference's At, Len, Home and between: each answers what the plain function does and turns nothing that was there. -/
import Derived.Test.YtibdnhnomjcclaaRefCopy
namespace Go.Proofs.Ytibdnhnomjcclaa
open Go.ChangeShapes Go.WideShapes Go.ChangeAt Go.RowKit
set_option linter.unusedVariables false
set_option linter.unusedSimpArgs false

theorem eq_true {a b : ByteArray} (h : a = b) : (a.toList == b.toList) = true := by rw [bytes_beq, decide_eq_true h]
theorem eq_false {a b : ByteArray} (h : a ≠ b) : (a.toList == b.toList) = false := by rw [bytes_beq, decide_eq_false h]
set_option maxHeartbeats 1600000 in
theorem refat_any {Q m most : Nat} {L : Tb} (h4 : m ≤ 4096) (ok : Ok (hm m) m L) (free : cnt L m < m) (k : ByteArray) (w : World) (h : RowT w 46 Q m L) :
    Calls Try.prog 17 #[.agg #[.slice (some ⟨Q, 0, none⟩) m m, .int .i64 (most : Int)], .string k] w fun e w' => e = .returned (.int .i64 (slotI m L k)) ∧ Kept w w' := by
  obtain ⟨w1, hw1⟩ : ∃ w1, w.alloc (.cells #[.slice (some ⟨Q, 0, none⟩) m m, .int .i64 (most : Int)] 29) = w1 := ⟨_, rfl⟩
  have A1 := at_new w #[.slice (some ⟨Q, 0, none⟩) m m, .int .i64 (most : Int)] 29
  have k1 := kept_alloc (kept_refl w) (.cells #[.slice (some ⟨Q, 0, none⟩) m m, .int .i64 (most : Int)] 29)
  rw [hw1] at A1 k1
  obtain ⟨X, hX⟩ : ∃ X, w.heap.size = X := ⟨_, rfl⟩
  rw [hX] at A1
  have HR := hid (row_kept h k1)
  have HK := hid k1
  have HYes : Hid (∀ i, Has L k i → slotI m L k = (i : Int)) := hid (fun i hi => by
    unfold slotI; rw [spot_eq (has_found ok hi), if_pos hi.1])
  have HNo : Hid ((∀ i, i < m → ¬ Has L k i) → slotI m L k = -1) := hid (fun hn => by
    have hf := spot_found (k := k) ok free
    unfold slotI
    rw [if_neg]
    exact fun t => hn _ hf.lt (found_has hf t))
  obtain ⟨a0, a1, af⟩ := at_cells2 A1
  clear A1 k1 h ok free
  go_enter Try.func17, Try.ntmps17
  go_wp2_with fail
  go_loop [9] (fun i => ∃ j : Nat, i = .int .i64 (j : Int) ∧ j ≤ m ∧ Hid (∀ i, i < j → ¬ Has L k i)) (fun i => m - (intOf i).toNat)
  case atStart => exact ⟨0, rfl, Nat.zero_le _, hid (fun i hi => absurd hi (by omega))⟩
  case round =>
    obtain ⟨j, rfl, hj, HN⟩ := hrel
    by_cases hlt : j < m
    · obtain ⟨r0, r1, r2, rf⟩ := row_cells HR.out hlt
      cases t : (L j).taken with
      | false =>
        rw [t] at r0
        have HN2 : Hid (∀ i, i < j + 1 → ¬ Has L k i) := hid (fun i hi g => by
          rcases (show i < j ∨ i = j by omega) with e | e
          · exact HN.out i e g
          · subst e; rw [g.1] at t; cases t)
        clear t
        go_wp2_with fail
        go_round
        case rel => exact ⟨j + 1, by go_num, by omega, HN2⟩
        case measure => simp [intOf]; omega
      | true =>
        rw [t] at r0
        by_cases e : (L j).key = k
        · have HE := hid (HYes.out j ⟨t, e⟩)
          have heq := eq_true e
          clear t e
          generalize (L j).key = q at *
          go_wp2_with fail
          go_ret
          rw [HE.out]
          exact ⟨rfl, HK.out⟩
        · have heq := eq_false e
          have HN2 : Hid (∀ i, i < j + 1 → ¬ Has L k i) := hid (fun i hi g => by
            rcases (show i < j ∨ i = j by omega) with h | h
            · exact HN.out i h g
            · subst h; exact e g.2)
          clear t e
          generalize (L j).key = q at *
          go_wp2_with fail
          go_round
          case rel => exact ⟨j + 1, by go_num, by omega, HN2⟩
          case measure => simp [intOf]; omega
    · have HE := hid (HNo.out (fun i hi => HN.out i (by omega)))
      go_wp2_with fail
      go_ret
      rw [HE.out]
      exact ⟨rfl, HK.out⟩
set_option maxHeartbeats 1600000 in
theorem reflen_any {Q m most : Nat} {L : Tb} (h4 : m ≤ 4096) (w : World) (h : RowT w 46 Q m L) :
    Calls Try.prog 20 #[.agg #[.slice (some ⟨Q, 0, none⟩) m m, .int .i64 (most : Int)]] w fun e w' => e = .returned (.int .i64 (cnt L m : Int)) ∧ Kept w w' := by
  obtain ⟨w1, hw1⟩ : ∃ w1, w.alloc (.cells #[.slice (some ⟨Q, 0, none⟩) m m, .int .i64 (most : Int)] 29) = w1 := ⟨_, rfl⟩
  have A1 := at_new w #[.slice (some ⟨Q, 0, none⟩) m m, .int .i64 (most : Int)] 29
  have k1 := kept_alloc (kept_refl w) (.cells #[.slice (some ⟨Q, 0, none⟩) m m, .int .i64 (most : Int)] 29)
  rw [hw1] at A1 k1
  obtain ⟨X, hX⟩ : ∃ X, w.heap.size = X := ⟨_, rfl⟩
  rw [hX] at A1
  have HR := hid (row_kept h k1)
  have HK := hid k1
  obtain ⟨a0, a1, af⟩ := at_cells2 A1
  clear A1 k1 h
  go_enter Try.func20, Try.ntmps20
  go_wp2_with fail
  go_loop [3, 8] (fun c i => ∃ j : Nat, i = .int .i64 (j : Int) ∧ j ≤ m ∧ c = .int .i64 (cnt L j : Int)) (fun _ i => m - (intOf i).toNat)
  case atStart => exact ⟨0, rfl, Nat.zero_le _, rfl⟩
  case round =>
    obtain ⟨j, rfl, hj, rfl⟩ := hrel
    have hc := cnt_le L j
    by_cases hlt : j < m
    · obtain ⟨r0, r1, r2, rf⟩ := row_cells HR.out hlt
      cases t : (L j).taken with
      | false =>
        rw [t] at r0
        have HE := hid (keysOf_by t).2
        clear t
        go_wp2_with fail
        go_round
        case rel => exact ⟨j + 1, by go_num, by omega, by rw [HE.out]⟩
        case measure => simp [intOf]; omega
      | true =>
        rw [t] at r0
        have HE := hid (keysOf_on t).2
        clear t
        go_wp2_with fail
        go_round
        case rel => exact ⟨j + 1, by go_num, by omega, by rw [HE.out]; rfl⟩
        case measure => simp [intOf]; omega
    · have he : j = m := by omega
      subst he
      go_wp2_with fail
      go_ret
      exact ⟨rfl, HK.out⟩
set_option maxHeartbeats 1600000 in
theorem refhome_any {Q m most : Nat} {L : Tb} (k : ByteArray) (hk : k.size ≤ maxLen) (h0 : 0 < m) (h4 : m ≤ 4096) (w : World) :
    Calls Try.prog 26 #[.agg #[.slice (some ⟨Q, 0, none⟩) m m, .int .i64 (most : Int)], .string k] w fun e w' => e = .returned (.int .i64 ((hm m k : Nat) : Int)) ∧ Kept w w' := by
  obtain ⟨w1, hw1⟩ : ∃ w1, w.alloc (.cells #[.slice (some ⟨Q, 0, none⟩) m m, .int .i64 (most : Int)] 29) = w1 := ⟨_, rfl⟩
  have A1 := at_new w #[.slice (some ⟨Q, 0, none⟩) m m, .int .i64 (most : Int)] 29
  have k1 := kept_alloc (kept_refl w) (.cells #[.slice (some ⟨Q, 0, none⟩) m m, .int .i64 (most : Int)] 29)
  rw [hw1] at A1 k1
  obtain ⟨X, hX⟩ : ∃ X, w.heap.size = X := ⟨_, rfl⟩
  rw [hX] at A1
  have HK := hid k1
  obtain ⟨a0, a1, af⟩ := at_cells2 A1
  have hT := reftext_any k hk
  have HR := hid (hm_wrap (m := m) h0 h4 k)
  have hwf := bounds_u64 (wf_textI k.data.toList k.size)
  clear A1 k1
  generalize textI k.data.toList k.size = t at *
  go_enter Try.func26, Try.ntmps26
  go_wp2_with fail
  go_quiet ((go_at_call 24; exact Calls.quiet_of_same (hT _)))
  go_wp2_with fail
  go_ret
  exact ⟨ret_int HR.out, kept_drewN HK.out _⟩
theorem between_iff {m x o i : Nat} (hx : x < m) (ho : o < m) (hi : i < m) : way m x i < way m o i ↔ 1 ≤ way m o x ∧ way m o x ≤ way m o i := by
  unfold way
  (repeat' split) <;> omega
set_option maxHeartbeats 1600000 in
theorem between_any {Q m most : Nat} (x o i : Nat) (hx : x < m) (ho : o < m) (hi : i < m) (h4 : m ≤ 4096) (w : World) :
    Calls Try.prog 29 #[.agg #[.slice (some ⟨Q, 0, none⟩) m m, .int .i64 (most : Int)], .int .i64 (x : Int), .int .i64 (o : Int), .int .i64 (i : Int)] w fun e w' => e = .returned (.bool (decide (way m x i < way m o i))) ∧ Kept w w' := by
  obtain ⟨w1, hw1⟩ : ∃ w1, w.alloc (.cells #[.slice (some ⟨Q, 0, none⟩) m m, .int .i64 (most : Int)] 29) = w1 := ⟨_, rfl⟩
  have A1 := at_new w #[.slice (some ⟨Q, 0, none⟩) m m, .int .i64 (most : Int)] 29
  have k1 := kept_alloc (kept_refl w) (.cells #[.slice (some ⟨Q, 0, none⟩) m m, .int .i64 (most : Int)] 29)
  rw [hw1] at A1 k1
  obtain ⟨X, hX⟩ : ∃ X, w.heap.size = X := ⟨_, rfl⟩
  rw [hX] at A1
  have HK := hid k1
  obtain ⟨a0, a1, af⟩ := at_cells2 A1
  have HB := hid (between_iff hx ho hi)
  clear A1 k1
  go_enter Try.func29, Try.ntmps29
  go_wp2_with fail
  go_loop [9] (fun v => ∃ a : Nat, v = .int .i64 (a : Int) ∧ a < m ∧ Hid (way m o a ≤ way m o i) ∧ Hid (way m o x = 0 ∨ way m o a < way m o x)) (fun v => m - way m o (intOf v).toNat)
  case atStart => exact ⟨o, rfl, ho, hid (by rw [way_self]; omega), hid (by rw [way_self]; omega)⟩
  case round =>
    obtain ⟨a, rfl, ha, HA, HX⟩ := hrel
    by_cases hai : a = i
    · have he : ((a : Int) == (i : Int)) = true := by simp [hai]
      have HE : Hid (false = decide (way m x i < way m o i)) := hid (by
        have h1 := HB.out
        have h2 := HX.out
        rw [hai] at h2
        symm
        rw [decide_eq_false_iff_not, h1]
        omega)
      clear hai
      go_wp2_with fail
      go_ret
      exact ⟨ret_bool HE.out, HK.out⟩
    · have he : ((a : Int) == (i : Int)) = false := by simp; omega
      obtain ⟨hl1, hl2⟩ := way_next ho ha hi HA.out hai
      have hnx := nxt_rem ha
      have HL1 := hid hl1
      have HL2 := hid hl2
      have hnl := nxt_lt ha
      by_cases hnx2 : nxt m a = x
      · have he2 : (((nxt m a : Nat) : Int) == (x : Int)) = true := by simp [hnx2]
        have HE : Hid (true = decide (way m x i < way m o i)) := hid (by
          have h1 := HB.out
          rw [hnx2] at hl2
          symm
          rw [decide_eq_true_eq, h1]
          omega)
        clear hai hl1 hl2 hnx2
        generalize nxt m a = y at *
        go_wp2_with fail
        go_ret
        exact ⟨ret_bool HE.out, HK.out⟩
      · have he2 : (((nxt m a : Nat) : Int) == (x : Int)) = false := by simp; omega
        have HX2 : Hid (way m o x = 0 ∨ way m o (nxt m a) < way m o x) := hid (by
          have h2 := HX.out
          have : way m o (nxt m a) ≠ way m o x := fun e => hnx2 (way_inj ho hnl hx e)
          omega)
        have HMe := hid (way_lt ho hnl)
        clear hai hl1 hl2 hnx2
        go_wp2_with fail
        go_round
        case rel => exact ⟨nxt m a, by first | rfl | rw [hnx], hnl, hid (by have := HL1.out; have := HL2.out; omega), HX2⟩
        case measure =>
          have h1 := HL2.out
          have h2 := HMe.out
          simp [intOf, hnx]
          omega
end Go.Proofs.Ytibdnhnomjcclaa
