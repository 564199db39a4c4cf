/- The contracts of the program's clock. The clock's fields are as they can be. -/
import Derived.Test.YtlhceekjhhdbeaaWalks
import Derived.Deep.RegionHeld3
namespace Go.Proofs.Ytlhceekjhhdbeaa
open Go.ChangeShapes Go.WideShapes Go.ChangeAt Go.RowKit
set_option linter.unusedVariables false
set_option linter.unusedSimpArgs false

theorem zero25 (w : World) : (zeroValue 25).run Try.prog w = .ok (.agg #[.int .u64 0, .int .u32 0, .int .u8 0]) w := by kernel_rfl
theorem time_any (c : Nat) (k : Clk) (w : World) (h : Clock c k w) :
    Calls Try.prog 21 #[.pointer (some ⟨c, 0, none⟩)] w fun e w' => e = .returned (.int .u64 k.time) ∧ w' = w := by
  obtain ⟨c0, c1, c2, c3, c4, c5, c6, hf⟩ := at_cells7 h
  clear h
  go_enter Try.func21, Try.ntmps21
  go_wp2_with fail
  go_ret
  exact ⟨rfl, rfl⟩
theorem time_nil (w : World) :
    Calls Try.prog 21 #[.pointer none] w fun e w' => e = .returned (.int .u64 0) ∧ w' = w := by
  go_enter Try.func21, Try.ntmps21
  go_wp2_with fail
  go_ret
  exact ⟨rfl, rfl⟩
theorem last_any (c : Nat) (k : Clk) (w : World) (h : Clock c k w) :
    Calls Try.prog 22 #[.pointer (some ⟨c, 0, none⟩)] w fun e w' => e = .returned (.agg #[.int .u64 k.last.p, .int .u32 k.last.l, .int .u8 k.last.n]) ∧ Kept w w' := by
  obtain ⟨c0, c1, c2, c3, c4, c5, c6, hf⟩ := at_cells7 h
  have hl := at_lt h
  have hz := zero25
  clear h
  go_enter Try.func22, Try.ntmps22
  go_wp2_with fail
  exact bodyPost_ret (v := .agg #[.int .u64 k.last.p, .int .u32 k.last.l, .int .u8 k.last.n]) (by simp [results, Try.results22, go_sem]) rfl ⟨rfl, kept_alloc (kept_refl w) _⟩
theorem last_nil (w : World) :
    Calls Try.prog 22 #[.pointer none] w fun e w' => e = .returned (.agg #[.int .u64 0, .int .u32 0, .int .u8 0]) ∧ Kept w w' := by
  have hz := zero25
  go_enter Try.func22, Try.ntmps22
  go_wp2_with fail
  exact bodyPost_ret (v := .agg #[.int .u64 0, .int .u32 0, .int .u8 0]) (by simp [results, Try.results22, go_sem]) rfl ⟨rfl, kept_alloc (kept_refl w) _⟩
theorem pass_nil (n : Int) (w : World) :
    Calls Try.prog 19 #[.pointer none, .int .i64 n] w fun e w' => e = .returned (.tuple #[]) ∧ w' = w := by
  go_enter Try.func19, Try.ntmps19
  go_wp2_with fail
  exact bodyPost_ret (v := .tuple #[]) (by simp [results, Try.results19, go_sem]) rfl ⟨rfl, rfl⟩
theorem pass_any (c : Nat) (k : Clk) (hk : k.ok) (n : Int) (hn : (Lit.int .i64 n).wf = true) (w : World) (h : Clock c k w) :
    Calls Try.prog 19 #[.pointer (some ⟨c, 0, none⟩), .int .i64 n] w fun e w' => e = .returned (.tuple #[]) ∧ Turn c w w' ∧ Clock c (passK k n) w' := by
  have hb := bounds_i64 hn
  obtain ⟨c0, c1, c2, c3, c4, c5, c6, hf⟩ := at_cells7 h
  have k3 : 0 ≤ k.time := hk.2.2.1
  have k4 : k.time ≤ 281474976710655 := hk.2.2.2.1
  by_cases h1 : n < 1
  · have e : passK k n = k := by unfold passK; rw [if_neg (by omega)]
    have H : Hid (Clock c (passK k n) w) := by rw [e]; exact h
    clear e h
    go_enter Try.func19, Try.ntmps19
    go_wp2_with fail
    exact bodyPost_ret (v := .tuple #[]) (by simp [results, Try.results19, go_sem]) rfl ⟨rfl, Turn.refl c w, H.out⟩
  · have h1' : 1 ≤ n := by omega
    by_cases h2 : k.time + n ≤ 281474976710655
    · have H : Hid (Clock c (passK k n) (w.setCell ⟨c, 1, none⟩ (.int .u64 (k.time + n)))) := by
        have := at_set h 1 (.int .u64 (k.time + n))
        unfold passK
        rw [if_pos h1', if_pos h2]
        exact this
      clear h
      go_enter Try.func19, Try.ntmps19
      go_wp2_with fail
      exact bodyPost_end (v := .tuple #[]) (by simp [results, Try.results19, go_sem]) rfl ⟨rfl, turn_set (Turn.refl c w) _ _, H.out⟩
    · have H : Hid (Clock c (passK k n) (w.setCell ⟨c, 1, none⟩ (.int .u64 281474976710655))) := by
        have := at_set h 1 (.int .u64 281474976710655)
        unfold passK
        rw [if_pos h1', if_neg h2]
        exact this
      clear h
      go_enter Try.func19, Try.ntmps19
      go_wp2_with fail
      exact bodyPost_end (v := .tuple #[]) (by simp [results, Try.results19, go_sem]) rfl ⟨rfl, turn_set (Turn.refl c w) _ _, H.out⟩
theorem now_nil (w : World) :
    Calls Try.prog 15 #[.pointer none] w fun e w' => e = .returned (.tuple #[.agg #[.int .u64 0, .int .u32 0, .int .u8 0], .int .i64 1]) ∧ Kept w w' := by
  have hz := zero25
  go_enter Try.func15, Try.ntmps15
  go_wp2_with fail
  exact bodyPost_ret (v := .tuple #[.agg #[.int .u64 0, .int .u32 0, .int .u8 0], .int .i64 1]) (by simp [results, Try.results15, go_sem]) rfl ⟨rfl, kept_alloc (kept_refl w) _⟩
theorem see_nil (s : Stp) (w : World) :
    Calls Try.prog 18 #[.pointer none, .agg #[.int .u64 s.p, .int .u32 s.l, .int .u8 s.n]] w fun e w' => e = .returned (.int .i64 1) ∧ Kept w w' := by
  go_enter Try.func18, Try.ntmps18
  go_wp2_with fail
  go_ret
  exact ⟨rfl, kept_alloc (kept_refl w) _⟩
theorem now_busy (c : Nat) (k : Clk) (w : World) (h : Clock c k w) (h1 : k.time < k.wakes) :
    Calls Try.prog 15 #[.pointer (some ⟨c, 0, none⟩)] w fun e w' => e = .returned (.tuple #[.agg #[.int .u64 0, .int .u32 0, .int .u8 0], .int .i64 10]) ∧ Kept w w' := by
  have hz := zero25
  obtain ⟨c0, c1, c2, c3, c4, c5, c6, hf⟩ := at_cells7 h
  have hl := at_lt h
  clear h
  go_enter Try.func15, Try.ntmps15
  go_wp2_with fail
  go_region
  go_wp2_with fail
  exact bodyPost_ret (v := .tuple #[.agg #[.int .u64 0, .int .u32 0, .int .u8 0], .int .i64 10]) (by simp [results, Try.results15, go_sem]) rfl ⟨rfl, kept_drew (kept_alloc (kept_refl w) _)⟩
theorem now_full (c : Nat) (k : Clk) (w : World) (h : Clock c k w) (h1 : ¬ k.time < k.wakes) (h2 : ¬ k.last.p < k.time) (h3 : k.last.l = 4294967295) :
    Calls Try.prog 15 #[.pointer (some ⟨c, 0, none⟩)] w fun e w' => e = .returned (.tuple #[.agg #[.int .u64 0, .int .u32 0, .int .u8 0], .int .i64 6]) ∧ Kept w w' := by
  have hz := zero25
  obtain ⟨c0, c1, c2, c3, c4, c5, c6, hf⟩ := at_cells7 h
  have hl := at_lt h
  clear h
  go_enter Try.func15, Try.ntmps15
  go_wp2_with fail
  go_region
  go_wp2_with fail
  go_region
  go_wp2_with fail
  exact bodyPost_ret (v := .tuple #[.agg #[.int .u64 0, .int .u32 0, .int .u8 0], .int .i64 6]) (by simp [results, Try.results15, go_sem]) rfl ⟨rfl, kept_drew (kept_alloc (kept_refl w) _)⟩
theorem clock_set3 {c : Nat} {k : Clk} {w : World} (h : Clock c k w) (s : Stp) :
    Clock c { k with last := s } (((w.setCell ⟨c, 3, none⟩ (.int .u64 s.p)).setCell ⟨c, 4, none⟩ (.int .u32 s.l)).setCell ⟨c, 5, none⟩ (.int .u8 s.n)) :=
  at_set (at_set (at_set h 3 _) 4 _) 5 _
theorem turn_set3 {c : Nat} {u w : World} (h : Turn c u w) (a b d : Value) : Turn c u (((w.setCell ⟨c, 3, none⟩ a).setCell ⟨c, 4, none⟩ b).setCell ⟨c, 5, none⟩ d) :=
  turn_set (turn_set (turn_set h _ _) _ _) _ _
theorem now_first (c : Nat) (k : Clk) (w : World) (h : Clock c k w) (h1 : ¬ k.time < k.wakes) (h2 : k.last.p < k.time) :
    Calls Try.prog 15 #[.pointer (some ⟨c, 0, none⟩)] w fun e w' => e = .returned (.tuple #[.agg #[.int .u64 k.time, .int .u32 0, .int .u8 k.node], .int .i64 0]) ∧ Turn c w w' ∧ Clock c { k with last := ⟨k.time, 0, k.node⟩ } w' := by
  have hz := zero25
  obtain ⟨c0, c1, c2, c3, c4, c5, c6, hf⟩ := at_cells7 h
  have hl := at_lt h
  have HC : Hid (Clock c { k with last := ⟨k.time, 0, k.node⟩ } (((w.setCell ⟨c, 3, none⟩ (.int .u64 k.time)).setCell ⟨c, 4, none⟩ (.int .u32 0)).setCell ⟨c, 5, none⟩ (.int .u8 k.node))) := clock_set3 h ⟨k.time, 0, k.node⟩
  clear h
  go_enter Try.func15, Try.ntmps15
  go_wp2_with fail
  go_region
  go_wp2_with fail
  go_region
  go_wp2_with fail
  go_region
  go_wp2_with fail
  exact bodyPost_ret (v := .tuple #[.agg #[.int .u64 k.time, .int .u32 0, .int .u8 k.node], .int .i64 0]) (by simp [results, Try.results15, go_sem]) rfl ⟨rfl, turn_drew (turn_alloc (turn_set3 (Turn.refl c w) _ _ _) _), at_alloc HC.out _⟩
theorem now_next (c : Nat) (k : Clk) (hk : k.ok) (w : World) (h : Clock c k w) (h1 : ¬ k.time < k.wakes) (h2 : ¬ k.last.p < k.time) (h3 : k.last.l ≠ 4294967295) :
    Calls Try.prog 15 #[.pointer (some ⟨c, 0, none⟩)] w fun e w' => e = .returned (.tuple #[.agg #[.int .u64 k.last.p, .int .u32 (k.last.l + 1), .int .u8 k.node], .int .i64 0]) ∧ Turn c w w' ∧ Clock c { k with last := ⟨k.last.p, k.last.l + 1, k.node⟩ } w' := by
  have hz := zero25
  obtain ⟨c0, c1, c2, c3, c4, c5, c6, hf⟩ := at_cells7 h
  have hl := at_lt h
  have HC : Hid (Clock c { k with last := ⟨k.last.p, k.last.l + 1, k.node⟩ } (((w.setCell ⟨c, 3, none⟩ (.int .u64 k.last.p)).setCell ⟨c, 4, none⟩ (.int .u32 (k.last.l + 1))).setCell ⟨c, 5, none⟩ (.int .u8 k.node))) := clock_set3 h ⟨k.last.p, k.last.l + 1, k.node⟩
  have b1 : 0 ≤ k.last.l := hk.2.2.2.2.2.2.1.2.2.1
  have b2 : k.last.l < 4294967295 := by have := hk.2.2.2.2.2.2.1.2.2.2.1; omega
  have h3' : (k.last.l == 4294967295) = false := by simpa using h3
  clear h hk h3
  go_enter Try.func15, Try.ntmps15
  go_wp2_with fail
  go_region
  go_wp2_with fail
  go_region
  go_wp2_with fail
  go_region
  go_wp2_with fail
  exact bodyPost_ret (v := .tuple #[.agg #[.int .u64 k.last.p, .int .u32 (k.last.l + 1), .int .u8 k.node], .int .i64 0]) (by simp [results, Try.results15, go_sem]) rfl ⟨rfl, turn_drew (turn_alloc (turn_set3 (Turn.refl c w) _ _ _) _), at_alloc HC.out _⟩
theorem clock_kept {c : Nat} {k : Clk} {w w' : World} (h : Clock c k w) (hk : Kept w w') : Clock c k w' := at_kept h hk
theorem now_any (c : Nat) (k : Clk) (hk : k.ok) (w : World) (h : Clock c k w) :
    Calls Try.prog 15 #[.pointer (some ⟨c, 0, none⟩)] w fun e w' => e = .returned (.tuple #[.agg #[.int .u64 (nowK k).1.p, .int .u32 (nowK k).1.l, .int .u8 (nowK k).1.n], .int .i64 (nowK k).2.1]) ∧ Turn c w w' ∧ Clock c (nowK k).2.2 w' := by
  by_cases h1 : k.time < k.wakes
  · have e : nowK k = (zero, 10, k) := by unfold nowK; rw [if_pos h1]
    rw [e]
    exact (now_busy c k w h h1).mono fun _ _ ⟨he, hK⟩ => ⟨he, turn_kept hK, clock_kept h hK⟩
  by_cases h2 : k.last.p < k.time
  · have e : nowK k = (⟨k.time, 0, k.node⟩, 0, { k with last := ⟨k.time, 0, k.node⟩ }) := by unfold nowK; rw [if_neg h1, if_pos h2]
    rw [e]
    exact now_first c k w h h1 h2
  by_cases h3 : k.last.l = 4294967295
  · have e : nowK k = (zero, 6, k) := by unfold nowK; rw [if_neg h1, if_neg h2, if_pos h3]
    rw [e]
    exact (now_full c k w h h1 h2 h3).mono fun _ _ ⟨he, hK⟩ => ⟨he, turn_kept hK, clock_kept h hK⟩
  · have e : nowK k = (⟨k.last.p, k.last.l + 1, k.node⟩, 0, { k with last := ⟨k.last.p, k.last.l + 1, k.node⟩ }) := by unfold nowK; rw [if_neg h1, if_neg h2, if_neg h3]
    rw [e]
    exact now_next c k hk w h h1 h2 h3
end Go.Proofs.Ytlhceekjhhdbeaa
