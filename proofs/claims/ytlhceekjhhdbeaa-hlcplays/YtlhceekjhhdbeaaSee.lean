/- The contracts of the program's See and New. -/
import Derived.Test.YtlhceekjhhdbeaaClock
namespace Go.Proofs.Ytlhceekjhhdbeaa
open Go.ChangeShapes Go.WideShapes Go.ChangeAt Go.RowKit
set_option linter.unusedVariables false
set_option linter.unusedSimpArgs false

theorem see_bad (c : Nat) (k : Clk) (hk : k.ok) (s : Stp) (w : World) (h : Clock c k w) (h1 : k.time + k.drift < s.p ∨ 64 ≤ s.n) :
    Calls Try.prog 18 #[.pointer (some ⟨c, 0, none⟩), .agg #[.int .u64 s.p, .int .u32 s.l, .int .u8 s.n]] w fun e w' => e = .returned (.int .i64 9) ∧ Kept w w' := by
  obtain ⟨c0, c1, c2, c3, c4, c5, c6, hf⟩ := at_cells7 h
  have hl := at_lt h
  have b1 : 0 ≤ k.time := hk.2.2.1
  have b2 : k.time ≤ 281474976710655 := hk.2.2.2.1
  have b3 : 0 ≤ k.drift := hk.2.2.2.2.1
  have b4 : k.drift ≤ 1000 := hk.2.2.2.2.2.1
  clear h hk
  by_cases h2 : k.time + k.drift < s.p
  · clear h1
    go_enter Try.func18, Try.ntmps18
    go_wp2_with fail
    go_region
    go_wp2_with fail
    go_ret
    exact ⟨rfl, kept_drew (kept_alloc (kept_refl w) _)⟩
  · have h3 : 64 ≤ s.n := by omega
    have h2' : decide (k.time + k.drift < s.p) = false := by simpa using h2
    clear h1
    go_enter Try.func18, Try.ntmps18
    go_wp2_with fail
    go_region
    go_wp2_with fail
    go_ret
    exact ⟨rfl, kept_drew (kept_alloc (kept_refl w) _)⟩
theorem clock_cells {c : Nat} {k : Clk} {w : World} (h : Clock c k w) : w.cell? ⟨c, 3, none⟩ = some (.int .u64 k.last.p) ∧ w.cell? ⟨c, 4, none⟩ = some (.int .u32 k.last.l) ∧ w.cell? ⟨c, 5, none⟩ = some (.int .u8 k.last.n) :=
  ⟨at_cell h 3, at_cell h 4, at_cell h 5⟩
theorem see_good (c : Nat) (k : Clk) (hk : k.ok) (s : Stp) (w : World) (h : Clock c k w) (h1 : ¬ (k.time + k.drift < s.p ∨ 64 ≤ s.n)) (k' : Clk) (hk' : k' = if lt k.last s = true then { k with last := s } else k) :
    Calls Try.prog 18 #[.pointer (some ⟨c, 0, none⟩), .agg #[.int .u64 s.p, .int .u32 s.l, .int .u8 s.n]] w fun e w' => e = .returned (.int .i64 0) ∧ Turn c w w' ∧ Clock c k' w' := by
  have HK' : Hid (k' = if lt k.last s = true then { k with last := s } else k) := hk'
  clear hk'
  have A1 : Hid (At (w.alloc (.cells #[.int .u64 s.p, .int .u32 s.l, .int .u8 s.n] 25)).drew w.heap.size #[.int .u64 s.p, .int .u32 s.l, .int .u8 s.n] 25) := at_new w _ _
  have HC : Hid (Clock c k (w.alloc (.cells #[.int .u64 s.p, .int .u32 s.l, .int .u8 s.n] 25)).drew) := at_alloc h _
  have HT : Hid (Turn c w (w.alloc (.cells #[.int .u64 s.p, .int .u32 s.l, .int .u8 s.n] 25)).drew) := turn_alloc (Turn.refl c w) _
  obtain ⟨c0, c1, c2, c3, c4, c5, c6, hf⟩ := at_cells7 h
  have hl := at_lt h
  have b1 : 0 ≤ k.time := hk.2.2.1
  have b2 : k.time ≤ 281474976710655 := hk.2.2.2.1
  have b3 : 0 ≤ k.drift := hk.2.2.2.2.1
  have b4 : k.drift ≤ 1000 := hk.2.2.2.2.2.1
  have HN : Hid (c ≠ w.heap.size) := Nat.ne_of_lt hl
  clear hk h
  have h2 : decide (k.time + k.drift < s.p) = false := by simp; omega
  have h3 : decide (64 ≤ s.n) = false := by simp; omega
  clear h1
  have HL : Hid (∀ k s, decide (cmp k s < 0) = lt k s) := fun k s => by
    by_cases hc : Lt k s
    · rw [cmp_lt hc, (lt_iff k s).2 hc]; rfl
    · rw [(lt_false k s).2 hc]
      rcases cmp_cases k s with e | e | e
      · exact absurd ((lt_iff k s).1 (by unfold cmp at e; split at e; assumption; split at e <;> omega)) hc
      · rw [e]; rfl
      · rw [e]; rfl
  go_enter Try.func18, Try.ntmps18
  go_wp2_with fail
  go_region
  go_wp2_with fail
  clear c0 c1 c2 c3 c4 c5 c6 hf hl b1 b2 b3 b4 h2 h3
  generalize (w.alloc (.cells #[.int .u64 s.p, .int .u32 s.l, .int .u8 s.n] 25)).drew = w1 at *
  generalize w.heap.size = X at *
  obtain ⟨c3, c4, c5⟩ := clock_cells HC.out
  obtain ⟨x0, x1, x2, hfx⟩ := at_cells3 A1.out
  go_region_held3 (fun w' => w'.cell? ⟨c, 3, none⟩ = some (.int .u64 k.last.p) ∧ w'.cell? ⟨c, 4, none⟩ = some (.int .u32 k.last.l) ∧ w'.cell? ⟨c, 5, none⟩ = some (.int .u8 k.last.n) ∧ w'.cell? ⟨X, 0, none⟩ = some (.int .u64 s.p) ∧ w'.cell? ⟨X, 1, none⟩ = some (.int .u32 s.l) ∧ w'.cell? ⟨X, 2, none⟩ = some (.int .u8 s.n)) (first | exact ⟨c3, c4, c5, x0, x1, x2⟩ | exact ⟨d3, d4, d5, y0, y1, y2⟩) (first
    | (go_at_call 10; refine (compare_any k.last s _).mono ?_; rintro e w3 ⟨rfl, h3⟩; obtain ⟨d3, d4, d5⟩ := clock_cells (clock_kept HC.out h3); obtain ⟨y0, y1, y2, -⟩ := at_cells3 (at_kept A1.out h3)))
  rw [HL.out k.last s]
  have HC3 : Hid (Clock c k w3) := clock_kept HC.out h3
  have HT3 : Hid (Turn c w w3) := HT.out.trans (turn_kept (w' := w3) h3)
  have f3 : ∀ j, w3.frozen? ⟨c, j, none⟩ = false := at_frozen HC3.out
  clear c3 c4 c5 x0 x1 x2 hfx HC HT A1 h3
  by_cases hb : lt k.last s = true
  · have e : k' = { k with last := s } := by rw [HK'.out, if_pos hb]
    have HS : Hid (Clock c k' (((w3.setCell ⟨c, 3, none⟩ (.int .u64 s.p)).setCell ⟨c, 4, none⟩ (.int .u32 s.l)).setCell ⟨c, 5, none⟩ (.int .u8 s.n))) := by rw [e]; exact clock_set3 HC3.out s
    clear e
    rw [hb]
    go_wp2_with fail
    go_ret
    exact ⟨rfl, turn_set3 HT3.out _ _ _, HS.out⟩
  · have e : k' = k := by rw [HK'.out, if_neg hb]
    have hb' : lt k.last s = false := by simpa using hb
    have HS : Hid (Clock c k' w3) := by rw [e]; exact HC3.out
    clear e
    rw [hb']
    go_wp2_with fail
    go_ret
    exact ⟨rfl, HT3.out, HS.out⟩
theorem see_any (c : Nat) (k : Clk) (hk : k.ok) (s : Stp) (w : World) (h : Clock c k w) :
    Calls Try.prog 18 #[.pointer (some ⟨c, 0, none⟩), .agg #[.int .u64 s.p, .int .u32 s.l, .int .u8 s.n]] w fun e w' => e = .returned (.int .i64 (seeK k s).1) ∧ Turn c w w' ∧ Clock c (seeK k s).2 w' := by
  by_cases h1 : k.time + k.drift < s.p ∨ 64 ≤ s.n
  · have e : seeK k s = (9, k) := by unfold seeK; rw [if_pos h1]
    rw [e]
    exact (see_bad c k hk s w h h1).mono fun _ _ ⟨he, hK⟩ => ⟨he, turn_kept hK, clock_kept h hK⟩
  · have e : seeK k s = (0, if lt k.last s = true then { k with last := s } else k) := by unfold seeK; rw [if_neg h1]
    rw [e]
    exact see_good c k hk s w h h1 _ rfl
theorem new_bad (node time drift : Int) (rest : Bool) (h : ¬ mayNew node time drift) (w : World) :
    Calls Try.prog 12 #[.int .u8 node, .int .u64 time, .int .i64 drift, .bool rest] w fun e w' => e = .returned (.tuple #[.pointer none, .int .i64 1]) ∧ w' = w := by
  unfold mayNew at h
  by_cases h1 : 64 ≤ node
  · clear h
    go_enter Try.func12, Try.ntmps12
    go_wp2_with fail
    go_ret2
    exact ⟨rfl, rfl⟩
  by_cases h2 : 281474976710655 < time
  · clear h
    go_enter Try.func12, Try.ntmps12
    go_wp2_with fail
    go_ret2
    exact ⟨rfl, rfl⟩
  by_cases h3 : drift < 0
  · clear h
    go_enter Try.func12, Try.ntmps12
    go_wp2_with fail
    go_ret2
    exact ⟨rfl, rfl⟩
  · have h4 : 1000 < drift := by omega
    clear h
    go_enter Try.func12, Try.ntmps12
    go_wp2_with fail
    go_ret2
    exact ⟨rfl, rfl⟩
theorem new_good (node time drift : Int) (rest : Bool) (h : mayNew node time drift) (h1 : 0 ≤ node) (h2 : 0 ≤ time) (w : World) :
    Calls Try.prog 12 #[.int .u8 node, .int .u64 time, .int .i64 drift, .bool rest] w fun e w' => e = .returned (.tuple #[.pointer (some ⟨w.heap.size, 0, none⟩), .int .i64 0]) ∧ Kept w w' ∧ Clock w.heap.size (newK node time drift rest) w' := by
  unfold mayNew at h
  obtain ⟨g1, g2, g3, g4⟩ := h
  cases rest
  · go_enter Try.func12, Try.ntmps12
    go_wp2_with fail
    go_ret2
    exact ⟨rfl, kept_alloc (kept_refl w) _, at_new w _ _⟩
  · go_enter Try.func12, Try.ntmps12
    go_wp2_with fail
    go_ret2
    exact ⟨rfl, kept_alloc (kept_refl w) _, at_new w _ _⟩
end Go.Proofs.Ytlhceekjhhdbeaa
