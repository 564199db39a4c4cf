/- The contract of the reference's See. Its fields are as they can be. -/
import Derived.Test.YtlhceekjhhdbeaaRef
namespace Go.Proofs.Ytlhceekjhhdbeaa
open Go.ChangeShapes Go.WideShapes Go.ChangeAt Go.RowKit
set_option linter.unusedVariables false
set_option linter.unusedSimpArgs false

theorem refSee_bad (k : Clk) (hk : k.ok) (rest : Bool) (g : Int) (s : Stp) (h1 : k.time + k.drift < s.p ∨ 64 ≤ s.n) (w : World) :
    Calls Try.prog 17 #[.agg #[.int .u8 k.node, .int .u64 k.time, .int .u64 k.drift, .bool rest, .int .u64 g, .int .u64 k.last.p, .int .u32 k.last.l, .int .u8 k.last.n], .agg #[.int .u64 s.p, .int .u32 s.l, .int .u8 s.n]] w fun e w' => e = .returned (.tuple #[.int .i64 9, .agg #[.int .u8 k.node, .int .u64 k.time, .int .u64 k.drift, .bool rest, .int .u64 g, .int .u64 k.last.p, .int .u32 k.last.l, .int .u8 k.last.n]]) ∧ Kept w w' := by
  have hz := zero35
  have b1 : 0 ≤ k.time := hk.2.2.1
  have b2 : k.time ≤ 281474976710655 := hk.2.2.2.1
  have b3 : 0 ≤ k.drift := hk.2.2.2.2.1
  have b4 : k.drift ≤ 1000 := hk.2.2.2.2.2.1
  clear hk
  by_cases h2 : 63 < s.n
  · clear h1
    go_enter Try.func17, Try.ntmps17
    go_wp2_with fail
    go_region
    all_goals go_wp2_with fail
    all_goals exact bodyPost_ret (v := .tuple #[.int .i64 9, .agg #[.int .u8 k.node, .int .u64 k.time, .int .u64 k.drift, .bool rest, .int .u64 g, .int .u64 k.last.p, .int .u32 k.last.l, .int .u8 k.last.n]]) (by simp [results, Try.results17, go_sem]) rfl ⟨rfl, kept_drew (kept_alloc (kept_alloc (kept_alloc (kept_refl w) _) _) _)⟩
  · have h3 : k.time + k.drift < s.p := by omega
    have h2' : decide (63 < s.n) = false := by simpa using h2
    clear h1 h2
    go_enter Try.func17, Try.ntmps17
    go_wp2_with fail
    go_region
    all_goals go_wp2_with fail
    all_goals exact bodyPost_ret (v := .tuple #[.int .i64 9, .agg #[.int .u8 k.node, .int .u64 k.time, .int .u64 k.drift, .bool rest, .int .u64 g, .int .u64 k.last.p, .int .u32 k.last.l, .int .u8 k.last.n]]) (by simp [results, Try.results17, go_sem]) rfl ⟨rfl, kept_drew (kept_alloc (kept_alloc (kept_alloc (kept_refl w) _) _) _)⟩
theorem less_exact (a b : Stp) (w : World) :
    Calls Try.prog 23 #[.agg #[.int .u64 a.p, .int .u32 a.l, .int .u8 a.n], .agg #[.int .u64 b.p, .int .u32 b.l, .int .u8 b.n]] w fun e w' => e = .returned (.bool (lt a b)) ∧ w' = (w.alloc (.cells #[.int .u64 a.p, .int .u32 a.l, .int .u8 a.n] 25)).alloc (.cells #[.int .u64 b.p, .int .u32 b.l, .int .u8 b.n] 25) := by
  by_cases h1 : a.p = b.p
  · by_cases h2 : a.l = b.l
    · have g1 : (a.p != b.p) = false := by simpa using h1
      have g2 : (a.l != b.l) = false := by simpa using h2
      have H : Hid (decide (a.n < b.n) = lt a b) := lt_third h1 h2
      clear h1 h2
      go_enter Try.func23, Try.ntmps23
      go_wp2
      go_ret
      exact ⟨ret_bool H.out, rfl⟩
    · have g1 : (a.p != b.p) = false := by simpa using h1
      have g2 : (a.l != b.l) = true := by simpa using h2
      have H : Hid (decide (a.l < b.l) = lt a b) := lt_second h1 h2
      clear h1 h2
      go_enter Try.func23, Try.ntmps23
      go_wp2
      go_ret
      exact ⟨ret_bool H.out, rfl⟩
  · have g1 : (a.p != b.p) = true := by simpa using h1
    have H : Hid (decide (a.p < b.p) = lt a b) := lt_first h1
    clear h1
    go_enter Try.func23, Try.ntmps23
    go_wp2
    go_ret
    exact ⟨ret_bool H.out, rfl⟩
theorem refSee_good (k : Clk) (hk : k.ok) (rest : Bool) (g : Int) (s : Stp) (h1 : ¬ (k.time + k.drift < s.p ∨ 64 ≤ s.n)) (t : Stp) (ht : t = if lt k.last s = true then s else k.last) (w : World) :
    Calls Try.prog 17 #[.agg #[.int .u8 k.node, .int .u64 k.time, .int .u64 k.drift, .bool rest, .int .u64 g, .int .u64 k.last.p, .int .u32 k.last.l, .int .u8 k.last.n], .agg #[.int .u64 s.p, .int .u32 s.l, .int .u8 s.n]] w fun e w' => e = .returned (.tuple #[.int .i64 0, .agg #[.int .u8 k.node, .int .u64 k.time, .int .u64 k.drift, .bool rest, .int .u64 g, .int .u64 t.p, .int .u32 t.l, .int .u8 t.n]]) ∧ Kept w w' := by
  have hz := zero35
  have b1 : 0 ≤ k.time := hk.2.2.1
  have b2 : k.time ≤ 281474976710655 := hk.2.2.2.1
  have b3 : 0 ≤ k.drift := hk.2.2.2.2.1
  have b4 : k.drift ≤ 1000 := hk.2.2.2.2.2.1
  have h2 : decide (63 < s.n) = false := by simp; omega
  have h3 : decide (k.time + k.drift < s.p) = false := by simp; omega
  clear hk h1
  by_cases hl : lt k.last s = true
  · have e : t = s := by rw [ht, if_pos hl]
    subst e
    clear ht
    go_enter Try.func17, Try.ntmps17
    go_wp2_with fail
    refine (less_exact k.last t _).mono ?_
    rintro e w1 ⟨rfl, rfl⟩
    go_wp2_with fail
    go_region
    all_goals go_wp2_with fail
    all_goals exact bodyPost_ret (v := .tuple #[.int .i64 0, .agg #[.int .u8 k.node, .int .u64 k.time, .int .u64 k.drift, .bool rest, .int .u64 g, .int .u64 t.p, .int .u32 t.l, .int .u8 t.n]]) (by simp [results, Try.results17, go_sem]) rfl ⟨rfl, kept_drew (kept_alloc (kept_alloc (kept_alloc (kept_alloc (kept_alloc (kept_refl w) _) _) _) _) _)⟩
  · have e : t = k.last := by rw [ht, if_neg hl]
    subst e
    have hl' : lt k.last s = false := by simpa using hl
    clear ht hl
    go_enter Try.func17, Try.ntmps17
    go_wp2_with fail
    refine (less_exact k.last s _).mono ?_
    rintro e w1 ⟨rfl, rfl⟩
    go_wp2_with fail
    go_region
    all_goals go_wp2_with fail
    all_goals exact bodyPost_ret (v := .tuple #[.int .i64 0, .agg #[.int .u8 k.node, .int .u64 k.time, .int .u64 k.drift, .bool rest, .int .u64 g, .int .u64 k.last.p, .int .u32 k.last.l, .int .u8 k.last.n]]) (by simp [results, Try.results17, go_sem]) rfl ⟨rfl, kept_drew (kept_alloc (kept_alloc (kept_alloc (kept_alloc (kept_alloc (kept_refl w) _) _) _) _) _)⟩
theorem refSee_any (k : Clk) (hk : k.ok) (rest : Bool) (g : Int) (s : Stp) (w : World) :
    Calls Try.prog 17 #[.agg #[.int .u8 k.node, .int .u64 k.time, .int .u64 k.drift, .bool rest, .int .u64 g, .int .u64 k.last.p, .int .u32 k.last.l, .int .u8 k.last.n], .agg #[.int .u64 s.p, .int .u32 s.l, .int .u8 s.n]] w fun e w' => e = .returned (.tuple #[.int .i64 (seeK k s).1, .agg #[.int .u8 (seeK k s).2.node, .int .u64 (seeK k s).2.time, .int .u64 (seeK k s).2.drift, .bool rest, .int .u64 g, .int .u64 (seeK k s).2.last.p, .int .u32 (seeK k s).2.last.l, .int .u8 (seeK k s).2.last.n]]) ∧ Kept w w' := by
  by_cases h1 : k.time + k.drift < s.p ∨ 64 ≤ s.n
  · have e : seeK k s = (9, k) := by unfold seeK; rw [if_pos h1]
    rw [e]
    exact refSee_bad k hk rest g s h1 w
  · have e : seeK k s = (0, if lt k.last s = true then { k with last := s } else k) := by unfold seeK; rw [if_neg h1]
    rw [e]
    have := refSee_good k hk rest g s h1 _ rfl w
    by_cases hl : lt k.last s = true
    · rw [if_pos hl] at this ⊢
      exact this
    · rw [if_neg hl] at this ⊢
      exact this
end Go.Proofs.Ytlhceekjhhdbeaa
