/- The contracts of the reference's clock, which is handed on by value: it does what the plain clock does. Its fields are as they can be. -/
import Derived.Test.YtlhceekjhhdbeaaForward
namespace Go.Proofs.Ytlhceekjhhdbeaa
open Go.ChangeShapes Go.WideShapes Go.ChangeAt Go.RowKit
set_option linter.unusedVariables false
set_option linter.unusedSimpArgs false

/- It has to rest till behind the time g, or not. -/
def Rests (k : Clk) (rest : Bool) (g : Int) : Prop := k.wakes = (if rest = true then g + 1 else 0) ∧ 0 ≤ g
theorem refNew_good (node time drift : Int) (rest : Bool) (h : mayNew node time drift) (h1 : 0 ≤ node) (h2 : 0 ≤ time) (w : World) :
    Calls Try.prog 13 #[.int .u8 node, .int .u64 time, .int .i64 drift, .bool rest] w fun e w' => e = .returned (.tuple #[.agg #[.int .u8 node, .int .u64 time, .int .u64 drift, .bool rest, .int .u64 (time + drift), .int .u64 0, .int .u32 0, .int .u8 0], .int .i64 0]) ∧ Kept w w' := by
  have hz := zero35
  unfold mayNew at h
  obtain ⟨g1, g2, g3, g4⟩ := h
  have g1' : decide (63 < node) = false := by simp; omega
  go_enter Try.func13, Try.ntmps13
  go_wp2_with fail
  exact bodyPost_ret (v := .tuple #[.agg #[.int .u8 node, .int .u64 time, .int .u64 drift, .bool rest, .int .u64 (time + drift), .int .u64 0, .int .u32 0, .int .u8 0], .int .i64 0]) (by simp [results, Try.results13, go_sem]) rfl ⟨rfl, kept_alloc (kept_refl w) _⟩
theorem refPass_any (k : Clk) (hk : k.ok) (rest : Bool) (g n : Int) (hn : (Lit.int .i64 n).wf = true) (w : World) :
    Calls Try.prog 20 #[.agg #[.int .u8 k.node, .int .u64 k.time, .int .u64 k.drift, .bool rest, .int .u64 g, .int .u64 k.last.p, .int .u32 k.last.l, .int .u8 k.last.n], .int .i64 n] w fun e w' => e = .returned (.agg #[.int .u8 (passK k n).node, .int .u64 (passK k n).time, .int .u64 (passK k n).drift, .bool rest, .int .u64 g, .int .u64 (passK k n).last.p, .int .u32 (passK k n).last.l, .int .u8 (passK k n).last.n]) ∧ Kept w w' := by
  have hz := zero35
  have hb := bounds_i64 hn
  have k3 : 0 ≤ k.time := hk.2.2.1
  have k4 : k.time ≤ 281474976710655 := hk.2.2.2.1
  clear hn hk
  by_cases h1 : 0 < n
  · by_cases h2 : n < 281474976710655 - k.time
    · have e : passK k n = { k with time := k.time + n } := by unfold passK; rw [if_pos (by omega), if_pos (by omega)]
      rw [e]
      clear e
      go_enter Try.func20, Try.ntmps20
      go_wp2_with fail
      exact bodyPost_ret (v := .agg #[.int .u8 k.node, .int .u64 (k.time + n), .int .u64 k.drift, .bool rest, .int .u64 g, .int .u64 k.last.p, .int .u32 k.last.l, .int .u8 k.last.n]) (by simp [results, Try.results20, go_sem]) rfl ⟨rfl, kept_alloc (kept_alloc (kept_refl w) _) _⟩
    · have e : passK k n = { k with time := 281474976710655 } := by
        unfold passK; rw [if_pos (by omega)]
        by_cases h3 : k.time + n ≤ 281474976710655
        · rw [if_pos h3, show k.time + n = 281474976710655 by omega]
        · rw [if_neg h3]
      rw [e]
      clear e
      have e2 : k.time + (281474976710655 - k.time) = 281474976710655 := by omega
      go_enter Try.func20, Try.ntmps20
      go_wp2_with fail
      exact bodyPost_ret (v := .agg #[.int .u8 k.node, .int .u64 281474976710655, .int .u64 k.drift, .bool rest, .int .u64 g, .int .u64 k.last.p, .int .u32 k.last.l, .int .u8 k.last.n]) (by simp [results, Try.results20, go_sem]) rfl ⟨rfl, kept_alloc (kept_alloc (kept_refl w) _) _⟩
  · have e : passK k n = k := by unfold passK; rw [if_neg (by omega)]
    rw [e]
    clear e
    go_enter Try.func20, Try.ntmps20
    go_wp2_with fail
    exact bodyPost_ret (v := .agg #[.int .u8 k.node, .int .u64 k.time, .int .u64 k.drift, .bool rest, .int .u64 g, .int .u64 k.last.p, .int .u32 k.last.l, .int .u8 k.last.n]) (by simp [results, Try.results20, go_sem]) rfl ⟨rfl, kept_alloc (kept_alloc (kept_refl w) _) _⟩
theorem refNow_busy (k : Clk) (g : Int) (h1 : k.time ≤ g) (w : World) :
    Calls Try.prog 16 #[.agg #[.int .u8 k.node, .int .u64 k.time, .int .u64 k.drift, .bool true, .int .u64 g, .int .u64 k.last.p, .int .u32 k.last.l, .int .u8 k.last.n]] w fun e w' => e = .returned (.tuple #[.agg #[.int .u64 0, .int .u32 0, .int .u8 0], .int .i64 10, .agg #[.int .u8 k.node, .int .u64 k.time, .int .u64 k.drift, .bool true, .int .u64 g, .int .u64 k.last.p, .int .u32 k.last.l, .int .u8 k.last.n]]) ∧ Kept w w' := by
  have hz := zero35
  have hz25 := zero25
  go_enter Try.func16, Try.ntmps16
  go_wp2_with fail
  go_region
  all_goals go_wp2_with fail
  all_goals exact bodyPost_ret (v := .tuple #[.agg #[.int .u64 0, .int .u32 0, .int .u8 0], .int .i64 10, .agg #[.int .u8 k.node, .int .u64 k.time, .int .u64 k.drift, .bool true, .int .u64 g, .int .u64 k.last.p, .int .u32 k.last.l, .int .u8 k.last.n]]) (by simp [results, Try.results16, go_sem]) rfl ⟨rfl, kept_drew (kept_alloc (kept_alloc (kept_alloc (kept_refl w) _) _) _)⟩
theorem refNow_first (k : Clk) (rest : Bool) (g : Int) (h1 : (rest = true → g < k.time)) (h2 : k.last.p < k.time) (w : World) :
    Calls Try.prog 16 #[.agg #[.int .u8 k.node, .int .u64 k.time, .int .u64 k.drift, .bool rest, .int .u64 g, .int .u64 k.last.p, .int .u32 k.last.l, .int .u8 k.last.n]] w fun e w' => e = .returned (.tuple #[.agg #[.int .u64 k.time, .int .u32 0, .int .u8 k.node], .int .i64 0, .agg #[.int .u8 k.node, .int .u64 k.time, .int .u64 k.drift, .bool rest, .int .u64 g, .int .u64 k.time, .int .u32 0, .int .u8 k.node]]) ∧ Kept w w' := by
  have hz := zero35
  have hz25 := zero25
  cases rest with
  | true =>
    have h3 : decide (k.time ≤ g) = false := by have := h1 rfl; simp; omega
    clear h1
    go_enter Try.func16, Try.ntmps16
    go_wp2_with fail
    go_region
    all_goals go_wp2_with fail
    all_goals exact bodyPost_ret (v := .tuple #[.agg #[.int .u64 k.time, .int .u32 0, .int .u8 k.node], .int .i64 0, .agg #[.int .u8 k.node, .int .u64 k.time, .int .u64 k.drift, .bool true, .int .u64 g, .int .u64 k.time, .int .u32 0, .int .u8 k.node]]) (by simp [results, Try.results16, go_sem]) rfl ⟨rfl, kept_drew (kept_alloc (kept_alloc (kept_alloc (kept_refl w) _) _) _)⟩
  | false =>
    clear h1
    go_enter Try.func16, Try.ntmps16
    go_wp2_with fail
    go_region
    all_goals go_wp2_with fail
    all_goals exact bodyPost_ret (v := .tuple #[.agg #[.int .u64 k.time, .int .u32 0, .int .u8 k.node], .int .i64 0, .agg #[.int .u8 k.node, .int .u64 k.time, .int .u64 k.drift, .bool false, .int .u64 g, .int .u64 k.time, .int .u32 0, .int .u8 k.node]]) (by simp [results, Try.results16, go_sem]) rfl ⟨rfl, kept_drew (kept_alloc (kept_alloc (kept_alloc (kept_refl w) _) _) _)⟩
theorem refNow_full (k : Clk) (rest : Bool) (g : Int) (h1 : (rest = true → g < k.time)) (h2 : ¬ k.last.p < k.time) (h4 : k.last.l = 4294967295) (w : World) :
    Calls Try.prog 16 #[.agg #[.int .u8 k.node, .int .u64 k.time, .int .u64 k.drift, .bool rest, .int .u64 g, .int .u64 k.last.p, .int .u32 k.last.l, .int .u8 k.last.n]] w fun e w' => e = .returned (.tuple #[.agg #[.int .u64 0, .int .u32 0, .int .u8 0], .int .i64 6, .agg #[.int .u8 k.node, .int .u64 k.time, .int .u64 k.drift, .bool rest, .int .u64 g, .int .u64 k.last.p, .int .u32 k.last.l, .int .u8 k.last.n]]) ∧ Kept w w' := by
  have hz := zero35
  have hz25 := zero25
  have h2' : decide (k.last.p < k.time) = false := by simpa using h2
  rw [h4]
  clear h2
  cases rest with
  | true =>
    have h3 : decide (k.time ≤ g) = false := by have := h1 rfl; simp; omega
    clear h1 h4
    go_enter Try.func16, Try.ntmps16
    go_wp2_with fail
    go_region
    all_goals go_wp2_with fail
    all_goals exact bodyPost_ret (v := .tuple #[.agg #[.int .u64 0, .int .u32 0, .int .u8 0], .int .i64 6, .agg #[.int .u8 k.node, .int .u64 k.time, .int .u64 k.drift, .bool true, .int .u64 g, .int .u64 k.last.p, .int .u32 4294967295, .int .u8 k.last.n]]) (by simp [results, Try.results16, go_sem]) rfl ⟨rfl, kept_drew (kept_alloc (kept_alloc (kept_alloc (kept_refl w) _) _) _)⟩
  | false =>
    clear h1 h4
    go_enter Try.func16, Try.ntmps16
    go_wp2_with fail
    go_region
    all_goals go_wp2_with fail
    all_goals exact bodyPost_ret (v := .tuple #[.agg #[.int .u64 0, .int .u32 0, .int .u8 0], .int .i64 6, .agg #[.int .u8 k.node, .int .u64 k.time, .int .u64 k.drift, .bool false, .int .u64 g, .int .u64 k.last.p, .int .u32 4294967295, .int .u8 k.last.n]]) (by simp [results, Try.results16, go_sem]) rfl ⟨rfl, kept_drew (kept_alloc (kept_alloc (kept_alloc (kept_refl w) _) _) _)⟩
theorem refNow_next (k : Clk) (hk : k.ok) (rest : Bool) (g : Int) (h1 : (rest = true → g < k.time)) (h2 : ¬ k.last.p < k.time) (h4 : k.last.l ≠ 4294967295) (w : World) :
    Calls Try.prog 16 #[.agg #[.int .u8 k.node, .int .u64 k.time, .int .u64 k.drift, .bool rest, .int .u64 g, .int .u64 k.last.p, .int .u32 k.last.l, .int .u8 k.last.n]] w fun e w' => e = .returned (.tuple #[.agg #[.int .u64 k.last.p, .int .u32 (k.last.l + 1), .int .u8 k.node], .int .i64 0, .agg #[.int .u8 k.node, .int .u64 k.time, .int .u64 k.drift, .bool rest, .int .u64 g, .int .u64 k.last.p, .int .u32 (k.last.l + 1), .int .u8 k.node]]) ∧ Kept w w' := by
  have hz := zero35
  have hz25 := zero25
  have h2' : decide (k.last.p < k.time) = false := by simpa using h2
  have b1 : 0 ≤ k.last.l := hk.2.2.2.2.2.2.1.2.2.1
  have b2 : k.last.l < 4294967295 := by have := hk.2.2.2.2.2.2.1.2.2.2.1; omega
  have h4' : (k.last.l == 4294967295) = false := by simpa using h4
  clear h2 h4 hk
  cases rest with
  | true =>
    have h3 : decide (k.time ≤ g) = false := by have := h1 rfl; simp; omega
    clear h1
    go_enter Try.func16, Try.ntmps16
    go_wp2_with fail
    go_region
    all_goals go_wp2_with fail
    all_goals exact bodyPost_ret (v := .tuple #[.agg #[.int .u64 k.last.p, .int .u32 (k.last.l + 1), .int .u8 k.node], .int .i64 0, .agg #[.int .u8 k.node, .int .u64 k.time, .int .u64 k.drift, .bool true, .int .u64 g, .int .u64 k.last.p, .int .u32 (k.last.l + 1), .int .u8 k.node]]) (by simp [results, Try.results16, go_sem]) rfl ⟨rfl, kept_drew (kept_alloc (kept_alloc (kept_alloc (kept_refl w) _) _) _)⟩
  | false =>
    clear h1
    go_enter Try.func16, Try.ntmps16
    go_wp2_with fail
    go_region
    all_goals go_wp2_with fail
    all_goals exact bodyPost_ret (v := .tuple #[.agg #[.int .u64 k.last.p, .int .u32 (k.last.l + 1), .int .u8 k.node], .int .i64 0, .agg #[.int .u8 k.node, .int .u64 k.time, .int .u64 k.drift, .bool false, .int .u64 g, .int .u64 k.last.p, .int .u32 (k.last.l + 1), .int .u8 k.node]]) (by simp [results, Try.results16, go_sem]) rfl ⟨rfl, kept_drew (kept_alloc (kept_alloc (kept_alloc (kept_refl w) _) _) _)⟩
theorem refNow_any (k : Clk) (hk : k.ok) (rest : Bool) (g : Int) (hg : Rests k rest g) (w : World) :
    Calls Try.prog 16 #[.agg #[.int .u8 k.node, .int .u64 k.time, .int .u64 k.drift, .bool rest, .int .u64 g, .int .u64 k.last.p, .int .u32 k.last.l, .int .u8 k.last.n]] w fun e w' => e = .returned (.tuple #[.agg #[.int .u64 (nowK k).1.p, .int .u32 (nowK k).1.l, .int .u8 (nowK k).1.n], .int .i64 (nowK k).2.1, .agg #[.int .u8 (nowK k).2.2.node, .int .u64 (nowK k).2.2.time, .int .u64 (nowK k).2.2.drift, .bool rest, .int .u64 g, .int .u64 (nowK k).2.2.last.p, .int .u32 (nowK k).2.2.last.l, .int .u8 (nowK k).2.2.last.n]]) ∧ Kept w w' := by
  have hw := hg.1
  have t0 : 0 ≤ k.time := hk.2.2.1
  by_cases h1 : k.time < k.wakes
  · have e : nowK k = (zero, 10, k) := by unfold nowK; rw [if_pos h1]
    rw [e]
    cases rest with
    | true => exact refNow_busy k g (by rw [if_pos rfl] at hw; omega) w
    | false => rw [if_neg (by simp)] at hw; omega
  have h1' : rest = true → g < k.time := by
    rintro rfl
    rw [if_pos rfl] at hw
    omega
  by_cases h2 : k.last.p < k.time
  · have e : nowK k = (⟨k.time, 0, k.node⟩, 0, { k with last := ⟨k.time, 0, k.node⟩ }) := by unfold nowK; rw [if_neg h1, if_pos h2]
    rw [e]
    exact refNow_first k rest g h1' h2 w
  by_cases h3 : k.last.l = 4294967295
  · have e : nowK k = (zero, 6, k) := by unfold nowK; rw [if_neg h1, if_neg h2, if_pos h3]
    rw [e]
    exact refNow_full k rest g h1' h2 h3 w
  · have e : nowK k = (⟨k.last.p, k.last.l + 1, k.node⟩, 0, { k with last := ⟨k.last.p, k.last.l + 1, k.node⟩ }) := by unfold nowK; rw [if_neg h1, if_neg h2, if_neg h3]
    rw [e]
    exact refNow_next k hk rest g h1' h2 h3 w
end Go.Proofs.Ytlhceekjhhdbeaa
