/- The laws on what is put and got, walked: each answers true and turns nothing that was there. Texts have at most as many bytes as a text may have. -/
import Derived.Test.YtkaplackdcbgiaaRefText
namespace Go.Proofs.Ytkaplackdcbgiaa
open Go.ChangeShapes Go.WideShapes Go.ChangeAt Go.RowKit
set_option linter.unusedVariables false

theorem wf_u64 {x : Int} (h : (Lit.int .u64 x).wf = true) : ∃ n : Nat, x = (n : Int) ∧ n < 18446744073709551616 := by
  have := bounds_u64 h
  exact ⟨x.toNat, by omega, by omega⟩
theorem step {W w w' : World} (h : Below W.heap.size W w) (g : Below w.heap.size w w') : Below W.heap.size W w' := h.trans (g.mono h.size)
theorem fixed_in (W w : World) (h : Below W.heap.size W w) : Calls Try.prog 9 #[] w fun e w' => e = .returned (.bool true) ∧ Below W.heap.size W w' :=
  (fixed_any w).mono fun _ _ ⟨he, hb⟩ => ⟨he, step h hb⟩
theorem Put_in (n : Nat) (hn : n < 18446744073709551616) (W w : World) (h : Below W.heap.size W w) : Calls Try.prog 10 #[.int .u64 (n : Int)] w fun e w' => e = .returned (.tuple #[.string (putE n).1, .int .i64 ((putE n).2 : Int)]) ∧ Below W.heap.size W w' :=
  (Put_any n hn w).mono fun _ _ ⟨he, hb⟩ => ⟨he, step h hb⟩
theorem refPut_in (n : Nat) (hn : n < 18446744073709551616) (W w : World) (h : Below W.heap.size W w) : Calls Try.prog 11 #[.int .u64 (n : Int)] w fun e w' => e = .returned (.tuple #[.string (putE n).1, .int .i64 ((putE n).2 : Int)]) ∧ Below W.heap.size W w' :=
  (refPut_any n hn w).mono fun _ _ ⟨he, hb⟩ => ⟨he, step h hb⟩
theorem Get_in (s : ByteArray) (p : Int) (hs : s.size ≤ 140737488355328) (W w : World) (h : Below W.heap.size W w) : Calls Try.prog 12 #[.string s, .int .i64 p] w fun e w' => e = .returned (trip (getN s p)) ∧ Below W.heap.size W w' :=
  (Get_any s p hs w).mono fun _ _ ⟨he, hb⟩ => ⟨he, hb ▸ h⟩
theorem refGet_in (s : ByteArray) (p : Int) (hs : s.size ≤ 140737488355328) (W w : World) (h : Below W.heap.size W w) : Calls Try.prog 13 #[.string s, .int .i64 p] w fun e w' => e = .returned (trip (getN s p)) ∧ Below W.heap.size W w' :=
  (refGet_any s p hs w).mono fun _ _ ⟨he, hb⟩ => ⟨he, step h hb⟩
theorem GetText_in (s : ByteArray) (p most : Int) (hs : s.size ≤ 140737488355328) (hm : -9223372036854775808 ≤ most ∧ most ≤ 9223372036854775807) (W w : World) (h : Below W.heap.size W w) : Calls Try.prog 14 #[.string s, .int .i64 p, .int .i64 most] w fun e w' => e = .returned (tripT (getT s p most)) ∧ Below W.heap.size W w' :=
  (GetText_any s p most hs hm w).mono fun _ _ ⟨he, hb⟩ => ⟨he, step h hb⟩
theorem refGetText_in (s : ByteArray) (p most : Int) (hs : s.size ≤ 140737488355328) (hm : -9223372036854775808 ≤ most ∧ most ≤ 9223372036854775807) (W w : World) (h : Below W.heap.size W w) : Calls Try.prog 15 #[.string s, .int .i64 p, .int .i64 most] w fun e w' => e = .returned (tripT (getT s p most)) ∧ Below W.heap.size W w' :=
  (refGetText_any s p most hs hm w).mono fun _ _ ⟨he, hb⟩ => ⟨he, step h hb⟩
theorem PutText_in (t : ByteArray) (ht : t.size ≤ 140737488355328) (W w : World) (h : Below W.heap.size W w) : Calls Try.prog 16 #[.string t] w fun e w' => e = .returned (.string (textE t)) ∧ Below W.heap.size W w' :=
  (PutText_any t ht w).mono fun _ _ ⟨he, hb⟩ => ⟨he, step h hb⟩
theorem refText_in (t : ByteArray) (ht : t.size ≤ 140737488355328) (W w : World) (h : Below W.heap.size W w) : Calls Try.prog 17 #[.string t] w fun e w' => e = .returned (.string (textE t)) ∧ Below W.heap.size W w' :=
  (refText_any t ht w).mono fun _ _ ⟨he, hb⟩ => ⟨he, step h hb⟩

set_option maxRecDepth 100000 in
set_option maxHeartbeats 1600000 in
theorem gets_walk (s : ByteArray) (p : Int) (hs : s.size ≤ maxLen) (hp : (Lit.int .i64 p).wf = true) (w : World) :
    Calls Try.prog 4 #[.string s, .int .i64 p] w fun e w' => e = .returned (.bool true) ∧ Kept w w' := by
  have H0 : Below w.heap.size w w := Below.refl _ _
  clear hs hp
  by_cases h : (5000 : Int) < (s.size : Int)
  · have hF := fun w1 => fixed_in w w1
    go_enter Try.func4, Try.ntmps4
    go_wp2_with (go_at_call 9; refine (hF _ (by assumption)).mono ?_; rintro e w1 ⟨rfl, H1⟩)
    go_ret
    exact ⟨rfl, kept_below H1⟩
  · have hF := fun w1 => fixed_in w w1
    have hG := fun w1 => Get_in s p (by omega) w w1
    have hR := fun w1 => refGet_in s p (by omega) w w1
    unfold trip at hG hR
    generalize getN s p = g at *
    obtain ⟨n, t, e⟩ := g
    go_enter Try.func4, Try.ntmps4
    go_wp2_with (first
      | (go_at_call 9; refine (hF _ (by assumption)).mono ?_; rintro e w1 ⟨rfl, H1⟩)
      | (go_at_call 12; refine (hG _ (by assumption)).mono ?_; rintro e w1 ⟨rfl, H1⟩)
      | (go_at_call 13; refine (hR _ (by assumption)).mono ?_; rintro e w1 ⟨rfl, H1⟩))
    go_ret
    exact ⟨by simp, kept_below H1⟩
set_option maxRecDepth 100000 in
set_option maxHeartbeats 1600000 in
theorem texts_walk (s : ByteArray) (p most : Int) (hs : s.size ≤ maxLen) (hp : (Lit.int .i64 p).wf = true) (hm : (Lit.int .i64 most).wf = true) (w : World) :
    Calls Try.prog 5 #[.string s, .int .i64 p, .int .i64 most] w fun e w' => e = .returned (.bool true) ∧ Kept w w' := by
  have H0 : Below w.heap.size w w := Below.refl _ _
  have hmb := bounds_i64 hm
  clear hs hp hm
  have hF := fun w1 => fixed_in w w1
  by_cases h : (5000 : Int) < (s.size : Int)
  · clear hmb
    go_enter Try.func5, Try.ntmps5
    go_wp2_with (go_at_call 9; refine (hF _ (by assumption)).mono ?_; rintro e w1 ⟨rfl, H1⟩)
    go_ret
    exact ⟨rfl, kept_below H1⟩
  · have hG := fun w1 => GetText_in s p most (by omega) (by omega) w w1
    have hR := fun w1 => refGetText_in s p most (by omega) (by omega) w w1
    have hT := fun w1 => PutText_in s (by omega) w w1
    have hU := fun w1 => refText_in s (by omega) w w1
    unfold tripT at hG hR
    generalize getT s p most = g at *
    obtain ⟨n, t, e⟩ := g
    generalize textE s = E at *
    clear hmb
    go_enter Try.func5, Try.ntmps5
    go_wp2_with (first
      | (go_at_call 9; refine (hF _ (by assumption)).mono ?_; rintro e w1 ⟨rfl, H1⟩)
      | (go_at_call 14; refine (hG _ (by assumption)).mono ?_; rintro e w1 ⟨rfl, H1⟩)
      | (go_at_call 15; refine (hR _ (by assumption)).mono ?_; rintro e w1 ⟨rfl, H1⟩)
      | (go_at_call 16; refine (hT _ (by assumption)).mono ?_; rintro e w1 ⟨rfl, H1⟩)
      | (go_at_call 17; refine (hU _ (by assumption)).mono ?_; rintro e w1 ⟨rfl, H1⟩))
    go_ret
    exact ⟨by simp, kept_below H1⟩
set_option maxRecDepth 100000 in
set_option maxHeartbeats 1600000 in
theorem puts_walk (n : Int) (A B : ByteArray) (hwf : (Lit.int .u64 n).wf = true) (hA : A.size ≤ maxLen) (hB : B.size ≤ maxLen) (w : World) :
    Calls Try.prog 3 #[.int .u64 n, .string A, .string B] w fun e w' => e = .returned (.bool true) ∧ Kept w w' := by
  obtain ⟨n, rfl, hn⟩ := wf_u64 hwf
  clear hwf
  have H0 : Below w.heap.size w w := Below.refl _ _
  clear hA hB
  have hF := fun w1 => fixed_in w w1
  by_cases h : (1000 : Int) < (A.size : Int)
  · clear hn
    go_enter Try.func3, Try.ntmps3
    go_wp2_with (go_at_call 9; refine (hF _ (by assumption)).mono ?_; rintro e w1 ⟨rfl, H1⟩)
    go_ret
    exact ⟨rfl, kept_below H1⟩
  · by_cases h2 : (1000 : Int) < (B.size : Int)
    · clear hn
      go_enter Try.func3, Try.ntmps3
      go_wp2_with (go_at_call 9; refine (hF _ (by assumption)).mono ?_; rintro e w1 ⟨rfl, H1⟩)
      go_ret
      exact ⟨rfl, kept_below H1⟩
    · have hP := fun w1 => Put_in n hn w w1
      have hR := fun w1 => refPut_in n hn w w1
      by_cases h3 : n < 4611686018427387904
      · have e : putE n = (⟨(enc n).toArray⟩, 0) := by unfold putE; rw [if_pos h3]
        rw [e] at hP hR
        have hg := getN_put A B n h3
        have hEs : (⟨(enc n).toArray⟩ : ByteArray).size = wide (kindOf n) := enc_length n
        rw [← hEs] at hg
        have hE8 : (⟨(enc n).toArray⟩ : ByteArray).size ≤ 8 := by rw [hEs]; exact (wide_pos _).2
        clear hEs e hn h3
        generalize (⟨(enc n).toArray⟩ : ByteArray) = E at *
        have hG := fun w1 => Get_in (A ++ E ++ B) A.size (by simp [ByteArray.size_append]; omega) w w1
        rw [hg] at hG
        unfold trip at hG
        go_enter Try.func3, Try.ntmps3
        go_wp2_with (first
          | (go_at_call 9; refine (hF _ (by assumption)).mono ?_; rintro e w1 ⟨rfl, H1⟩)
          | (go_at_call 10; refine (hP _ (by assumption)).mono ?_; rintro e w1 ⟨rfl, H1⟩)
          | (go_at_call 11; refine (hR _ (by assumption)).mono ?_; rintro e w1 ⟨rfl, H1⟩)
          | (go_at_call 12; refine (hG _ (by assumption)).mono ?_; rintro e w1 ⟨rfl, H1⟩))
        go_ret
        exact ⟨by simp, kept_below H1⟩
      · have e : putE n = (⟨#[]⟩, 4) := by unfold putE; rw [if_neg h3]
        rw [e] at hP hR
        clear hn h3
        go_enter Try.func3, Try.ntmps3
        go_wp2_with (first
          | (go_at_call 9; refine (hF _ (by assumption)).mono ?_; rintro e w1 ⟨rfl, H1⟩)
          | (go_at_call 10; refine (hP _ (by assumption)).mono ?_; rintro e w1 ⟨rfl, H1⟩)
          | (go_at_call 11; refine (hR _ (by assumption)).mono ?_; rintro e w1 ⟨rfl, H1⟩))
        go_ret
        exact ⟨by simp, kept_below H1⟩
end Go.Proofs.Ytkaplackdcbgiaa
