/- The laws that what is got is just what is put, and that texts come back, walked: each answers true and turns nothing that was there. Texts have at most as many bytes as a text may have. -/
import Derived.Test.YtkaplackdcbgiaaLaws
import Derived.Deep.RegionHeld3
import Derived.Deep.QuietTactic
import Derived.BigQuiet
namespace Go.Proofs.Ytkaplackdcbgiaa
open Go.ChangeShapes Go.WideShapes Go.ChangeAt Go.RowKit
set_option linter.unusedVariables false

theorem extract_join (s : ByteArray) (a t u : Nat) (h1 : a ≤ t) (h2 : t ≤ u) : s.extract a u = s.extract a t ++ s.extract t u := by
  apply bytes_ext
  rw [ByteArray.data_append, Array.toList_append, extract_list, extract_list, extract_list]
  rw [show u - a = (t - a) + (u - t) by omega, List.take_add, List.drop_drop, show a + (t - a) = t by omega]
theorem textE_size (t : ByteArray) : (textE t).size = wide (kindOf t.size) + t.size := by
  unfold textE
  rw [ByteArray.size_append]
  congr 1
  exact enc_length _
theorem getT_ok (s : ByteArray) (p most : Int) (T : ByteArray) (u : Nat) (h : getT s p most = (T, u, 0)) : ∃ a : Nat, p = a ∧ a ≤ u ∧ u ≤ s.size ∧ T.size ≤ s.size ∧ s.extract a u = textE T := by
  unfold getT at h
  split at h
  · rename_i h0
    generalize hg : getN s p = g at h h0
    obtain ⟨n, t, e⟩ := g
    simp only at h h0
    subst h0
    obtain ⟨a, h1, h2, h3, h4, h5⟩ := getN_ok s p n t hg
    split at h
    · simp at h
    · split at h
      · simp at h
      · rename_i hA hB
        simp only [Prod.mk.injEq] at h
        obtain ⟨rfl, rfl, _⟩ := h
        refine ⟨a, h1, by omega, by omega, by simp; omega, ?_⟩
        have hs : (s.extract t (t + n)).size = n := by simp; omega
        rw [extract_join s a t (t + n) (by omega) (by omega), h5, textE, hs]
  · rename_i h0
    simp only [Prod.mk.injEq] at h
    omega
theorem getT_put (A t B : ByteArray) (most : Int) (ht : t.size < 4611686018427387904) : getT (A ++ textE t ++ B) (A.size : Int) most = if most < (t.size : Int) then (⟨#[]⟩, 0, 4) else (t, A.size + (textE t).size, 0) := by
  have e : A ++ textE t ++ B = A ++ ⟨(enc t.size).toArray⟩ ++ (t ++ B) := by
    apply bytes_ext
    simp [textE]
  have hg := getN_put A (t ++ B) t.size ht
  rw [← e] at hg
  unfold getT
  rw [hg]
  simp only
  rw [if_pos trivial]
  by_cases h : most < (t.size : Int)
  · rw [if_pos (.inr h), if_pos h]
  · have hs := textE_size t
    have hz : (A ++ textE t ++ B).size = A.size + (textE t).size + B.size := by simp [ByteArray.size_append]
    rw [if_neg (by omega), if_neg (by omega), if_neg h]
    have hx : (A ++ textE t ++ B).extract (A.size + wide (kindOf t.size)) (A.size + wide (kindOf t.size) + t.size) = t := by
      apply bytes_ext
      rw [extract_list, Nat.add_sub_cancel_left]
      have hd : (A ++ textE t ++ B).data.toList = (A.data.toList ++ enc t.size) ++ (t.data.toList ++ B.data.toList) := by
        simp [textE]
      have hl : (A.data.toList ++ enc t.size).length = A.size + wide (kindOf t.size) := by
        rw [List.length_append, enc_length]; rfl
      rw [hd, ← hl, List.drop_left]
      exact List.take_left' rfl
    rw [hx, hs]
    simp
    omega
set_option maxRecDepth 100000 in
set_option maxHeartbeats 1600000 in
theorem back_walk (t A B : ByteArray) (most : Int) (ht : t.size ≤ maxLen) (hA : A.size ≤ maxLen) (hB : B.size ≤ maxLen) (hm : (Lit.int .i64 most).wf = true) (w : World) :
    Calls Try.prog 7 #[.string t, .string A, .string B, .int .i64 most] w fun e w' => e = .returned (.bool true) ∧ Kept w w' := by
  have H0 : Below w.heap.size w w := Below.refl _ _
  have hmb := bounds_i64 hm
  clear ht hA hB hm
  have hF := fun w1 => fixed_in w w1
  by_cases h : (5000 : Int) < (t.size : Int)
  · clear hmb
    go_enter Try.func7, Try.ntmps7
    go_wp2_with (go_at_call 9; refine (hF _ (by assumption)).mono ?_; rintro e w1 ⟨rfl, H1⟩)
    go_ret
    exact ⟨rfl, kept_below H1⟩
  by_cases h2 : (1000 : Int) < (A.size : Int)
  · clear hmb
    go_enter Try.func7, Try.ntmps7
    go_wp2_with (go_at_call 9; refine (hF _ (by assumption)).mono ?_; rintro e w1 ⟨rfl, H1⟩)
    go_ret
    exact ⟨rfl, kept_below H1⟩
  by_cases h3 : (1000 : Int) < (B.size : Int)
  · clear hmb
    go_enter Try.func7, Try.ntmps7
    go_wp2_with (go_at_call 9; refine (hF _ (by assumption)).mono ?_; rintro e w1 ⟨rfl, H1⟩)
    go_ret
    exact ⟨rfl, kept_below H1⟩
  have hT := fun w1 => PutText_in t (by omega) w w1
  have hg := getT_put A t B most (by omega)
  have hE8 : (textE t).size ≤ 8 + 5000 := by rw [textE_size]; have := wide_pos (kindOf t.size); omega
  generalize textE t = E at *
  have hG := fun w1 => GetText_in (A ++ E ++ B) A.size most (by simp [ByteArray.size_append]; omega) (by omega) w w1
  rw [hg] at hG
  unfold tripT at hG
  by_cases h4 : most < (t.size : Int)
  · rw [if_pos h4] at hG
    clear hmb hg
    go_enter Try.func7, Try.ntmps7
    go_wp2_with (first
      | (go_at_call 9; refine (hF _ (by assumption)).mono ?_; rintro e w1 ⟨rfl, H1⟩)
      | (go_at_call 14; refine (hG _ (by assumption)).mono ?_; rintro e w1 ⟨rfl, H1⟩)
      | (go_at_call 16; refine (hT _ (by assumption)).mono ?_; rintro e w1 ⟨rfl, H1⟩))
    go_ret
    exact ⟨by simp, kept_below H1⟩
  · rw [if_neg h4] at hG
    clear hmb hg
    go_enter Try.func7, Try.ntmps7
    go_wp2_with (first
      | (go_at_call 9; refine (hF _ (by assumption)).mono ?_; rintro e w1 ⟨rfl, H1⟩)
      | (go_at_call 14; refine (hG _ (by assumption)).mono ?_; rintro e w1 ⟨rfl, H1⟩)
      | (go_at_call 16; refine (hT _ (by assumption)).mono ?_; rintro e w1 ⟨rfl, H1⟩))
    go_ret
    exact ⟨by simp, kept_below H1⟩
set_option maxRecDepth 100000 in
set_option maxHeartbeats 3200000 in
theorem only_walk (s : ByteArray) (p : Int) (hs : s.size ≤ maxLen) (hp : (Lit.int .i64 p).wf = true) (w : World) :
    Calls Try.prog 6 #[.string s, .int .i64 p] w fun e w' => e = .returned (.bool true) ∧ Kept w w' := by
  have H0 : Below w.heap.size w w := Below.refl _ _
  clear hs hp
  have hF := fun w1 => fixed_in w w1
  by_cases h : (5000 : Int) < (s.size : Int)
  · go_enter Try.func6, Try.ntmps6
    go_wp2_with (go_at_call 9; refine (hF _ (by assumption)).mono ?_; rintro e w1 ⟨rfl, H1⟩)
    go_ret
    exact ⟨rfl, kept_below H1⟩
  have hG := fun w1 => Get_in s p (by omega) w w1
  have hT := fun w1 => GetText_in s p s.size (by omega) (by omega) w w1
  have HO := getN_ok s p
  have HE := getN_err s p
  have HT := getT_ok s p s.size
  unfold trip at hG
  unfold tripT at hT
  generalize getN s p = g at *
  generalize getT s p s.size = q at *
  obtain ⟨n, t, e⟩ := g
  obtain ⟨T, u, f⟩ := q
  simp only at hG hT
  by_cases hf : f = 0
  · obtain ⟨a, rfl, hau, hus, hTs, hx⟩ := HT T u (by rw [hf])
    subst hf
    clear HT
    have hU := fun w1 => PutText_in T (by omega) w w1
    have hsl2 : ∀ w1, (Instr.slice 9 (.string s) (some (.int .i64 (a : Int))) (some (.int .i64 (u : Int))) none).run Try.prog w1 = .ok (.string (textE T)) w1 := fun w1 => by
      have := slice_at s a (u - a) (by omega) w1
      rw [show (a : Int) + ((u - a : Nat) : Int) = (u : Int) by omega, show a + (u - a) = u by omega, hx] at this
      exact this
    by_cases he : e = 0
    · obtain ⟨a', ha', hn, ht, hts, hy⟩ := HO n t (by rw [he])
      have haa : a' = a := by omega
      subst haa
      subst he
      clear HO HE ha'
      have hP := fun w1 => Put_in n (by omega) w w1
      have e : putE n = (⟨(enc n).toArray⟩, 0) := by unfold putE; rw [if_pos hn]
      rw [e] at hP
      have hsl : ∀ w1, (Instr.slice 9 (.string s) (some (.int .i64 (a' : Int))) (some (.int .i64 (t : Int))) none).run Try.prog w1 = .ok (.string ⟨(enc n).toArray⟩) w1 := fun w1 => by
        have := slice_at s a' (t - a') (by omega) w1
        rw [show (a' : Int) + ((t - a' : Nat) : Int) = (t : Int) by omega, show a' + (t - a') = t by omega, hy] at this
        exact this
      have hti : ¬ (s.size : Int) < (t : Int) := by omega
      clear hy hx hn ht e
      generalize (⟨(enc n).toArray⟩ : ByteArray) = E at *
      generalize textE T = X at *
      go_enter Try.func6, Try.ntmps6
      go_wp2_with (first
        | (go_at_call 10; refine (hP _ (by assumption)).mono ?_; rintro e w1 ⟨rfl, H1⟩)
        | (go_at_call 12; refine (hG _ (by assumption)).mono ?_; rintro e w1 ⟨rfl, H1⟩)
        | (go_at_call 14; refine (hT _ (by assumption)).mono ?_; rintro e w1 ⟨rfl, H1⟩))
      have H2 : Below w.heap.size w w1.drew := H1.drew
      go_region_held3 (fun w' => Below w.heap.size w w') (assumption) (first | (go_at_call 16; refine (hU _ (by assumption)).mono ?_; rintro e w1 ⟨rfl, H1⟩))
      go_wp2_with (go_at_call 9; refine (hF _ (by assumption)).mono ?_; rintro e w1 ⟨rfl, H1⟩)
      go_ret
      exact ⟨rfl, kept_below H1⟩
    · have hei : ¬ (e : Int) = 0 := by omega
      clear HO HE he hx
      generalize textE T = X at *
      go_enter Try.func6, Try.ntmps6
      go_wp2_with (first
        | (go_at_call 12; refine (hG _ (by assumption)).mono ?_; rintro e w1 ⟨rfl, H1⟩)
        | (go_at_call 14; refine (hT _ (by assumption)).mono ?_; rintro e w1 ⟨rfl, H1⟩))
      have H2 : Below w.heap.size w w1.drew := H1.drew
      go_region_held3 (fun w' => Below w.heap.size w w') (assumption) (first | (go_at_call 16; refine (hU _ (by assumption)).mono ?_; rintro e w1 ⟨rfl, H1⟩))
      go_wp2_with (go_at_call 9; refine (hF _ (by assumption)).mono ?_; rintro e w1 ⟨rfl, H1⟩)
      go_ret
      exact ⟨rfl, kept_below H1⟩
  · have hfi : ((f : Int) == 0) = false := by simp; omega
    clear HT hf
    by_cases he : e = 0
    · obtain ⟨a', rfl, hn, ht, hts, hy⟩ := HO n t (by rw [he])
      subst he
      clear HO HE
      have hP := fun w1 => Put_in n (by omega) w w1
      have e : putE n = (⟨(enc n).toArray⟩, 0) := by unfold putE; rw [if_pos hn]
      rw [e] at hP
      have hsl : ∀ w1, (Instr.slice 9 (.string s) (some (.int .i64 (a' : Int))) (some (.int .i64 (t : Int))) none).run Try.prog w1 = .ok (.string ⟨(enc n).toArray⟩) w1 := fun w1 => by
        have := slice_at s a' (t - a') (by omega) w1
        rw [show (a' : Int) + ((t - a' : Nat) : Int) = (t : Int) by omega, show a' + (t - a') = t by omega, hy] at this
        exact this
      have hti : ¬ (s.size : Int) < (t : Int) := by omega
      clear hy hn ht e
      generalize (⟨(enc n).toArray⟩ : ByteArray) = E at *
      go_enter Try.func6, Try.ntmps6
      go_wp2_with (first
        | (go_at_call 10; refine (hP _ (by assumption)).mono ?_; rintro e w1 ⟨rfl, H1⟩)
        | (go_at_call 12; refine (hG _ (by assumption)).mono ?_; rintro e w1 ⟨rfl, H1⟩)
        | (go_at_call 14; refine (hT _ (by assumption)).mono ?_; rintro e w1 ⟨rfl, H1⟩))
      go_quiet (fail)
      have H3 : ∀ k, Below w.heap.size w (w1.drewN k) := fun k => ⟨H1.os, H1.tape, H1.output, H1.size, H1.block⟩
      go_wp2_with (go_at_call 9; refine (hF _ (by first | assumption | exact H3 _)).mono ?_; rintro e w1 ⟨rfl, H1⟩)
      go_ret
      exact ⟨rfl, kept_below H1⟩
    · have hei : ¬ (e : Int) = 0 := by omega
      clear HO HE he
      go_enter Try.func6, Try.ntmps6
      go_wp2_with (first
        | (go_at_call 12; refine (hG _ (by assumption)).mono ?_; rintro e w1 ⟨rfl, H1⟩)
        | (go_at_call 14; refine (hT _ (by assumption)).mono ?_; rintro e w1 ⟨rfl, H1⟩))
      go_quiet (fail)
      have H3 : ∀ k, Below w.heap.size w (w1.drewN k) := fun k => ⟨H1.os, H1.tape, H1.output, H1.size, H1.block⟩
      go_wp2_with (go_at_call 9; refine (hF _ (by first | assumption | exact H3 _)).mono ?_; rintro e w1 ⟨rfl, H1⟩)
      go_ret
      exact ⟨rfl, kept_below H1⟩
end Go.Proofs.Ytkaplackdcbgiaa
