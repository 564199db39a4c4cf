/- Contract of the reference's GetText, and of the chapter's examples. They turn nothing that was there. The text has at most 2^47 bytes. -/
import Derived.Test.YtnkfhacmkimncaaNumText
namespace Go.Proofs.Ytnkfhacmkimncaa
open Go.ChangeShapes Go.WideShapes Go.ChangeAt Go.RowKit
set_option linter.unusedVariables false

set_option maxHeartbeats 1600000 in
set_option maxRecDepth 100000 in
theorem refGetText_any (s : ByteArray) (p most : Int) (hs : s.size ≤ 140737488355328) (hm : -9223372036854775808 ≤ most ∧ most ≤ 9223372036854775807) (w : World) : Calls Try.prog 46 #[.string s, .int .i64 p, .int .i64 most] w fun e w' => e = .returned (tripT (getT s p most)) ∧ Below w.heap.size w w' := by
  have hG := refGet_any s p hs
  obtain ⟨r, hr⟩ : ∃ r, r = getT s p most := ⟨_, rfl⟩
  rw [← hr]
  unfold getT at hr
  have HO : Hid (∀ n t, getN s p = (n, t, 0) → t ≤ s.size ∧ n < 4611686018427387904) := fun n t h => by
    obtain ⟨a, _, h2, _, h4, _⟩ := getN_ok s p n t h
    exact ⟨h4, h2⟩
  generalize getN s p = g at *
  obtain ⟨n, t, e⟩ := g
  simp only at hr
  unfold trip at hG
  by_cases he : e = 0
  · subst he
    rw [if_pos rfl] at hr
    obtain ⟨hts, hn⟩ := HO.out n t rfl
    clear HO
    have hti : (t : Int) ≤ (s.size : Int) := by omega
    by_cases h1 : most < 0
    · rw [if_pos (.inl h1)] at hr
      subst hr
      clear hn
      go_enter Try.func46, Try.ntmps46
      go_wp2_with (go_at_call 47; refine (hG _).mono ?_; rintro e w1 ⟨rfl, hb1⟩)
      go_ret3
      exact ⟨rfl, hb1⟩
    · have hmw : IntKind.u64.wrap most = most := by rw [IntKind.wrap_u64]; omega
      by_cases h2 : most < n
      · rw [if_pos (.inr h2)] at hr
        subst hr
        clear hn hm
        go_enter Try.func46, Try.ntmps46
        go_wp2_with (go_at_call 47; refine (hG _).mono ?_; rintro e w1 ⟨rfl, hb1⟩)
        go_ret3
        exact ⟨rfl, hb1⟩
      · rw [if_neg (by omega)] at hr
        have hsw : IntKind.u64.wrap ((s.size : Int) - (t : Int)) = (s.size : Int) - (t : Int) := by rw [IntKind.wrap_u64]; omega
        by_cases h3 : s.size - t < n
        · rw [if_pos h3] at hr
          subst hr
          have h3i : (s.size : Int) - (t : Int) < (n : Int) := by omega
          clear hn hm h3
          go_enter Try.func46, Try.ntmps46
          go_wp2_with (go_at_call 47; refine (hG _).mono ?_; rintro e w1 ⟨rfl, hb1⟩)
          go_ret3
          exact ⟨rfl, hb1⟩
        · rw [if_neg h3] at hr
          subst hr
          have hsl := slice_at s t n (by omega)
          generalize s.extract t (t + n) = T at *
          have h3i : ¬ (s.size : Int) - (t : Int) < (n : Int) := by omega
          have hnw : IntKind.i64.wrap (n : Int) = (n : Int) := by rw [IntKind.wrap_i64]; omega
          have htw : IntKind.i64.wrap ((t : Int) + (n : Int)) = (t : Int) + (n : Int) := by rw [IntKind.wrap_i64]; omega
          clear hn hm h3
          go_enter Try.func46, Try.ntmps46
          go_wp2_with (go_at_call 47; refine (hG _).mono ?_; rintro e w1 ⟨rfl, hb1⟩)
          go_ret3
          exact ⟨rfl, hb1⟩
  · rw [if_neg he] at hr
    subst hr
    have hei : ¬ (e : Int) = 0 := by omega
    clear HO he
    go_enter Try.func46, Try.ntmps46
    go_wp2_with (go_at_call 47; refine (hG _).mono ?_; rintro e w1 ⟨rfl, hb1⟩)
    go_ret3
    exact ⟨rfl, hb1⟩




end Go.Proofs.Ytnkfhacmkimncaa
