/- The walk of the statement CmdParses: true, and nothing that was there is turned. No condition. -/
import Derived.Test.YtcbmjbldhbgipaaRefParse
import Derived.Test.YtcbmjbldhbgipaaOpen
namespace Go.Proofs.Ytcbmjbldhbgipaa
open Go.ChangeShapes Go.WideShapes Go.ChangeAt Go.RowKit
set_option linter.unusedVariables false
set_option linter.unusedSimpArgs false

theorem parse_sixteen (W : List ByteArray) : (parseC W).1.keys.length ≤ 4294967297 := by
  rcases parse_class W with ⟨r, _, h, _⟩ | ⟨K, fl, ex, qu, h, _, _, hK⟩ | ⟨ck, K, fl, ex, qu, h, _, _, _, _, hK⟩
  · rw [h]; exact Nat.zero_le _
  · rw [h]; exact Nat.le_trans hK.2 (by omega)
  · rw [h]; exact Nat.le_trans hK.2 (by omega)
set_option maxHeartbeats 1600000 in
set_option maxRecDepth 100000 in
theorem parses_short (s : ByteArray) (hs : s.size ≤ 5000) (w : World) : Calls Try.prog 3 #[.string s] w fun e w' => e = .returned (.bool true) ∧ Kept w w' := by
  have hz := zero26
  have h5 : ¬ (5000 : Int) < (s.size : Int) := by omega
  have HP : Hid (∀ w, _) := fun w => Parse_any s (by omega) w
  have HQ : Hid (∀ w, PC s w (parseC (words s)).1 (parseC (words s)).2) := fun w => RefParse_any s hs w
  have HC := hid (parse_sixteen (words s))
  generalize parseC (words s) = cn at *
  obtain ⟨c, n⟩ := cn
  simp only [PC] at HP HQ HC
  clear hs
  go_enter Try.func3, Try.ntmps3
  go_wp2_with fail
  refine (HP.out _).mono ?_
  rintro e w1 ⟨kv, rfl, hks, hk1⟩
  obtain ⟨a1, m1, c1, rfl⟩ := keys_slice hks
  have S1 := hid (keys_kept hks (kept_alloc (kept_refl w1) (.cells #[.int .i64 c.kind, .slice a1 m1 c1, .int .u32 c.flags, .int .i64 c.exp, .string ⟨#[]⟩, .bool c.quiet, .string c.reply] 26)))
  have K4 := hid (kept_alloc hk1 (.cells #[.int .i64 c.kind, .slice a1 m1 c1, .int .u32 c.flags, .int .i64 c.exp, .string ⟨#[]⟩, .bool c.quiet, .string c.reply] 26))
  have A1 := hid (at_new w1 #[.int .i64 c.kind, .slice a1 m1 c1, .int .u32 c.flags, .int .i64 c.exp, .string ⟨#[]⟩, .bool c.quiet, .string c.reply] 26)
  clear hks hk1
  go_wp2_with fail
  generalize w1.alloc (.cells #[.int .i64 c.kind, .slice a1 m1 c1, .int .u32 c.flags, .int .i64 c.exp, .string ⟨#[]⟩, .bool c.quiet, .string c.reply] 26) = v1 at *
  generalize w1.heap.size = X1 at *
  refine (HQ.out _).mono ?_
  rintro e w2 ⟨kv, rfl, hks, hk1⟩
  obtain ⟨a2, m2, c2, rfl⟩ := keys_slice hks
  have T1 := hid (kept_alloc hk1 (.cells #[.int .i64 c.kind, .slice a2 m2 c2, .int .u32 c.flags, .int .i64 c.exp, .string ⟨#[]⟩, .bool c.quiet, .string c.reply] 26))
  have S2 := hid (keys_kept hks (kept_alloc (kept_refl w2) (.cells #[.int .i64 c.kind, .slice a2 m2 c2, .int .u32 c.flags, .int .i64 c.exp, .string ⟨#[]⟩, .bool c.quiet, .string c.reply] 26)))
  have A2 := hid (at_new w2 #[.int .i64 c.kind, .slice a2 m2 c2, .int .u32 c.flags, .int .i64 c.exp, .string ⟨#[]⟩, .bool c.quiet, .string c.reply] 26)
  clear hks hk1
  go_wp2_with fail
  generalize w2.alloc (.cells #[.int .i64 c.kind, .slice a2 m2 c2, .int .u32 c.flags, .int .i64 c.exp, .string ⟨#[]⟩, .bool c.quiet, .string c.reply] 26) = v2 at *
  generalize w2.heap.size = X2 at *
  refine (fixed_any _).mono ?_
  rintro e w3 ⟨rfl, hk3⟩
  have T2 := hid (kept_trans T1.out hk3)
  obtain ⟨q0, q1, q2, q3, q4, q5, q6, -⟩ := at_cells7 (at_kept A1.out (kept_trans T1.out hk3))
  obtain ⟨r0, r1, r2, r3, r4, r5, r6, -⟩ := at_cells7 (at_kept A2.out hk3)
  have S2' := hid (keys_kept S2.out hk3)
  have S1' := hid (keys_kept S1.out (kept_trans T1.out hk3))
  clear hk3
  go_wp2_with fail
  refine (same_any c HC.out _ _ _ S1'.out S2'.out).mono ?_
  rintro e w4 ⟨rfl, hk4⟩
  have K6 := hid (kept_trans K4.out (kept_trans T2.out hk4))
  clear hk4 q0 q1 q2 q3 q4 q5 q6 r0 r1 r2 r3 r4 r5 r6
  go_wp2_with fail
  go_ret
  exact ⟨rfl, K6.out⟩
theorem parses_law (s : ByteArray) (w : World) (hm : s.size ≤ maxLen) : Calls Try.prog 3 #[.string s] w fun e w' => e = .returned (.bool true) ∧ Kept w w' := by
  by_cases h : (5000 : Int) < (s.size : Int)
  · clear hm
    go_enter Try.func3, Try.ntmps3
    go_wp2_with fail
    refine (fixed_any _).mono ?_
    rintro e w3 ⟨rfl, hk3⟩
    go_wp2_with fail
    go_ret
    exact ⟨rfl, hk3⟩
  · exact parses_short s (by omega) w
end Go.Proofs.Ytcbmjbldhbgipaa
