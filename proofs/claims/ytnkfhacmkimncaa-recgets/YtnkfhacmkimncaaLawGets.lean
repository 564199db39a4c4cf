/- The law on the record that stands at a place of bytes, walked: it answers true and turns nothing that was there. -/
import Derived.Test.YtnkfhacmkimncaaLawPuts
import Derived.Test.YtnkfhacmkimncaaRefGetR
namespace Go.Proofs.Ytnkfhacmkimncaa
open Go.ChangeShapes Go.WideShapes Go.ChangeAt Go.RowKit
set_option linter.unusedVariables false
set_option linter.unusedSimpArgs false

theorem rec_ok_any (s : ByteArray) (K : ByteArray × Int × Nat) (hs : s.size ≤ maxLen) (hK : K.1.size ≤ s.size) : (recP s K).1.ok := by
  obtain ⟨T, q, e⟩ := K
  have b0 : valN s q e 0 ≤ 18446744073709551615 := val_le s q e 0
  have b1 : valN s q e 1 ≤ 4294967295 := val_le s q e 1
  have b2 : valN s q e 2 ≤ 255 := val_le s q e 2
  have b3 : valN s q e 3 ≤ 255 := val_le s q e 3
  have b4 : valN s q e 4 ≤ 4294967295 := val_le s q e 4
  have b5 : valN s q e 5 ≤ 18446744073709551615 := val_le s q e 5
  have hT : T.size ≤ maxLen := Nat.le_trans hK hs
  by_cases hv : valN s q e 3 = 3
  · rw [rec_six hv]
    have hD := stepT_size s 1024 (runN s q e 6).1 (runN s q e 6).2
    refine ⟨hT, ?_, ?_, ?_, ?_, Nat.le_trans hD hs⟩
    · unfold Stp.ok; simp only; omega
    · simp only; omega
    · simp only; omega
    · simp only; omega
  · rw [rec_four hv]
    refine ⟨hT, ?_, ?_, ?_, ?_, Nat.zero_le _⟩
    · unfold Stp.ok; simp only; omega
    · simp only; omega
    · simp
    · simp
theorem zeroR_ok : zeroR.ok := ⟨Nat.zero_le _, zero_ok, by simp [zeroR], by simp [zeroR], by simp [zeroR], Nat.zero_le _⟩
theorem getR_okay (s : ByteArray) (p : Int) (hs : s.size ≤ maxLen) : (getR s p).1.ok := by
  have h := rec_ok_any s (stepT s 250 p 0) hs (stepT_size _ _ _ _)
  unfold getR outR
  split
  · split
    · exact h
    · exact zeroR_ok
  · exact zeroR_ok
theorem slice_to (s : ByteArray) (a b : Nat) (h1 : a ≤ b) (h2 : b ≤ s.size) (w : World) : (Instr.slice 9 (.string s) (some (.int .i64 (a : Int))) (some (.int .i64 (b : Int))) none).run Try.prog w = .ok (.string (s.extract a b)) w := by
  have := run_slice_string (P := Try.prog) w 9 s .i64 .i64 (a : Int) (b : Int) Try.underlying9 (by omega) (by omega) (by omega)
  rw [this, Int.toNat_natCast, Int.toNat_natCast]
set_option maxHeartbeats 1600000 in
set_option maxRecDepth 100000 in
theorem gets_err (s : ByteArray) (p : Int) (w : World) (hs : ¬ (5000 : Int) < (s.size : Int)) (r : R) (q : Int) (f : Nat) (hg : getR s p = (r, q, f)) (hf : f ≠ 0) :
    Calls Try.prog 8 #[.string s, .int .i64 p] w fun e w' => e = .returned (.bool true) ∧ Kept w w' := by
  have hG := GetR_any s (by omega) p
  have hR := refGetR_any s (by omega) p
  rw [hg] at hG hR
  unfold recV at hG hR
  have hEq := eq_self r
  have hf' : ((f : Int) != 0) = true := by simp; omega
  have hz := zero27
  have hW := kept_refl w
  clear hg hf
  go_enter Try.func8, Try.ntmps8
  go_wp2_with fail
  refine (hG _).mono ?_
  rintro e w1 ⟨rfl, k1⟩
  replace hW := kept_trans hW k1
  have W1 := hid (kept_alloc hW (.cells #[.string r.key, .int .u64 r.s.p, .int .u32 r.s.l, .int .u8 r.s.n, .int .u8 r.kind, .int .u32 r.flags, .int .u64 r.exp, .string r.body] 27))
  have A1 := hid (at_new w1 #[.string r.key, .int .u64 r.s.p, .int .u32 r.s.l, .int .u8 r.s.n, .int .u8 r.kind, .int .u32 r.flags, .int .u64 r.exp, .string r.body] 27)
  clear k1 hG hW
  go_wp2_with fail
  have hW := W1.out
  have hA := A1.out
  clear W1 A1
  generalize w1.alloc (.cells #[.string r.key, .int .u64 r.s.p, .int .u32 r.s.l, .int .u8 r.s.n, .int .u8 r.kind, .int .u32 r.flags, .int .u64 r.exp, .string r.body] 27) = w2 at *
  generalize w1.heap.size = X at *
  refine (hR _).mono ?_
  rintro e w3 ⟨rfl, k3⟩
  replace hW := kept_trans hW k3
  replace hA := at_kept hA k3
  have W1 := hid (kept_alloc hW (.cells #[.string r.key, .int .u64 r.s.p, .int .u32 r.s.l, .int .u8 r.s.n, .int .u8 r.kind, .int .u32 r.flags, .int .u64 r.exp, .string r.body] 27))
  have A1 := hid (at_alloc hA (.cells #[.string r.key, .int .u64 r.s.p, .int .u32 r.s.l, .int .u8 r.s.n, .int .u8 r.kind, .int .u32 r.flags, .int .u64 r.exp, .string r.body] 27))
  have B1 := hid (at_new w3 #[.string r.key, .int .u64 r.s.p, .int .u32 r.s.l, .int .u8 r.s.n, .int .u8 r.kind, .int .u32 r.flags, .int .u64 r.exp, .string r.body] 27)
  clear k3 hR hW hA
  go_wp2_with fail
  have hW := W1.out
  have hA := A1.out
  have hB := B1.out
  clear W1 A1 B1
  generalize w3.alloc (.cells #[.string r.key, .int .u64 r.s.p, .int .u32 r.s.l, .int .u8 r.s.n, .int .u8 r.kind, .int .u32 r.flags, .int .u64 r.exp, .string r.body] 27) = w4 at *
  generalize w3.heap.size = Y at *
  refine (fixed_any _).mono ?_
  rintro e w5 ⟨rfl, k5⟩
  replace hW := kept_trans hW k5
  replace hA := at_kept hA k5
  replace hB := at_kept hB k5
  clear k5
  obtain ⟨c0, c1, c2, c3, c4, c5, c6, c7⟩ := at_cells8' hA
  obtain ⟨d0, d1, d2, d3, d4, d5, d6, d7⟩ := at_cells8' hB
  have KF := hid hW
  clear hA hB hW
  go_wp2_with fail
  go_ret
  exact ⟨rfl, KF.out⟩
set_option maxHeartbeats 1600000 in
set_option maxRecDepth 100000 in
theorem gets_good (s : ByteArray) (a b : Nat) (w : World) (hs : ¬ (5000 : Int) < (s.size : Int)) (r : R) (hg : getR s (a : Int) = (r, (b : Int), 0)) (hr : r.ok) (hm : mayR r = true) (h1 : a ≤ b) (h2 : b ≤ s.size) (hx : s.extract a b = putR r) :
    Calls Try.prog 8 #[.string s, .int .i64 (a : Int)] w fun e w' => e = .returned (.bool true) ∧ Kept w w' := by
  have hG := GetR_any s (by omega) (a : Int)
  have hR := refGetR_any s (by omega) (a : Int)
  rw [hg] at hG hR
  unfold recV at hG hR
  have hEq := eq_self r
  have hP := PutR_any r hr
  have e : putV r = .tuple #[.string (putR r), .int .i64 0] := by unfold putV; rw [if_pos hm]
  rw [e] at hP
  have hsl := slice_to s a b h1 h2
  rw [hx] at hsl
  generalize putR r = E at *
  have hz := zero27
  have hW := kept_refl w
  clear hg hr hm hx e
  go_enter Try.func8, Try.ntmps8
  go_wp2_with fail
  refine (hG _).mono ?_
  rintro e w1 ⟨rfl, k1⟩
  replace hW := kept_trans hW k1
  have W1 := hid (kept_alloc hW (.cells #[.string r.key, .int .u64 r.s.p, .int .u32 r.s.l, .int .u8 r.s.n, .int .u8 r.kind, .int .u32 r.flags, .int .u64 r.exp, .string r.body] 27))
  have A1 := hid (at_new w1 #[.string r.key, .int .u64 r.s.p, .int .u32 r.s.l, .int .u8 r.s.n, .int .u8 r.kind, .int .u32 r.flags, .int .u64 r.exp, .string r.body] 27)
  clear k1 hG hW
  go_wp2_with fail
  have hW := W1.out
  have hA := A1.out
  clear W1 A1
  generalize w1.alloc (.cells #[.string r.key, .int .u64 r.s.p, .int .u32 r.s.l, .int .u8 r.s.n, .int .u8 r.kind, .int .u32 r.flags, .int .u64 r.exp, .string r.body] 27) = w2 at *
  generalize w1.heap.size = X at *
  refine (hR _).mono ?_
  rintro e w3 ⟨rfl, k3⟩
  replace hW := kept_trans hW k3
  replace hA := at_kept hA k3
  have W1 := hid (kept_alloc hW (.cells #[.string r.key, .int .u64 r.s.p, .int .u32 r.s.l, .int .u8 r.s.n, .int .u8 r.kind, .int .u32 r.flags, .int .u64 r.exp, .string r.body] 27))
  have A1 := hid (at_alloc hA (.cells #[.string r.key, .int .u64 r.s.p, .int .u32 r.s.l, .int .u8 r.s.n, .int .u8 r.kind, .int .u32 r.flags, .int .u64 r.exp, .string r.body] 27))
  have B1 := hid (at_new w3 #[.string r.key, .int .u64 r.s.p, .int .u32 r.s.l, .int .u8 r.s.n, .int .u8 r.kind, .int .u32 r.flags, .int .u64 r.exp, .string r.body] 27)
  clear k3 hR hW hA
  go_wp2_with fail
  have hW := W1.out
  have hA := A1.out
  have hB := B1.out
  clear W1 A1 B1
  generalize w3.alloc (.cells #[.string r.key, .int .u64 r.s.p, .int .u32 r.s.l, .int .u8 r.s.n, .int .u8 r.kind, .int .u32 r.flags, .int .u64 r.exp, .string r.body] 27) = w4 at *
  generalize w3.heap.size = Y at *
  refine (fixed_any _).mono ?_
  rintro e w5 ⟨rfl, k5⟩
  replace hW := kept_trans hW k5
  replace hA := at_kept hA k5
  replace hB := at_kept hB k5
  clear k5
  obtain ⟨c0, c1, c2, c3, c4, c5, c6, c7⟩ := at_cells8' hA
  obtain ⟨d0, d1, d2, d3, d4, d5, d6, d7⟩ := at_cells8' hB
  have KF := hid hW
  clear hA hB hW
  go_wp2_with fail
  refine (hP _).mono ?_
  rintro e w6 ⟨rfl, k6⟩
  have KF2 := hid (kept_trans KF.out k6)
  clear k6 hP KF c0 c1 c2 c3 c4 c5 c6 c7 d0 d1 d2 d3 d4 d5 d6 d7
  go_wp2_with fail
  go_ret
  exact ⟨rfl, KF2.out⟩
theorem gets_great (s : ByteArray) (p : Int) (w : World) (hs : (5000 : Int) < (s.size : Int)) :
    Calls Try.prog 8 #[.string s, .int .i64 p] w fun e w' => e = .returned (.bool true) ∧ Kept w w' := by
  go_enter Try.func8, Try.ntmps8
  go_wp2_with fail
  refine (fixed_any _).mono ?_
  rintro e w1 ⟨rfl, k1⟩
  go_wp2_with fail
  go_ret
  exact ⟨rfl, k1⟩
theorem recGets_walk (s : ByteArray) (p : Int) (w : World) (hs : s.size ≤ maxLen) (hp : (Lit.int .i64 p).wf = true) :
    Calls Try.prog 8 #[.string s, .int .i64 p] w fun e w' => e = .returned (.bool true) ∧ Kept w w' := by
  by_cases h : (5000 : Int) < (s.size : Int)
  · exact gets_great s p w h
  · have hok := getR_okay s p hs
    have hgo := getR_ok s p
    generalize hgr : getR s p = g at hok hgo
    obtain ⟨r, q, f⟩ := g
    simp only at hok hgo
    by_cases hf : f = 0
    · subst hf
      obtain ⟨hm, a, b, ha, hb, h1, h2, hx⟩ := hgo rfl
      subst ha hb
      exact gets_good s a b w h r hgr hok hm h1 h2 hx
    · exact gets_err s p w h r q f hgr hf
end Go.Proofs.Ytnkfhacmkimncaa
