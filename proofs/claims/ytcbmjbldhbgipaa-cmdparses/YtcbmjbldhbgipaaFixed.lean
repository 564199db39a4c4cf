/- The contract of the statements' own function that holds the chapter's examples: it answers true and turns nothing that was there. No condition. -/
import Derived.Test.YtcbmjbldhbgipaaParse
namespace Go.Proofs.Ytcbmjbldhbgipaa
open Go.ChangeShapes Go.WideShapes Go.ChangeAt Go.RowKit
set_option linter.unusedVariables false
set_option linter.unusedSimpArgs false

def exA : ByteArray := ⟨#[103, 101, 116, 32, 97, 32, 98]⟩
def exB : ByteArray := ⟨#[115, 101, 116, 32, 97, 32, 49, 32, 45, 53, 32, 51, 32, 110, 111, 114, 101, 112, 108, 121]⟩
def exC : ByteArray := ⟨#[103, 101, 116, 115, 32, 97]⟩
def exD : ByteArray := ⟨#[115, 101, 116, 32, 97, 32, 120, 32, 48, 32, 51]⟩
theorem wordsA : words exA = [⟨#[103, 101, 116]⟩, ⟨#[97]⟩, ⟨#[98]⟩] := by decide +kernel
theorem wordsB : words exB = [⟨#[115, 101, 116]⟩, ⟨#[97]⟩, ⟨#[49]⟩, ⟨#[45, 53]⟩, ⟨#[51]⟩, ⟨#[110, 111, 114, 101, 112, 108, 121]⟩] := by decide +kernel
theorem wordsC : words exC = [⟨#[103, 101, 116, 115]⟩, ⟨#[97]⟩] := by decide +kernel
theorem wordsD : words exD = [⟨#[115, 101, 116]⟩, ⟨#[97]⟩, ⟨#[120]⟩, ⟨#[48]⟩, ⟨#[51]⟩] := by decide +kernel
theorem parseA : parseC (words exA) = (⟨1, [⟨#[97]⟩, ⟨#[98]⟩], 0, 0, false, mt⟩, -1) := by rw [wordsA]; kernel_rfl
theorem parseB : parseC (words exB) = (⟨2, [⟨#[97]⟩], 1, -5, true, mt⟩, 3) := by rw [wordsB]; kernel_rfl
theorem parseD : parseC (words exC) = (bad rErr, -1) := by rw [wordsC]; kernel_rfl
theorem parseE : parseC (words exD) = (bad rFmt, 3) := by rw [wordsD]; kernel_rfl
theorem callA (w : World) : Calls Try.prog 9 #[.string ⟨#[103, 101, 116, 32, 97, 32, 98]⟩] w fun e w' => ∃ A cap, e = .returned (.tuple #[.agg #[.int .i64 1, .slice (some ⟨A, 0, none⟩) 2 cap, .int .u32 0, .int .i64 0, .string ⟨#[]⟩, .bool false, .string ⟨#[]⟩], .int .i64 (-1)]) ∧ A < w'.heap.size ∧ w'.cell? ⟨A, 1, none⟩ = some (.string ⟨#[98]⟩) ∧ Kept w w' := by
  have h := Parse_any exA (by decide) w
  rw [parseA] at h
  refine h.mono ?_
  rintro e w' ⟨kv, rfl, hks, hk⟩
  rcases hks with ⟨h0, _⟩ | ⟨A, cap, rfl, hA, hc⟩
  · cases h0
  · exact ⟨A, cap, rfl, hA, hc 1 (by decide), hk⟩
theorem callB (w : World) : Calls Try.prog 9 #[.string ⟨#[115, 101, 116, 32, 97, 32, 49, 32, 45, 53, 32, 51, 32, 110, 111, 114, 101, 112, 108, 121]⟩] w fun e w' => ∃ a m cap, e = .returned (.tuple #[.agg #[.int .i64 2, .slice a m cap, .int .u32 1, .int .i64 (-5), .string ⟨#[]⟩, .bool true, .string ⟨#[]⟩], .int .i64 3]) ∧ Kept w w' := by
  have h := Parse_any exB (by decide) w
  rw [parseB] at h
  refine h.mono ?_
  rintro e w' ⟨kv, rfl, hks, hk⟩
  obtain ⟨a, m, cap, rfl⟩ := keys_slice hks
  exact ⟨a, m, cap, rfl, hk⟩
theorem callC (w : World) : Calls Try.prog 9 #[.string ⟨#[103, 101, 116, 115, 32, 97]⟩] w fun e w' => ∃ a m cap, e = .returned (.tuple #[.agg #[.int .i64 8, .slice a m cap, .int .u32 0, .int .i64 0, .string ⟨#[]⟩, .bool false, .string ⟨#[69, 82, 82, 79, 82, 13, 10]⟩], .int .i64 (-1)]) ∧ Kept w w' := by
  have h := Parse_any exC (by decide) w
  rw [parseD] at h
  refine h.mono ?_
  rintro e w' ⟨kv, rfl, hks, hk⟩
  obtain ⟨a, m, cap, rfl⟩ := keys_slice hks
  exact ⟨a, m, cap, rfl, hk⟩
theorem callD (w : World) : Calls Try.prog 9 #[.string ⟨#[115, 101, 116, 32, 97, 32, 120, 32, 48, 32, 51]⟩] w fun e w' => ∃ a m cap, e = .returned (.tuple #[.agg #[.int .i64 8, .slice a m cap, .int .u32 0, .int .i64 0, .string ⟨#[]⟩, .bool false, .string ⟨#[67, 76, 73, 69, 78, 84, 95, 69, 82, 82, 79, 82, 32, 98, 97, 100, 32, 99, 111, 109, 109, 97, 110, 100, 32, 108, 105, 110, 101, 32, 102, 111, 114, 109, 97, 116, 13, 10]⟩], .int .i64 3]) ∧ Kept w w' := by
  have h := Parse_any exD (by decide) w
  rw [parseE] at h
  refine h.mono ?_
  rintro e w' ⟨kv, rfl, hks, hk⟩
  obtain ⟨a, m, cap, rfl⟩ := keys_slice hks
  exact ⟨a, m, cap, rfl, hk⟩
set_option maxHeartbeats 1600000 in
set_option maxRecDepth 100000 in
theorem fixed_any (w : World) : Calls Try.prog 8 #[] w fun e w' => e = .returned (.bool true) ∧ Kept w w' := by
  have hz := zero26
  go_enter Try.func8, Try.ntmps8
  go_wp2_with fail
  refine (callA _).mono ?_
  rintro e w1 ⟨A, cap, rfl, hA, hcA, hk1⟩
  have H1 := hid (kept_alloc hk1 (.cells #[.int .i64 1, .slice (some ⟨A, 0, none⟩) 2 cap, .int .u32 0, .int .i64 0, .string ⟨#[]⟩, .bool false, .string ⟨#[]⟩] 26))
  have A1 := hid (at_new w1 #[.int .i64 1, .slice (some ⟨A, 0, none⟩) 2 cap, .int .u32 0, .int .i64 0, .string ⟨#[]⟩, .bool false, .string ⟨#[]⟩] 26)
  have C1 : Hid (A < (w1.alloc (.cells #[.int .i64 1, .slice (some ⟨A, 0, none⟩) 2 cap, .int .u32 0, .int .i64 0, .string ⟨#[]⟩, .bool false, .string ⟨#[]⟩] 26)).heap.size ∧ (w1.alloc (.cells #[.int .i64 1, .slice (some ⟨A, 0, none⟩) 2 cap, .int .u32 0, .int .i64 0, .string ⟨#[]⟩, .bool false, .string ⟨#[]⟩] 26)).cell? ⟨A, 1, none⟩ = some (.string ⟨#[98]⟩)) := ⟨by have := World.size_alloc w1; simp; omega, (kept_cell (kept_alloc (kept_refl w1) _) hA).trans hcA⟩
  clear hk1 hA hcA
  go_wp2_with fail
  generalize w1.alloc (.cells #[.int .i64 1, .slice (some ⟨A, 0, none⟩) 2 cap, .int .u32 0, .int .i64 0, .string ⟨#[]⟩, .bool false, .string ⟨#[]⟩] 26) = v1 at *
  generalize w1.heap.size = X1 at *
  refine (callB _).mono ?_
  rintro e w2 ⟨a, m, c2, rfl, hk2⟩
  have K2 := hid (kept_alloc hk2 (.cells #[.int .i64 2, .slice a m c2, .int .u32 1, .int .i64 (-5), .string ⟨#[]⟩, .bool true, .string ⟨#[]⟩] 26))
  have A2 := hid (at_new w2 #[.int .i64 2, .slice a m c2, .int .u32 1, .int .i64 (-5), .string ⟨#[]⟩, .bool true, .string ⟨#[]⟩] 26)
  clear hk2
  go_wp2_with fail
  generalize w2.alloc (.cells #[.int .i64 2, .slice a m c2, .int .u32 1, .int .i64 (-5), .string ⟨#[]⟩, .bool true, .string ⟨#[]⟩] 26) = v2 at *
  generalize w2.heap.size = X2 at *
  refine (callC _).mono ?_
  rintro e w3 ⟨a3, m3, c3, rfl, hk3⟩
  have K3 := hid (kept_alloc hk3 (.cells #[.int .i64 8, .slice a3 m3 c3, .int .u32 0, .int .i64 0, .string ⟨#[]⟩, .bool false, .string ⟨#[69, 82, 82, 79, 82, 13, 10]⟩] 26))
  have A3 := hid (at_new w3 #[.int .i64 8, .slice a3 m3 c3, .int .u32 0, .int .i64 0, .string ⟨#[]⟩, .bool false, .string ⟨#[69, 82, 82, 79, 82, 13, 10]⟩] 26)
  clear hk3
  go_wp2_with fail
  generalize w3.alloc (.cells #[.int .i64 8, .slice a3 m3 c3, .int .u32 0, .int .i64 0, .string ⟨#[]⟩, .bool false, .string ⟨#[69, 82, 82, 79, 82, 13, 10]⟩] 26) = v3 at *
  generalize w3.heap.size = X3 at *
  refine (callD _).mono ?_
  rintro e w4 ⟨a4, m4, c4, rfl, hk4⟩
  have K4 := hid (kept_alloc hk4 (.cells #[.int .i64 8, .slice a4 m4 c4, .int .u32 0, .int .i64 0, .string ⟨#[]⟩, .bool false, .string ⟨#[67, 76, 73, 69, 78, 84, 95, 69, 82, 82, 79, 82, 32, 98, 97, 100, 32, 99, 111, 109, 109, 97, 110, 100, 32, 108, 105, 110, 101, 32, 102, 111, 114, 109, 97, 116, 13, 10]⟩] 26))
  have A4 := hid (at_new w4 #[.int .i64 8, .slice a4 m4 c4, .int .u32 0, .int .i64 0, .string ⟨#[]⟩, .bool false, .string ⟨#[67, 76, 73, 69, 78, 84, 95, 69, 82, 82, 79, 82, 32, 98, 97, 100, 32, 99, 111, 109, 109, 97, 110, 100, 32, 108, 105, 110, 101, 32, 102, 111, 114, 109, 97, 116, 13, 10]⟩] 26)
  clear hk4
  have KK : Hid (Kept v1 (w4.alloc (.cells #[.int .i64 8, .slice a4 m4 c4, .int .u32 0, .int .i64 0, .string ⟨#[]⟩, .bool false, .string ⟨#[67, 76, 73, 69, 78, 84, 95, 69, 82, 82, 79, 82, 32, 98, 97, 100, 32, 99, 111, 109, 109, 97, 110, 100, 32, 108, 105, 110, 101, 32, 102, 111, 114, 109, 97, 116, 13, 10]⟩] 26)) ∧ Kept v2 (w4.alloc (.cells #[.int .i64 8, .slice a4 m4 c4, .int .u32 0, .int .i64 0, .string ⟨#[]⟩, .bool false, .string ⟨#[67, 76, 73, 69, 78, 84, 95, 69, 82, 82, 79, 82, 32, 98, 97, 100, 32, 99, 111, 109, 109, 97, 110, 100, 32, 108, 105, 110, 101, 32, 102, 111, 114, 109, 97, 116, 13, 10]⟩] 26))) := ⟨kept_trans K2.out (kept_trans K3.out K4.out), kept_trans K3.out K4.out⟩
  obtain ⟨p0, p1, p2, p3, p4, p5, p6, -⟩ := at_cells7 (at_kept A1.out KK.out.1)
  obtain ⟨q0, q1, q2, q3, q4, q5, q6, -⟩ := at_cells7 (at_kept A2.out KK.out.2)
  obtain ⟨r0, r1, r2, r3, r4, r5, r6, -⟩ := at_cells7 (at_kept A3.out K4.out)
  obtain ⟨s0, s1, s2, s3, s4, s5, s6, -⟩ := at_cells7 A4.out
  have pA := (kept_cell KK.out.1 C1.out.1).trans C1.out.2
  have HK : Hid (Kept w (w4.alloc (.cells #[.int .i64 8, .slice a4 m4 c4, .int .u32 0, .int .i64 0, .string ⟨#[]⟩, .bool false, .string ⟨#[67, 76, 73, 69, 78, 84, 95, 69, 82, 82, 79, 82, 32, 98, 97, 100, 32, 99, 111, 109, 109, 97, 110, 100, 32, 108, 105, 110, 101, 32, 102, 111, 114, 109, 97, 116, 13, 10]⟩] 26))) := kept_trans H1.out KK.out.1
  clear p0 p2 p3 p4 p5 p6 q0 q1 q4 q6 r0 r1 r2 r3 r4 r5 s1 s2 s3 s4 s5 s6
  go_wp2_with fail
  go_ret
  exact ⟨rfl, HK.out⟩
end Go.Proofs.Ytcbmjbldhbgipaa
