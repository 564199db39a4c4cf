/- The law that any bytes are read as the document says, or refused with its error, walked: it answers true and turns nothing that was there. The text has at most as many bytes as a text may have. -/
import Derived.Test.YtffobfjknbgglaaRefLast
namespace Go.Proofs.Ytffobfjknbgglaa
open Go.ChangeShapes Go.WideShapes Go.ChangeAt Go.RowKit
set_option linter.unusedVariables false
set_option linter.unusedSimpArgs false

theorem err_of {s : ByteArray} {r : Nat} (h : why s.data.toList = r) (h0 : r ≠ 0) : ansV (dec s) (why s.data.toList) = errV (r : Int) := by
  have e : dec s = (0, 0, 0, ⟨#[]⟩) := by unfold dec; rw [if_neg (by omega)]
  rw [e, h]; rfl
theorem refDecode_any (s : ByteArray) (hs : s.size ≤ 140737488355328) (w : World) :
    Calls Try.prog 13 #[.string s] w fun e w' => e = .returned (ansV (dec s) (why s.data.toList)) ∧ Kept w w' := by
  have hu : why s.data.toList = why s.data.toList := rfl
  conv at hu => rhs; unfold why
  rw [toList_size] at hu
  by_cases h1 : s.size < 12
  · rw [if_pos h1] at hu
    rw [err_of hu (by omega)]
    exact refDecode_short s w h1
  rw [if_neg h1] at hu
  have i12 : 12 ≤ s.size := by omega
  rw [at_get s 0 (by omega), at_get s 1 (by omega), at_get s 2 (by omega), at_get s 3 (by omega)] at hu
  by_cases h2 : s[0] = 1 ∧ fit s[1] s[2] s[3]
  · rw [if_neg (Decidable.not_not.2 h2)] at hu
    by_cases h4 : 1048576 < word4 s.data.toList 4
    · rw [if_pos h4] at hu
      rw [err_of hu (by omega)]
      exact refDecode_long s hs w i12 h2.1 h2.2 h4
    rw [if_neg h4] at hu
    by_cases h5 : s.size < 12 + word4 s.data.toList 4
    · rw [if_pos h5] at hu
      rw [err_of hu (by omega)]
      exact refDecode_less s hs w i12 h2.1 h2.2 h4 h5
    rw [if_neg h5] at hu
    by_cases h6 : 12 + word4 s.data.toList 4 < s.size
    · rw [if_pos h6] at hu
      rw [err_of hu (by omega)]
      exact refDecode_more s hs w i12 h2.1 h2.2 h4 h6
    rw [if_neg h6] at hu
    have h56 : s.size = 12 + word4 s.data.toList 4 := by omega
    by_cases h7 : word4 s.data.toList (8 + word4 s.data.toList 4) = more 0 (s.data.toList.take (8 + word4 s.data.toList 4))
    · rw [if_neg (fun hh => hh h7)] at hu
      have e : dec s = (s[1], s[2], s[3], bodyOf s) := by unfold dec; rw [if_pos hu, at_get s 1 (by omega), at_get s 2 (by omega), at_get s 3 (by omega)]
      rw [hu, e]
      exact refDecode_ok s hs w i12 h2.1 h2.2 h4 h56 h7
    · rw [if_pos h7] at hu
      rw [err_of hu (by omega)]
      exact refDecode_sum s hs w i12 h2.1 h2.2 h4 h56 h7
  · rw [if_pos h2] at hu
    rw [err_of hu (by omega)]
    exact refDecode_form s w i12 h2
set_option maxHeartbeats 3200000 in
set_option maxRecDepth 100000 in
theorem decodes_walk (s : ByteArray) (hs0 : s.size ≤ maxLen) (w : World) :
    Calls Try.prog 4 #[.string s] w fun e w' => e = .returned (.bool true) ∧ Kept w w' := by
  clear hs0
  have S0 : St w [] w := St.start w
  have hz := zero23
  by_cases h1 : (5000 : Int) < (s.size : Int)
  · go_enter Try.func4, Try.ntmps4
    go_wp2_with fail
    refine (fixed_in w [] _ S0).mono ?_
    rintro e w1 ⟨rfl, S1, -⟩
    go_wp2_with fail
    go_ret
    exact ⟨rfl, S1.1⟩
  have hs : s.size ≤ 140737488355328 := by omega
  have hRD := refDecode_any s hs
  unfold ansV at hRD
  have hDE := fun c b w1 h => decode_in w [(c, b)] c b (by simp) s hs w1 h
  generalize dec s = d at *
  generalize why s.data.toList = r at *
  obtain ⟨g1, g2, g3, g4⟩ := d
  simp only at hRD hDE
  go_enter Try.func4, Try.ntmps4
  go_wp2_with fail
  refine (new_in w [] _ S0).mono ?_
  rintro e w1 ⟨c, b, rfl, S1, -⟩
  clear S0
  go_wp2_with fail
  refine (hDE c b _ S1).mono ?_
  rintro e w2 ⟨rfl, S2, -⟩
  have S3 : St w [(c, b)] (w2.alloc (.cells #[.int .u8 (g1.toNat : Int), .int .u8 (g2.toNat : Int), .int .u8 (g3.toNat : Int), .string g4] 23)) := st_alloc S2
  have bx3 := box_new w2 (g1.toNat : Int) (g2.toNat : Int) (g3.toNat : Int) g4 (0, 0)
  clear S1 S2 hDE
  go_wp2_with fail
  generalize w2.alloc (.cells #[.int .u8 (g1.toNat : Int), .int .u8 (g2.toNat : Int), .int .u8 (g3.toNat : Int), .string g4] 23) = w3 at *
  generalize w2.heap.size = X at *
  refine (hRD _).mono ?_
  rintro e w4 ⟨rfl, K4⟩
  have S4 := st_kept S3 K4
  have bx4 := bx_kept K4 _ _ _ _ _ bx3
  have S5 : St w [(c, b)] (w4.alloc (.cells #[.int .u8 (g1.toNat : Int), .int .u8 (g2.toNat : Int), .int .u8 (g3.toNat : Int), .string g4] 23)) := st_alloc S4
  have bx5 := bx_alloc (o := .cells #[.int .u8 (g1.toNat : Int), .int .u8 (g2.toNat : Int), .int .u8 (g3.toNat : Int), .string g4] 23) _ _ _ _ _ bx4
  have by5 := box_new w4 (g1.toNat : Int) (g2.toNat : Int) (g3.toNat : Int) g4 (0, 0)
  clear S3 K4 S4 bx3 bx4 hRD
  go_wp2_with fail
  generalize w4.alloc (.cells #[.int .u8 (g1.toNat : Int), .int .u8 (g2.toNat : Int), .int .u8 (g3.toNat : Int), .string g4] 23) = w5 at *
  generalize w4.heap.size = Y at *
  refine (fixed_in w [(c, b)] _ S5).mono ?_
  rintro e w6 ⟨rfl, S6, B6⟩
  obtain ⟨-, x0, x1, x2, x3⟩ := B6 _ _ _ _ _ bx5
  obtain ⟨-, y0, y1, y2, y3⟩ := B6 _ _ _ _ _ by5
  clear S5 B6 bx5 by5
  go_wp2_with fail
  go_ret
  exact ⟨by simp, S6.1⟩
end Go.Proofs.Ytffobfjknbgglaa
