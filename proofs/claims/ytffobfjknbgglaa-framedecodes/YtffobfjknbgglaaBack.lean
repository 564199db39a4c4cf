/- The law that a frame is read as it was laid, and that what is read is laid as the very bytes, walked: it answers true and turns nothing that was there. Texts have at most as many bytes as a text may have. -/
import Derived.Test.YtffobfjknbgglaaFixed
namespace Go.Proofs.Ytffobfjknbgglaa
open Go.ChangeShapes Go.WideShapes Go.ChangeAt Go.RowKit
set_option linter.unusedVariables false
set_option linter.unusedSimpArgs false

theorem enc_ok (k f t : UInt8) (s : ByteArray) (h : (encS k f t s).2 = 0) : s.size ≤ 1048576 ∧ fit k f t ∧ (encS k f t s).1 = ⟨(lay k f t s.data.toList).toArray⟩ := by
  by_cases h1 : 1048576 < s.size
  · unfold encS at h; rw [if_pos h1] at h; exact absurd h (by decide)
  by_cases h2 : fit k f t
  · refine ⟨by omega, h2, ?_⟩
    unfold encS; rw [if_neg h1, if_pos h2]
  · unfold encS at h; rw [if_neg h1, if_neg h2] at h; exact absurd h (by decide)
theorem enc_of (k f t : UInt8) (s : ByteArray) (h1 : s.size ≤ 1048576) (h2 : fit k f t) : encS k f t s = (⟨(lay k f t s.data.toList).toArray⟩, 0) := by
  unfold encS; rw [if_neg (by omega), if_pos h2]
theorem bytes_ext {a b : ByteArray} (h : a.data.toList = b.data.toList) : a = b := by
  apply ByteArray.ext
  exact Array.toList_inj.1 h
/- What is laid is read. -/
theorem dec_enc (k f t : UInt8) (s : ByteArray) (h : (encS k f t s).2 = 0) : why (encS k f t s).1.data.toList = 0 ∧ dec (encS k f t s).1 = (k, f, t, s) := by
  obtain ⟨h1, h2, h3⟩ := enc_ok k f t s h
  rw [h3]
  have hl : s.data.toList.length ≤ 1048576 := by rw [toList_size]; exact h1
  have hw : why (⟨(lay k f t s.data.toList).toArray⟩ : ByteArray).data.toList = 0 := why_lay k f t _ h2 hl
  refine ⟨hw, ?_⟩
  obtain ⟨p1, p2, p3, p4⟩ := lay_parts k f t s.data.toList
  unfold dec
  rw [if_pos hw]
  have hb : bodyOf ⟨(lay k f t s.data.toList).toArray⟩ = s := by
    apply bytes_ext
    unfold bodyOf
    rw [extract_list]
    have hz : (⟨(lay k f t s.data.toList).toArray⟩ : ByteArray).size = (lay k f t s.data.toList).length := by simp [ByteArray.size]
    rw [hz]
    show List.take ((lay k f t s.data.toList).length - 4 - 8) (List.drop 8 (lay k f t s.data.toList)) = _
    rw [show (lay k f t s.data.toList).length - 4 - 8 = (lay k f t s.data.toList).length - 12 by omega, p4]
  rw [hb]
  show (at_ (lay k f t s.data.toList) 1, at_ (lay k f t s.data.toList) 2, at_ (lay k f t s.data.toList) 3, s) = _
  rw [p1, p2, p3]
/- What is read is laid. -/
theorem enc_dec (s : ByteArray) (h : why s.data.toList = 0) : encS (dec s).1 (dec s).2.1 (dec s).2.2.1 (dec s).2.2.2 = (s, 0) := by
  obtain ⟨h1, h2, h3, h4, h5, h6⟩ := why_zero _ h
  have e : dec s = (at_ s.data.toList 1, at_ s.data.toList 2, at_ s.data.toList 3, bodyOf s) := by unfold dec; rw [if_pos h]
  rw [e]
  have hb : (bodyOf s).data.toList = (s.data.toList.drop 8).take (word4 s.data.toList 4) := by
    unfold bodyOf
    rw [extract_list, ← body_take _ h5, toList_size]
    congr 1
  have hs : (bodyOf s).size = word4 s.data.toList 4 := by
    rw [← toList_size, hb, body_length _ h5]
  show encS (at_ s.data.toList 1) (at_ s.data.toList 2) (at_ s.data.toList 3) (bodyOf s) = (s, 0)
  rw [enc_of _ _ _ _ (by omega) h3, hb, h6]
set_option maxHeartbeats 3200000 in
set_option maxRecDepth 100000 in
theorem back_walk (k f t : UInt8) (b s : ByteArray) (hb0 : b.size ≤ maxLen) (hs0 : s.size ≤ maxLen) (w : World) :
    Calls Try.prog 5 #[frameV k f t b, .string s] w fun e w' => e = .returned (.bool true) ∧ Kept w w' := by
  unfold frameV
  clear hb0 hs0
  have hz := zero23
  have S0 : St w [] (w.alloc (.cells #[.int .u8 (k.toNat : Int), .int .u8 (f.toNat : Int), .int .u8 (t.toNat : Int), .string b] 23)) := st_alloc (St.start w)
  by_cases h1 : (5000 : Int) < (b.size : Int)
  · go_enter Try.func5, Try.ntmps5
    go_wp2_with fail
    refine (fixed_in w [] _ S0).mono ?_
    rintro e w1 ⟨rfl, S1, -⟩
    go_wp2_with fail
    go_ret
    exact ⟨rfl, S1.1⟩
  by_cases h2 : (5000 : Int) < (s.size : Int)
  · go_enter Try.func5, Try.ntmps5
    go_wp2_with fail
    refine (fixed_in w [] _ S0).mono ?_
    rintro e w1 ⟨rfl, S1, -⟩
    go_wp2_with fail
    go_ret
    exact ⟨rfl, S1.1⟩
  have hs : s.size ≤ 140737488355328 := by omega
  have bx0 := box_new w (k.toNat : Int) (f.toNat : Int) (t.toNat : Int) b (0, 0)
  have D := dec_enc k f t b
  have hTs : (encS k f t b).1.size ≤ 140737488355328 := by
    unfold encS
    split
    · decide
    split
    · have hl := lay_length k f t b.data.toList
      show (lay k f t b.data.toList).toArray.size ≤ _
      rw [List.size_toArray, hl, toList_size]
      omega
    · decide
  go_enter Try.func5, Try.ntmps5
  go_wp2_with fail
  generalize w.alloc (.cells #[.int .u8 (k.toNat : Int), .int .u8 (f.toNat : Int), .int .u8 (t.toNat : Int), .string b] 23) = w0 at *
  generalize hX : w.heap.size = X at *
  clear hX
  refine (new_in w [] _ S0).mono ?_
  rintro e w1 ⟨c, cb, rfl, S1, B1⟩
  have bx1 := B1 _ _ _ _ _ bx0
  clear S0 B1 bx0
  go_wp2_with fail
  refine (new_in w [(c, cb)] _ S1).mono ?_
  rintro e w2 ⟨d, db, rfl, S2, B2⟩
  have bx2 := B2 _ _ _ _ _ bx1
  obtain ⟨-, x0, x1, x2, x3⟩ := id bx2
  clear S1 B2 bx1
  go_wp2_with fail
  refine (encode_in w [(d, db), (c, cb)] c cb (by simp) k f t b _ S2).mono ?_
  rintro e w3 ⟨rfl, S3, B3⟩
  have bx3 := B3 _ _ _ _ _ bx2
  clear S2 B3 bx2 x0 x1 x2 x3
  generalize encS k f t b = E at *
  obtain ⟨T, E⟩ := E
  simp only at D hTs
  by_cases hE : E = 0
  · subst hE
    obtain ⟨D1, D2⟩ := D rfl
    clear D
    go_wp2_with fail
    refine (decode_in w [(d, db), (c, cb)] d db (by simp) T hTs _ S3).mono ?_
    rintro e w4 ⟨rfl, S4, B4⟩
    have bx4 := B4 _ _ _ _ _ bx3
    rw [D1, D2]
    simp only
    have by4 := box_new w4 (k.toNat : Int) (f.toNat : Int) (t.toNat : Int) b (0, 0)
    have bx5 := bx_alloc (o := .cells #[.int .u8 (k.toNat : Int), .int .u8 (f.toNat : Int), .int .u8 (t.toNat : Int), .string b] 23) _ _ _ _ _ bx4
    have S5 : St w [(d, db), (c, cb)] (w4.alloc (.cells #[.int .u8 (k.toNat : Int), .int .u8 (f.toNat : Int), .int .u8 (t.toNat : Int), .string b] 23)) := st_alloc S4
    obtain ⟨-, x0, x1, x2, x3⟩ := id bx5
    obtain ⟨-, y0, y1, y2, y3⟩ := by4
    clear S4 B4 bx4 S3 bx3
    go_wp2_with fail
    refine (decode_in w [(d, db), (c, cb)] d db (by simp) s hs _ S5).mono ?_
    rintro e w6 ⟨rfl, S6, B6⟩
    have bx6 := B6 _ _ _ _ _ bx5
    by_cases hw : why s.data.toList = 0
    · have hED := enc_dec s hw
      rw [hw]
      generalize dec s = g at *
      obtain ⟨g1, g2, g3, g4⟩ := g
      simp only at hED
      have bz := box_new w6 (g1.toNat : Int) (g2.toNat : Int) (g3.toNat : Int) g4 (0, 0)
      have S7 : St w [(d, db), (c, cb)] (w6.alloc (.cells #[.int .u8 (g1.toNat : Int), .int .u8 (g2.toNat : Int), .int .u8 (g3.toNat : Int), .string g4] 23)) := st_alloc S6
      have cz := bz.2
      obtain ⟨z0, z1, z2, z3⟩ := cz
      clear S6 B6 bx6 bz 
      go_wp2_with fail
      generalize w6.alloc (.cells #[.int .u8 (g1.toNat : Int), .int .u8 (g2.toNat : Int), .int .u8 (g3.toNat : Int), .string g4] 23) = w7 at *
      refine (encode_in w [(d, db), (c, cb)] c cb (by simp) g1 g2 g3 g4 _ S7).mono ?_
      rintro e w8 ⟨rfl, S8, B8⟩
      rw [hED]
      clear S7 B8 z0 z1 z2 z3
      go_wp2_with fail
      refine (fixed_in w [(d, db), (c, cb)] _ S8).mono ?_
      rintro e w9 ⟨rfl, S9, -⟩
      go_wp2_with fail
      go_ret
      exact ⟨rfl, S9.1⟩
    · generalize why s.data.toList = R at *
      have hRi : ((R : Int) == 0) = false := by rw [beq_eq_false_iff_ne]; omega
      generalize dec s = g at *
      obtain ⟨g1, g2, g3, g4⟩ := g
      have S7 : St w [(d, db), (c, cb)] (w6.alloc (.cells #[.int .u8 (g1.toNat : Int), .int .u8 (g2.toNat : Int), .int .u8 (g3.toNat : Int), .string g4] 23)) := st_alloc S6
      clear S6 B6 bx6 
      go_wp2_with fail
      refine (fixed_in w [(d, db), (c, cb)] _ S7).mono ?_
      rintro e w9 ⟨rfl, S9, -⟩
      go_wp2_with fail
      go_ret
      exact ⟨rfl, S9.1⟩
  · have hEi : ((E : Int) == 0) = false := by rw [beq_eq_false_iff_ne]; omega
    clear D
    go_wp2_with fail
    refine (decode_in w [(d, db), (c, cb)] d db (by simp) s hs _ S3).mono ?_
    rintro e w6 ⟨rfl, S6, B6⟩
    have bx6 := B6 _ _ _ _ _ bx3
    by_cases hw : why s.data.toList = 0
    · have hED := enc_dec s hw
      rw [hw]
      generalize dec s = g at *
      obtain ⟨g1, g2, g3, g4⟩ := g
      simp only at hED
      have bz := box_new w6 (g1.toNat : Int) (g2.toNat : Int) (g3.toNat : Int) g4 (0, 0)
      have S7 : St w [(d, db), (c, cb)] (w6.alloc (.cells #[.int .u8 (g1.toNat : Int), .int .u8 (g2.toNat : Int), .int .u8 (g3.toNat : Int), .string g4] 23)) := st_alloc S6
      have cz := bz.2
      obtain ⟨z0, z1, z2, z3⟩ := cz
      clear S6 B6 bx6 bz 
      go_wp2_with fail
      generalize w6.alloc (.cells #[.int .u8 (g1.toNat : Int), .int .u8 (g2.toNat : Int), .int .u8 (g3.toNat : Int), .string g4] 23) = w7 at *
      refine (encode_in w [(d, db), (c, cb)] c cb (by simp) g1 g2 g3 g4 _ S7).mono ?_
      rintro e w8 ⟨rfl, S8, B8⟩
      rw [hED]
      clear S7 B8 z0 z1 z2 z3
      go_wp2_with fail
      refine (fixed_in w [(d, db), (c, cb)] _ S8).mono ?_
      rintro e w9 ⟨rfl, S9, -⟩
      go_wp2_with fail
      go_ret
      exact ⟨rfl, S9.1⟩
    · generalize why s.data.toList = R at *
      have hRi : ((R : Int) == 0) = false := by rw [beq_eq_false_iff_ne]; omega
      generalize dec s = g at *
      obtain ⟨g1, g2, g3, g4⟩ := g
      have S7 : St w [(d, db), (c, cb)] (w6.alloc (.cells #[.int .u8 (g1.toNat : Int), .int .u8 (g2.toNat : Int), .int .u8 (g3.toNat : Int), .string g4] 23)) := st_alloc S6
      clear S6 B6 bx6 
      go_wp2_with fail
      refine (fixed_in w [(d, db), (c, cb)] _ S7).mono ?_
      rintro e w9 ⟨rfl, S9, -⟩
      go_wp2_with fail
      go_ret
      exact ⟨rfl, S9.1⟩
end Go.Proofs.Ytffobfjknbgglaa
