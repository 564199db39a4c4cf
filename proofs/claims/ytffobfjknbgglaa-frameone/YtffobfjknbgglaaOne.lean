/- The law that a frame has twelve bytes more than its body, and that two of them, or a beginning of one, are none, walked: it answers true and turns nothing that was there. Texts have at most as many bytes as a text may have. -/
import Derived.Test.YtffobfjknbgglaaBack
namespace Go.Proofs.Ytffobfjknbgglaa
open Go.ChangeShapes Go.WideShapes Go.ChangeAt Go.RowKit
set_option linter.unusedVariables false
set_option linter.unusedSimpArgs false

theorem lay_size (k f t : UInt8) (s : ByteArray) : (⟨(lay k f t s.data.toList).toArray⟩ : ByteArray).size = 12 + s.size := by
  show (lay k f t s.data.toList).toArray.size = _
  rw [List.size_toArray, lay_length, toList_size]
theorem enc_size (k f t : UInt8) (s : ByteArray) : (encS k f t s).1.size ≤ 12 + s.size := by
  unfold encS
  split
  · show 0 ≤ _; omega
  split
  · show (⟨(lay k f t s.data.toList).toArray⟩ : ByteArray).size ≤ _
    rw [lay_size]; exact Nat.le_refl _
  · show 0 ≤ _; omega
theorem toList_append (a b : ByteArray) : (a ++ b).data.toList = a.data.toList ++ b.data.toList := by
  rw [ByteArray.data_append, Array.toList_append]
/- What holds of two frames that were laid. -/
theorem one_facts (k f t k' f' t' : UInt8) (a b : ByteArray) (h : (encS k f t a).2 = 0) (h' : (encS k' f' t' b).2 = 0) :
    (encS k f t a).1.size = 12 + a.size ∧ why ((encS k f t a).1 ++ (encS k' f' t' b).1).data.toList = 3 ∧ ∀ p, p < (encS k f t a).1.size → why ((encS k f t a).1.extract 0 p).data.toList = 2 := by
  obtain ⟨h1, h2, h3⟩ := enc_ok k f t a h
  obtain ⟨h1', h2', h3'⟩ := enc_ok k' f' t' b h'
  have hl : a.data.toList.length ≤ 1048576 := by rw [toList_size]; exact h1
  rw [h3, h3']
  refine ⟨lay_size k f t a, ?_, fun p hp => ?_⟩
  · rw [toList_append]
    exact why_two k f t a.data.toList (lay k' f' t' b.data.toList) h2 hl (by rw [lay_length]; omega)
  · rw [extract_list]
    show why (List.take (p - 0) (List.drop 0 (lay k f t a.data.toList))) = 2
    rw [Nat.sub_zero, List.drop_zero]
    refine why_take k f t a.data.toList h2 hl p ?_
    rw [lay_size] at hp
    rw [lay_length, toList_size]; exact hp
set_option maxHeartbeats 3200000 in
set_option maxRecDepth 100000 in
theorem one_walk (k f t : UInt8) (a : ByteArray) (k' f' t' : UInt8) (b : ByteArray) (n : Int) (ha0 : a.size ≤ maxLen) (hb0 : b.size ≤ maxLen) (hn0 : (Lit.int .u16 n).wf = true) (w : World) :
    Calls Try.prog 7 #[frameV k f t a, frameV k' f' t' b, .int .u16 n] w fun e w' => e = .returned (.bool true) ∧ Kept w w' := by
  unfold frameV
  have hn := bounds_u16 hn0
  clear ha0 hb0 hn0
  have hz := zero23
  have bx0 := box_new w (k.toNat : Int) (f.toNat : Int) (t.toNat : Int) a (0, 0)
  have S0 : St w [] (w.alloc (.cells #[.int .u8 (k.toNat : Int), .int .u8 (f.toNat : Int), .int .u8 (t.toNat : Int), .string a] 23)) := st_alloc (St.start w)
  by_cases h1 : (3000 : Int) < (a.size : Int)
  · clear hn bx0
    go_enter Try.func7, Try.ntmps7
    go_wp2_with fail
    refine (fixed_in w [] _ (st_alloc S0)).mono ?_
    rintro e w1 ⟨rfl, S1, -⟩
    go_wp2_with fail
    go_ret
    exact ⟨rfl, S1.1⟩
  by_cases h2 : (3000 : Int) < (b.size : Int)
  · clear hn bx0
    go_enter Try.func7, Try.ntmps7
    go_wp2_with fail
    refine (fixed_in w [] _ (st_alloc S0)).mono ?_
    rintro e w1 ⟨rfl, S1, -⟩
    go_wp2_with fail
    go_ret
    exact ⟨rfl, S1.1⟩
  have FF := one_facts k f t k' f' t' a b
  have hA := enc_size k f t a
  have hB := enc_size k' f' t' b
  have by0 := box_new (w.alloc (.cells #[.int .u8 (k.toNat : Int), .int .u8 (f.toNat : Int), .int .u8 (t.toNat : Int), .string a] 23)) (k'.toNat : Int) (f'.toNat : Int) (t'.toNat : Int) b (0, 0)
  have bx0' := bx_alloc (o := .cells #[.int .u8 (k'.toNat : Int), .int .u8 (f'.toNat : Int), .int .u8 (t'.toNat : Int), .string b] 23) _ _ _ _ _ bx0
  have S0' : St w [] ((w.alloc (.cells #[.int .u8 (k.toNat : Int), .int .u8 (f.toNat : Int), .int .u8 (t.toNat : Int), .string a] 23)).alloc (.cells #[.int .u8 (k'.toNat : Int), .int .u8 (f'.toNat : Int), .int .u8 (t'.toNat : Int), .string b] 23)) := st_alloc S0
  have HN : Hid (0 ≤ n ∧ n < 65536) := by show _ ∧ _; omega
  clear bx0 S0 hn
  rw [show (w.alloc (.cells #[.int .u8 (k.toNat : Int), .int .u8 (f.toNat : Int), .int .u8 (t.toNat : Int), .string a] 23)).heap.size = w.heap.size + 1 by simp] at by0
  go_enter Try.func7, Try.ntmps7
  go_wp2_with fail
  generalize (w.alloc (.cells #[.int .u8 (k.toNat : Int), .int .u8 (f.toNat : Int), .int .u8 (t.toNat : Int), .string a] 23)).alloc (.cells #[.int .u8 (k'.toNat : Int), .int .u8 (f'.toNat : Int), .int .u8 (t'.toNat : Int), .string b] 23) = w0 at *
  generalize w.heap.size + 1 = Y at *
  generalize hX : w.heap.size = X at *
  clear hX
  refine (new_in w [] _ S0').mono ?_
  rintro e w1 ⟨c, cb, rfl, S1, B1⟩
  have bx1 := B1 _ _ _ _ _ bx0'
  have by1 := B1 _ _ _ _ _ by0
  obtain ⟨-, x0, x1, x2, x3⟩ := id bx1
  clear S0' B1 bx0' by0
  go_wp2_with fail
  refine (encode_in w [(c, cb)] c cb (by simp) k f t a _ S1).mono ?_
  rintro e w2 ⟨rfl, S2, B2⟩
  have bx2 := B2 _ _ _ _ _ bx1
  have by2 := B2 _ _ _ _ _ by1
  obtain ⟨-, y0, y1, y2, y3⟩ := id by2
  clear S1 B2 bx1 by1 x0 x1 x2 x3
  generalize encS k f t a = E1 at *
  obtain ⟨P, E1⟩ := E1
  go_wp2_with fail
  refine (encode_in w [(c, cb)] c cb (by simp) k' f' t' b _ S2).mono ?_
  rintro e w3 ⟨rfl, S3, B3⟩
  have bx3 := B3 _ _ _ _ _ bx2
  clear S2 B3 bx2 by2 y0 y1 y2 y3
  generalize encS k' f' t' b = E2 at *
  obtain ⟨Q, E2⟩ := E2
  simp only at FF hA hB
  by_cases hE1 : E1 = 0
  · by_cases hE2 : E2 = 0
    · subst hE1
      subst hE2
      obtain ⟨F1, F2, F3⟩ := FF rfl rfl
      clear FF
      have HPi : Hid ((P.size : Int) = 12 + (a.size : Int)) := by show _ = _; omega
      have hP0 : ¬ (P.size : Int) = 0 := by omega
      obtain ⟨p, hp, hpl⟩ : ∃ p : Nat, n % (P.size : Int) = (p : Int) ∧ p < P.size :=
        ⟨(n % (P.size : Int)).toNat, by have := Int.emod_nonneg n hP0; omega, by have := Int.emod_nonneg n hP0; have := Int.emod_lt_of_pos n (show (0 : Int) < P.size by omega); omega⟩
      have F4 := F3 p hpl
      have hsl : ∀ w, (Instr.slice 9 (.string P) none (some (.int .i64 (p : Int))) none).run Try.prog w = .ok (.string (P.extract 0 p)) w := fun w => by
        rw [run_slice_string_to_if (P := Try.prog) w 9 P .i64 (p : Int) Try.underlying9, if_pos ⟨by omega, by omega⟩, Int.toNat_natCast]
      have hPQ : (P ++ Q).size ≤ 140737488355328 := by rw [ByteArray.size_append]; omega
      have hPx : (P.extract 0 p).size ≤ 140737488355328 := by simp; omega
      have hsum : P.size + Q.size ≤ 9223372036854775807 := by omega
      have hn0 := HN.out.1
      have hn1 : n ≤ 65535 := by have := HN.out.2; omega
      clear F1 F3
      have HA : Hid (P.size ≤ 12 + a.size) := hA
      have HB : Hid (Q.size ≤ 12 + b.size) := hB
      clear hA hB
      go_wp2_with fail
      refine (decode_in w [(c, cb)] c cb (by simp) (P ++ Q) hPQ _ S3).mono ?_
      rintro e w4 ⟨rfl, S4, B4⟩
      have bx4 := B4 _ _ _ _ _ bx3
      rw [F2]
      generalize dec (P ++ Q) = g at *
      obtain ⟨g1, g2, g3, g4⟩ := g
      have S5 : St w [(c, cb)] (w4.alloc (.cells #[.int .u8 (g1.toNat : Int), .int .u8 (g2.toNat : Int), .int .u8 (g3.toNat : Int), .string g4] 23)) := st_alloc S4
      have bx5 := bx_alloc (o := .cells #[.int .u8 (g1.toNat : Int), .int .u8 (g2.toNat : Int), .int .u8 (g3.toNat : Int), .string g4] 23) _ _ _ _ _ bx4
      clear S4 B4 bx4 bx3 S3 F2 hPQ
      go_wp2_with fail
      generalize w4.alloc (.cells #[.int .u8 (g1.toNat : Int), .int .u8 (g2.toNat : Int), .int .u8 (g3.toNat : Int), .string g4] 23) = w5 at *
      refine (decode_in w [(c, cb)] c cb (by simp) (P.extract 0 p) hPx _ S5).mono ?_
      rintro e w6 ⟨rfl, S6, B6⟩
      have bx6 := B6 _ _ _ _ _ bx5
      rw [F4]
      generalize dec (P.extract 0 p) = g at *
      obtain ⟨u1, u2, u3, u4⟩ := g
      have S7 : St w [(c, cb)] (w6.alloc (.cells #[.int .u8 (u1.toNat : Int), .int .u8 (u2.toNat : Int), .int .u8 (u3.toNat : Int), .string u4] 23)) := st_alloc S6
      have bx7 := bx_alloc (o := .cells #[.int .u8 (u1.toNat : Int), .int .u8 (u2.toNat : Int), .int .u8 (u3.toNat : Int), .string u4] 23) _ _ _ _ _ bx6
      clear S6 B6 bx6 S5 bx5 F4 hPx hsl hp hn0 hn1
      go_wp2_with fail
      generalize w6.alloc (.cells #[.int .u8 (u1.toNat : Int), .int .u8 (u2.toNat : Int), .int .u8 (u3.toNat : Int), .string u4] 23) = w7 at *
      refine (fixed_in w [(c, cb)] _ S7).mono ?_
      rintro e w8 ⟨rfl, S8, B8⟩
      obtain ⟨-, x0, x1, x2, x3⟩ := B8 _ _ _ _ _ bx7
      clear S7 B8 bx7
      have hPi := HPi.out
      go_wp2_with fail
      go_ret
      exact ⟨rfl, S8.1⟩
    · subst hE1
      have hi : ((E2 : Int) != 0) = true := by rw [bne_iff_ne]; omega
      clear FF
      go_wp2_with fail
      refine (fixed_in w [(c, cb)] _ S3).mono ?_
      rintro e w9 ⟨rfl, S9, -⟩
      go_wp2_with fail
      go_ret
      exact ⟨rfl, S9.1⟩
  · have hi : ((E1 : Int) != 0) = true := by rw [bne_iff_ne]; omega
    clear FF
    go_wp2_with fail
    refine (fixed_in w [(c, cb)] _ S3).mono ?_
    rintro e w9 ⟨rfl, S9, -⟩
    go_wp2_with fail
    go_ret
    exact ⟨rfl, S9.1⟩
end Go.Proofs.Ytffobfjknbgglaa
