/- The walk of the statement CmdSets: true, and nothing that was there is turned. No condition. -/
import Derived.Test.YtcbmjbldhbgipaaLines
namespace Go.Proofs.Ytcbmjbldhbgipaa
open Go.ChangeShapes Go.WideShapes Go.ChangeAt Go.RowKit
set_option linter.unusedVariables false
set_option linter.unusedSimpArgs false

theorem key_size (k : ByteArray) (h : keyMay k = true) : k.size ≤ 250 := by
  unfold keyMay at h
  simp only [Bool.and_eq_true, decide_eq_true_eq] at h
  exact h.1.2
theorem size_c1 (a : UInt8) : (⟨#[a]⟩ : ByteArray).size = 1 := rfl
theorem size_c4 (a b c d : UInt8) : (⟨#[a, b, c, d]⟩ : ByteArray).size = 4 := rfl
theorem size_c8 (a b c d e f g h : UInt8) : (⟨#[a, b, c, d, e, f, g, h]⟩ : ByteArray).size = 8 := rfl
set_option maxHeartbeats 1600000 in
set_option maxRecDepth 100000 in
theorem sets_n_big (key D1 D2 D3 : ByteArray) (f t b : Int) (hk : keyMay key = true) (hf : 0 ≤ f ∧ f < 4294967296) (ht : -2147483648 ≤ t ∧ t < 2147483648) (hb : 0 ≤ b ∧ b < 4294967296) (hbig : 1024 < b)
    (h1 : ∀ w, Calls Try.prog 13 #[.int .i64 f] w fun e w' => e = .returned (.string D1) ∧ Kept w w') (h2 : ∀ w, Calls Try.prog 13 #[.int .i64 t] w fun e w' => e = .returned (.string D2) ∧ Kept w w') (h3 : ∀ w, Calls Try.prog 13 #[.int .i64 b] w fun e w' => e = .returned (.string D3) ∧ Kept w w')
    (hD : Wd D1 ∧ Wd D2 ∧ Wd D3 ∧ D1.size ≤ 20 ∧ D2.size ≤ 20 ∧ D3.size ≤ 20) (hp : parseC [⟨#[115, 101, 116]⟩, key, D1, D2, D3] = (bad rBig, b)) (w : World) :
    Calls Try.prog 6 #[.string key, .int .u32 f, .int .i32 t, .int .u32 b, .bool false] w fun e w' => e = .returned (.bool true) ∧ Kept w w' := by
  have hz := zero26
  have hsz : key.size ≤ 250 := key_size key hk
  obtain ⟨w1d, w2d, w3d, s1, s2, s3⟩ := hD
  have HW : words ((⟨#[115, 101, 116, 32]⟩ : ByteArray) ++ key ++ (⟨#[32]⟩ : ByteArray) ++ D1 ++ (⟨#[32]⟩ : ByteArray) ++ D2 ++ (⟨#[32]⟩ : ByteArray) ++ D3) = [⟨#[115, 101, 116]⟩, key, D1, D2, D3] := by
    refine words_of _ _ ?_ ?_
    · simp [join, wNo]
    · intro x hx
      simp only [List.mem_cons, List.not_mem_nil, or_false] at hx
      rcases hx with rfl | rfl | rfl | rfl | rfl
      · exact wd_lit_set
      · exact wd_key _ hk
      · exact w1d
      · exact w2d
      · exact w3d
  have HP : Hid (∀ w, _) := fun w => Parse_any ((⟨#[115, 101, 116, 32]⟩ : ByteArray) ++ key ++ (⟨#[32]⟩ : ByteArray) ++ D1 ++ (⟨#[32]⟩ : ByteArray) ++ D2 ++ (⟨#[32]⟩ : ByteArray) ++ D3) (by simp only [ByteArray.size_append, size_c1, size_c4, size_c8]; omega) w
  rw [HW, hp] at HP
  have HM : Hid (∀ w, _) := fun w => refKeyMay_any key (by unfold maxLen; omega) w
  rw [hk] at HM
  have H1 := hid h1
  have H2 := hid h2
  have H3 := hid h3
  have HWk := hid (may_small key hk)
  clear HW hp hk w1d w2d w3d h1 h2 h3
  go_enter Try.func6, Try.ntmps6
  go_wp2_with fail
  refine (HM.out _).mono ?_
  rintro e u1 ⟨rfl, hu⟩
  rw [hu]; clear hu u1
  go_wp2_with fail
  refine (H1.out _).mono ?_
  rintro e u1 ⟨rfl, hk1⟩
  have K1 := hid hk1
  clear hk1
  go_wp2_with fail
  refine (H2.out _).mono ?_
  rintro e u2 ⟨rfl, hk2⟩
  have K2 := hid (kept_trans K1.out hk2)
  clear hk2
  go_wp2_with fail
  refine (H3.out _).mono ?_
  rintro e u3 ⟨rfl, hk3⟩
  have K3 := hid (kept_trans K2.out hk3)
  clear hk3
  go_wp2_with fail
  refine (HP.out _).mono ?_
  rintro e w1 ⟨kv, rfl, hks, hk1⟩
  simp only [bad] at hks ⊢
  obtain ⟨a, m, cap, rfl⟩ := keys_slice hks
  have HKS := hid (keys_kept hks (kept_alloc (kept_refl w1) (.cells #[.int .i64 8, .slice a m cap, .int .u32 0, .int .i64 0, .string ⟨#[]⟩, .bool false, .string rBig] 26)))
  have K4 := hid (kept_alloc (kept_trans K3.out hk1) (.cells #[.int .i64 8, .slice a m cap, .int .u32 0, .int .i64 0, .string ⟨#[]⟩, .bool false, .string rBig] 26))
  have A1 := hid (at_new w1 #[.int .i64 8, .slice a m cap, .int .u32 0, .int .i64 0, .string ⟨#[]⟩, .bool false, .string rBig] 26)
  clear hks hk1 s1 s2 s3
  skip
  go_wp2_with fail
  generalize w1.alloc (.cells #[.int .i64 8, .slice a m cap, .int .u32 0, .int .i64 0, .string ⟨#[]⟩, .bool false, .string rBig] 26) = v1 at *
  generalize w1.heap.size = X1 at *
  refine (fixed_any _).mono ?_
  rintro e w3 ⟨rfl, hk3⟩
  have K5 := hid (kept_trans K4.out hk3)
  obtain ⟨q0, q1, q2, q3, q4, q5, q6, -⟩ := at_cells7 (at_kept A1.out hk3)
  have HKS3 := hid (keys_kept HKS.out hk3)
  clear hk3
  go_wp2_with fail
  go_ret
  exact ⟨rfl, K5.out⟩

set_option maxHeartbeats 1600000 in
set_option maxRecDepth 100000 in
theorem sets_q_big (key D1 D2 D3 : ByteArray) (f t b : Int) (hk : keyMay key = true) (hf : 0 ≤ f ∧ f < 4294967296) (ht : -2147483648 ≤ t ∧ t < 2147483648) (hb : 0 ≤ b ∧ b < 4294967296) (hbig : 1024 < b)
    (h1 : ∀ w, Calls Try.prog 13 #[.int .i64 f] w fun e w' => e = .returned (.string D1) ∧ Kept w w') (h2 : ∀ w, Calls Try.prog 13 #[.int .i64 t] w fun e w' => e = .returned (.string D2) ∧ Kept w w') (h3 : ∀ w, Calls Try.prog 13 #[.int .i64 b] w fun e w' => e = .returned (.string D3) ∧ Kept w w')
    (hD : Wd D1 ∧ Wd D2 ∧ Wd D3 ∧ D1.size ≤ 20 ∧ D2.size ≤ 20 ∧ D3.size ≤ 20) (hp : parseC [⟨#[115, 101, 116]⟩, key, D1, D2, D3, wNo] = (bad rBig, b)) (w : World) :
    Calls Try.prog 6 #[.string key, .int .u32 f, .int .i32 t, .int .u32 b, .bool true] w fun e w' => e = .returned (.bool true) ∧ Kept w w' := by
  have hz := zero26
  have hsz : key.size ≤ 250 := key_size key hk
  obtain ⟨w1d, w2d, w3d, s1, s2, s3⟩ := hD
  have HW : words ((⟨#[115, 101, 116, 32]⟩ : ByteArray) ++ key ++ (⟨#[32]⟩ : ByteArray) ++ D1 ++ (⟨#[32]⟩ : ByteArray) ++ D2 ++ (⟨#[32]⟩ : ByteArray) ++ D3 ++ (⟨#[32, 110, 111, 114, 101, 112, 108, 121]⟩ : ByteArray)) = [⟨#[115, 101, 116]⟩, key, D1, D2, D3, wNo] := by
    refine words_of _ _ ?_ ?_
    · simp [join, wNo]
    · intro x hx
      simp only [List.mem_cons, List.not_mem_nil, or_false] at hx
      rcases hx with rfl | rfl | rfl | rfl | rfl | rfl
      · exact wd_lit_set
      · exact wd_key _ hk
      · exact w1d
      · exact w2d
      · exact w3d
      · exact wd_lit_no
  have HP : Hid (∀ w, _) := fun w => Parse_any ((⟨#[115, 101, 116, 32]⟩ : ByteArray) ++ key ++ (⟨#[32]⟩ : ByteArray) ++ D1 ++ (⟨#[32]⟩ : ByteArray) ++ D2 ++ (⟨#[32]⟩ : ByteArray) ++ D3 ++ (⟨#[32, 110, 111, 114, 101, 112, 108, 121]⟩ : ByteArray)) (by simp only [ByteArray.size_append, size_c1, size_c4, size_c8]; omega) w
  rw [HW, hp] at HP
  have HM : Hid (∀ w, _) := fun w => refKeyMay_any key (by unfold maxLen; omega) w
  rw [hk] at HM
  have H1 := hid h1
  have H2 := hid h2
  have H3 := hid h3
  have HWk := hid (may_small key hk)
  clear HW hp hk w1d w2d w3d h1 h2 h3
  go_enter Try.func6, Try.ntmps6
  go_wp2_with fail
  refine (HM.out _).mono ?_
  rintro e u1 ⟨rfl, hu⟩
  rw [hu]; clear hu u1
  go_wp2_with fail
  refine (H1.out _).mono ?_
  rintro e u1 ⟨rfl, hk1⟩
  have K1 := hid hk1
  clear hk1
  go_wp2_with fail
  refine (H2.out _).mono ?_
  rintro e u2 ⟨rfl, hk2⟩
  have K2 := hid (kept_trans K1.out hk2)
  clear hk2
  go_wp2_with fail
  refine (H3.out _).mono ?_
  rintro e u3 ⟨rfl, hk3⟩
  have K3 := hid (kept_trans K2.out hk3)
  clear hk3
  go_wp2_with fail
  refine (HP.out _).mono ?_
  rintro e w1 ⟨kv, rfl, hks, hk1⟩
  simp only [bad] at hks ⊢
  obtain ⟨a, m, cap, rfl⟩ := keys_slice hks
  have HKS := hid (keys_kept hks (kept_alloc (kept_refl w1) (.cells #[.int .i64 8, .slice a m cap, .int .u32 0, .int .i64 0, .string ⟨#[]⟩, .bool false, .string rBig] 26)))
  have K4 := hid (kept_alloc (kept_trans K3.out hk1) (.cells #[.int .i64 8, .slice a m cap, .int .u32 0, .int .i64 0, .string ⟨#[]⟩, .bool false, .string rBig] 26))
  have A1 := hid (at_new w1 #[.int .i64 8, .slice a m cap, .int .u32 0, .int .i64 0, .string ⟨#[]⟩, .bool false, .string rBig] 26)
  clear hks hk1 s1 s2 s3
  skip
  go_wp2_with fail
  generalize w1.alloc (.cells #[.int .i64 8, .slice a m cap, .int .u32 0, .int .i64 0, .string ⟨#[]⟩, .bool false, .string rBig] 26) = v1 at *
  generalize w1.heap.size = X1 at *
  refine (fixed_any _).mono ?_
  rintro e w3 ⟨rfl, hk3⟩
  have K5 := hid (kept_trans K4.out hk3)
  obtain ⟨q0, q1, q2, q3, q4, q5, q6, -⟩ := at_cells7 (at_kept A1.out hk3)
  have HKS3 := hid (keys_kept HKS.out hk3)
  clear hk3
  go_wp2_with fail
  go_ret
  exact ⟨rfl, K5.out⟩

set_option maxHeartbeats 1600000 in
set_option maxRecDepth 100000 in
theorem sets_n_ok (key D1 D2 D3 : ByteArray) (f t b : Int) (hk : keyMay key = true) (hf : 0 ≤ f ∧ f < 4294967296) (ht : -2147483648 ≤ t ∧ t < 2147483648) (hb : 0 ≤ b ∧ b < 4294967296) (hbig : ¬ 1024 < b)
    (h1 : ∀ w, Calls Try.prog 13 #[.int .i64 f] w fun e w' => e = .returned (.string D1) ∧ Kept w w') (h2 : ∀ w, Calls Try.prog 13 #[.int .i64 t] w fun e w' => e = .returned (.string D2) ∧ Kept w w') (h3 : ∀ w, Calls Try.prog 13 #[.int .i64 b] w fun e w' => e = .returned (.string D3) ∧ Kept w w')
    (hD : Wd D1 ∧ Wd D2 ∧ Wd D3 ∧ D1.size ≤ 20 ∧ D2.size ≤ 20 ∧ D3.size ≤ 20) (hp : parseC [⟨#[115, 101, 116]⟩, key, D1, D2, D3] = ((⟨2, [key], f, t, false, mt⟩ : Cm), b)) (w : World) :
    Calls Try.prog 6 #[.string key, .int .u32 f, .int .i32 t, .int .u32 b, .bool false] w fun e w' => e = .returned (.bool true) ∧ Kept w w' := by
  have hz := zero26
  have hsz : key.size ≤ 250 := key_size key hk
  obtain ⟨w1d, w2d, w3d, s1, s2, s3⟩ := hD
  have HW : words ((⟨#[115, 101, 116, 32]⟩ : ByteArray) ++ key ++ (⟨#[32]⟩ : ByteArray) ++ D1 ++ (⟨#[32]⟩ : ByteArray) ++ D2 ++ (⟨#[32]⟩ : ByteArray) ++ D3) = [⟨#[115, 101, 116]⟩, key, D1, D2, D3] := by
    refine words_of _ _ ?_ ?_
    · simp [join, wNo]
    · intro x hx
      simp only [List.mem_cons, List.not_mem_nil, or_false] at hx
      rcases hx with rfl | rfl | rfl | rfl | rfl
      · exact wd_lit_set
      · exact wd_key _ hk
      · exact w1d
      · exact w2d
      · exact w3d
  have HP : Hid (∀ w, _) := fun w => Parse_any ((⟨#[115, 101, 116, 32]⟩ : ByteArray) ++ key ++ (⟨#[32]⟩ : ByteArray) ++ D1 ++ (⟨#[32]⟩ : ByteArray) ++ D2 ++ (⟨#[32]⟩ : ByteArray) ++ D3) (by simp only [ByteArray.size_append, size_c1, size_c4, size_c8]; omega) w
  rw [HW, hp] at HP
  have HM : Hid (∀ w, _) := fun w => refKeyMay_any key (by unfold maxLen; omega) w
  rw [hk] at HM
  have H1 := hid h1
  have H2 := hid h2
  have H3 := hid h3
  have HWk := hid (may_small key hk)
  clear HW hp hk w1d w2d w3d h1 h2 h3
  go_enter Try.func6, Try.ntmps6
  go_wp2_with fail
  refine (HM.out _).mono ?_
  rintro e u1 ⟨rfl, hu⟩
  rw [hu]; clear hu u1
  go_wp2_with fail
  refine (H1.out _).mono ?_
  rintro e u1 ⟨rfl, hk1⟩
  have K1 := hid hk1
  clear hk1
  go_wp2_with fail
  refine (H2.out _).mono ?_
  rintro e u2 ⟨rfl, hk2⟩
  have K2 := hid (kept_trans K1.out hk2)
  clear hk2
  go_wp2_with fail
  refine (H3.out _).mono ?_
  rintro e u3 ⟨rfl, hk3⟩
  have K3 := hid (kept_trans K2.out hk3)
  clear hk3
  go_wp2_with fail
  refine (HP.out _).mono ?_
  rintro e w1 ⟨kv, rfl, hks, hk1⟩
  simp only at hks ⊢
  obtain ⟨a, m, cap, rfl⟩ := keys_slice hks
  have HKS := hid (keys_kept hks (kept_alloc (kept_refl w1) (.cells #[.int .i64 2, .slice a m cap, .int .u32 f, .int .i64 t, .string ⟨#[]⟩, .bool false, .string ⟨#[]⟩] 26)))
  have K4 := hid (kept_alloc (kept_trans K3.out hk1) (.cells #[.int .i64 2, .slice a m cap, .int .u32 f, .int .i64 t, .string ⟨#[]⟩, .bool false, .string ⟨#[]⟩] 26))
  have A1 := hid (at_new w1 #[.int .i64 2, .slice a m cap, .int .u32 f, .int .i64 t, .string ⟨#[]⟩, .bool false, .string ⟨#[]⟩] 26)
  clear hks hk1 s1 s2 s3
  unfold mt
  go_wp2_with fail
  generalize w1.alloc (.cells #[.int .i64 2, .slice a m cap, .int .u32 f, .int .i64 t, .string ⟨#[]⟩, .bool false, .string ⟨#[]⟩] 26) = v1 at *
  generalize w1.heap.size = X1 at *
  refine (fixed_any _).mono ?_
  rintro e w3 ⟨rfl, hk3⟩
  have K5 := hid (kept_trans K4.out hk3)
  obtain ⟨q0, q1, q2, q3, q4, q5, q6, -⟩ := at_cells7 (at_kept A1.out hk3)
  have HKS3 := hid (keys_kept HKS.out hk3)
  clear hk3
  go_wp2_with fail
  refine (same_any ⟨2, [key], f, t, false, mt⟩ (by simp) _ _ _ (keys_kept HKS3.out (kept_alloc (kept_refl w3) (.cells #[.string key] 9))) (keys_one w3 key 9)).mono ?_
  rintro e w4 ⟨rfl, hk4⟩
  have K6 := hid (kept_trans (kept_alloc K5.out (.cells #[.string key] 9)) hk4)
  clear hk4
  go_wp2_with fail
  go_ret
  exact ⟨rfl, K6.out⟩

set_option maxHeartbeats 1600000 in
set_option maxRecDepth 100000 in
theorem sets_q_ok (key D1 D2 D3 : ByteArray) (f t b : Int) (hk : keyMay key = true) (hf : 0 ≤ f ∧ f < 4294967296) (ht : -2147483648 ≤ t ∧ t < 2147483648) (hb : 0 ≤ b ∧ b < 4294967296) (hbig : ¬ 1024 < b)
    (h1 : ∀ w, Calls Try.prog 13 #[.int .i64 f] w fun e w' => e = .returned (.string D1) ∧ Kept w w') (h2 : ∀ w, Calls Try.prog 13 #[.int .i64 t] w fun e w' => e = .returned (.string D2) ∧ Kept w w') (h3 : ∀ w, Calls Try.prog 13 #[.int .i64 b] w fun e w' => e = .returned (.string D3) ∧ Kept w w')
    (hD : Wd D1 ∧ Wd D2 ∧ Wd D3 ∧ D1.size ≤ 20 ∧ D2.size ≤ 20 ∧ D3.size ≤ 20) (hp : parseC [⟨#[115, 101, 116]⟩, key, D1, D2, D3, wNo] = ((⟨2, [key], f, t, true, mt⟩ : Cm), b)) (w : World) :
    Calls Try.prog 6 #[.string key, .int .u32 f, .int .i32 t, .int .u32 b, .bool true] w fun e w' => e = .returned (.bool true) ∧ Kept w w' := by
  have hz := zero26
  have hsz : key.size ≤ 250 := key_size key hk
  obtain ⟨w1d, w2d, w3d, s1, s2, s3⟩ := hD
  have HW : words ((⟨#[115, 101, 116, 32]⟩ : ByteArray) ++ key ++ (⟨#[32]⟩ : ByteArray) ++ D1 ++ (⟨#[32]⟩ : ByteArray) ++ D2 ++ (⟨#[32]⟩ : ByteArray) ++ D3 ++ (⟨#[32, 110, 111, 114, 101, 112, 108, 121]⟩ : ByteArray)) = [⟨#[115, 101, 116]⟩, key, D1, D2, D3, wNo] := by
    refine words_of _ _ ?_ ?_
    · simp [join, wNo]
    · intro x hx
      simp only [List.mem_cons, List.not_mem_nil, or_false] at hx
      rcases hx with rfl | rfl | rfl | rfl | rfl | rfl
      · exact wd_lit_set
      · exact wd_key _ hk
      · exact w1d
      · exact w2d
      · exact w3d
      · exact wd_lit_no
  have HP : Hid (∀ w, _) := fun w => Parse_any ((⟨#[115, 101, 116, 32]⟩ : ByteArray) ++ key ++ (⟨#[32]⟩ : ByteArray) ++ D1 ++ (⟨#[32]⟩ : ByteArray) ++ D2 ++ (⟨#[32]⟩ : ByteArray) ++ D3 ++ (⟨#[32, 110, 111, 114, 101, 112, 108, 121]⟩ : ByteArray)) (by simp only [ByteArray.size_append, size_c1, size_c4, size_c8]; omega) w
  rw [HW, hp] at HP
  have HM : Hid (∀ w, _) := fun w => refKeyMay_any key (by unfold maxLen; omega) w
  rw [hk] at HM
  have H1 := hid h1
  have H2 := hid h2
  have H3 := hid h3
  have HWk := hid (may_small key hk)
  clear HW hp hk w1d w2d w3d h1 h2 h3
  go_enter Try.func6, Try.ntmps6
  go_wp2_with fail
  refine (HM.out _).mono ?_
  rintro e u1 ⟨rfl, hu⟩
  rw [hu]; clear hu u1
  go_wp2_with fail
  refine (H1.out _).mono ?_
  rintro e u1 ⟨rfl, hk1⟩
  have K1 := hid hk1
  clear hk1
  go_wp2_with fail
  refine (H2.out _).mono ?_
  rintro e u2 ⟨rfl, hk2⟩
  have K2 := hid (kept_trans K1.out hk2)
  clear hk2
  go_wp2_with fail
  refine (H3.out _).mono ?_
  rintro e u3 ⟨rfl, hk3⟩
  have K3 := hid (kept_trans K2.out hk3)
  clear hk3
  go_wp2_with fail
  refine (HP.out _).mono ?_
  rintro e w1 ⟨kv, rfl, hks, hk1⟩
  simp only at hks ⊢
  obtain ⟨a, m, cap, rfl⟩ := keys_slice hks
  have HKS := hid (keys_kept hks (kept_alloc (kept_refl w1) (.cells #[.int .i64 2, .slice a m cap, .int .u32 f, .int .i64 t, .string ⟨#[]⟩, .bool true, .string ⟨#[]⟩] 26)))
  have K4 := hid (kept_alloc (kept_trans K3.out hk1) (.cells #[.int .i64 2, .slice a m cap, .int .u32 f, .int .i64 t, .string ⟨#[]⟩, .bool true, .string ⟨#[]⟩] 26))
  have A1 := hid (at_new w1 #[.int .i64 2, .slice a m cap, .int .u32 f, .int .i64 t, .string ⟨#[]⟩, .bool true, .string ⟨#[]⟩] 26)
  clear hks hk1 s1 s2 s3
  unfold mt
  go_wp2_with fail
  generalize w1.alloc (.cells #[.int .i64 2, .slice a m cap, .int .u32 f, .int .i64 t, .string ⟨#[]⟩, .bool true, .string ⟨#[]⟩] 26) = v1 at *
  generalize w1.heap.size = X1 at *
  refine (fixed_any _).mono ?_
  rintro e w3 ⟨rfl, hk3⟩
  have K5 := hid (kept_trans K4.out hk3)
  obtain ⟨q0, q1, q2, q3, q4, q5, q6, -⟩ := at_cells7 (at_kept A1.out hk3)
  have HKS3 := hid (keys_kept HKS.out hk3)
  clear hk3
  go_wp2_with fail
  refine (same_any ⟨2, [key], f, t, true, mt⟩ (by simp) _ _ _ (keys_kept HKS3.out (kept_alloc (kept_refl w3) (.cells #[.string key] 9))) (keys_one w3 key 9)).mono ?_
  rintro e w4 ⟨rfl, hk4⟩
  have K6 := hid (kept_trans (kept_alloc K5.out (.cells #[.string key] 9)) hk4)
  clear hk4
  go_wp2_with fail
  go_ret
  exact ⟨rfl, K6.out⟩
end Go.Proofs.Ytcbmjbldhbgipaa
