/- The walk of the statement CmdNoreply: true, and nothing that was there is turned. No condition. -/
import Derived.Test.YtcbmjbldhbgipaaLawSets2
namespace Go.Proofs.Ytcbmjbldhbgipaa
open Go.ChangeShapes Go.WideShapes Go.ChangeAt Go.RowKit
set_option linter.unusedVariables false
set_option linter.unusedSimpArgs false

theorem size_c5 (a b c d e : UInt8) : (⟨#[a, b, c, d, e]⟩ : ByteArray).size = 5 := rfl
theorem size_c6 (a b c d e f : UInt8) : (⟨#[a, b, c, d, e, f]⟩ : ByteArray).size = 6 := rfl
theorem size_c7 (a b c d e f g : UInt8) : (⟨#[a, b, c, d, e, f, g]⟩ : ByteArray).size = 7 := rfl
set_option maxHeartbeats 1600000 in
set_option maxRecDepth 100000 in
theorem nore_0 (key D1 D2 : ByteArray) (kd n m : Int) (hk : keyMay key = true) (hkd : 0 ≤ kd ∧ kd < 256) (hi : Int.tmod kd 3 = 0) (hn : 0 ≤ n ∧ n < 65536) (hm : Int.tmod n 1025 = m) (hm2 : 0 ≤ m ∧ m < 1025)
    (h1 : ∀ w, Calls Try.prog 13 #[.int .i64 n] w fun e w' => e = .returned (.string D1) ∧ Kept w w') (h2 : ∀ w, Calls Try.prog 13 #[.int .i64 m] w fun e w' => e = .returned (.string D2) ∧ Kept w w')
    (hD : Wd D1 ∧ Wd D2 ∧ D1.size ≤ 20 ∧ D2.size ≤ 20) (hp : parseC [⟨#[100, 101, 108, 101, 116, 101]⟩, key] = (⟨3, [key], 0, 0, false, mt⟩, -1)) (hq : parseC [⟨#[100, 101, 108, 101, 116, 101]⟩, key, wNo] = (⟨3, [key], 0, 0, true, mt⟩, -1)) (w : World) :
    Calls Try.prog 7 #[.string key, .int .u8 kd, .int .u16 n] w fun e w' => e = .returned (.bool true) ∧ Kept w w' := by
  have hz := zero26
  have hsz : key.size ≤ 250 := key_size key hk
  obtain ⟨w1d, w2d, s1, s2⟩ := hD
  have HW : words ((⟨#[100, 101, 108, 101, 116, 101, 32]⟩ : ByteArray) ++ key) = [⟨#[100, 101, 108, 101, 116, 101]⟩, key] := by
    refine words_of _ _ ?_ ?_
    · simp [join, wNo]
    · intro x hx
      simp only [List.mem_cons, List.not_mem_nil, or_false] at hx
      rcases hx with rfl | rfl
      · exact wd_lit_delete
      · exact wd_key _ hk
  have HV : words ((⟨#[100, 101, 108, 101, 116, 101, 32]⟩ : ByteArray) ++ key ++ (⟨#[32, 110, 111, 114, 101, 112, 108, 121]⟩ : ByteArray)) = [⟨#[100, 101, 108, 101, 116, 101]⟩, key, wNo] := by
    refine words_of _ _ ?_ ?_
    · simp [join, wNo]
    · intro x hx
      simp only [List.mem_cons, List.not_mem_nil, or_false] at hx
      rcases hx with rfl | rfl | rfl
      · exact wd_lit_delete
      · exact wd_key _ hk
      · exact wd_lit_no
  have HP : Hid (∀ w, _) := fun w => Parse_any ((⟨#[100, 101, 108, 101, 116, 101, 32]⟩ : ByteArray) ++ key) (by simp only [ByteArray.size_append, size_c1, size_c4, size_c5, size_c6, size_c7, size_c8]; omega) w
  rw [HW, hp] at HP
  have HQ : Hid (∀ w, _) := fun w => Parse_any ((⟨#[100, 101, 108, 101, 116, 101, 32]⟩ : ByteArray) ++ key ++ (⟨#[32, 110, 111, 114, 101, 112, 108, 121]⟩ : ByteArray)) (by simp only [ByteArray.size_append, size_c1, size_c4, size_c5, size_c6, size_c7, size_c8]; omega) w
  rw [HV, hq] at HQ
  have HM : Hid (∀ w, _) := fun w => refKeyMay_any key (by unfold maxLen; omega) w
  rw [hk] at HM
  have H1 := hid h1
  have H2 := hid h2
  clear HW HV hp hq hk w1d w2d h1 h2
  go_enter Try.func7, Try.ntmps7
  go_wp2_with fail
  refine (HM.out _).mono ?_
  rintro e u1 ⟨rfl, hu⟩
  rw [hu]; clear hu u1
  go_wp2_with fail
  refine (H1.out _).mono ?_
  rintro e u1 ⟨rfl, hk1⟩
  have K1 := hid hk1
  clear hk1
  go_wp2_with fail
  refine (H2.out _).mono ?_
  rintro e u2 ⟨rfl, hk2⟩
  have K2 := hid (kept_trans K1.out hk2)
  clear hk2
  go_wp2_with fail
  refine (HP.out _).mono ?_
  rintro e w1 ⟨kv, rfl, hks, hk1⟩
  simp only at hks ⊢
  obtain ⟨a1, m1, c1, rfl⟩ := keys_slice hks
  have S1 := hid (keys_kept hks (kept_alloc (kept_refl w1) (.cells #[.int .i64 3, .slice a1 m1 c1, .int .u32 0, .int .i64 0, .string ⟨#[]⟩, .bool false, .string ⟨#[]⟩] 26)))
  have K4 := hid (kept_alloc (kept_trans (kept_alloc K2.out _) hk1) (.cells #[.int .i64 3, .slice a1 m1 c1, .int .u32 0, .int .i64 0, .string ⟨#[]⟩, .bool false, .string ⟨#[]⟩] 26))
  have A1 := hid (at_new w1 #[.int .i64 3, .slice a1 m1 c1, .int .u32 0, .int .i64 0, .string ⟨#[]⟩, .bool false, .string ⟨#[]⟩] 26)
  clear hks hk1
  unfold mt
  go_wp2_with fail
  generalize w1.alloc (.cells #[.int .i64 3, .slice a1 m1 c1, .int .u32 0, .int .i64 0, .string ⟨#[]⟩, .bool false, .string ⟨#[]⟩] 26) = v1 at *
  generalize w1.heap.size = X1 at *
  refine (HQ.out _).mono ?_
  rintro e w2 ⟨kv, rfl, hks, hk1⟩
  simp only at hks ⊢
  obtain ⟨a2, m2, c2, rfl⟩ := keys_slice hks
  have T1 := hid (kept_alloc hk1 (.cells #[.int .i64 3, .slice a2 m2 c2, .int .u32 0, .int .i64 0, .string ⟨#[]⟩, .bool false, .string ⟨#[]⟩] 26))
  have S2 := hid (keys_kept hks (kept_alloc (kept_refl w2) (.cells #[.int .i64 3, .slice a2 m2 c2, .int .u32 0, .int .i64 0, .string ⟨#[]⟩, .bool false, .string ⟨#[]⟩] 26)))
  have A2 := hid (at_new w2 #[.int .i64 3, .slice a2 m2 c2, .int .u32 0, .int .i64 0, .string ⟨#[]⟩, .bool false, .string ⟨#[]⟩] 26)
  clear hks hk1 s1 s2
  unfold mt
  go_wp2_with fail
  generalize w2.alloc (.cells #[.int .i64 3, .slice a2 m2 c2, .int .u32 0, .int .i64 0, .string ⟨#[]⟩, .bool false, .string ⟨#[]⟩] 26) = v2 at *
  generalize w2.heap.size = X2 at *
  refine (fixed_any _).mono ?_
  rintro e w3 ⟨rfl, hk3⟩
  have T2 := hid (kept_trans T1.out hk3)
  obtain ⟨q0, q1, q2, q3, q4, q5, q6, -⟩ := at_cells7 (at_kept A1.out (kept_trans T1.out hk3))
  obtain ⟨r0, r1, r2, r3, r4, r5, r6, -⟩ := at_cells7 (at_kept A2.out hk3)
  have S2' := hid (keys_kept S2.out hk3)
  have S1' := hid (keys_kept S1.out (kept_trans T1.out hk3))
  clear hk3
  go_wp2_with fail
  refine (same_any ⟨3, [key], 0, 0, false, mt⟩ (by simp) _ _ _ S1'.out S2'.out).mono ?_
  rintro e w4 ⟨rfl, hk4⟩
  have K6 := hid (kept_trans K4.out (kept_trans T2.out hk4))
  obtain ⟨p0, p1, p2, p3, p4, p5, p6, -⟩ := at_cells7 (at_kept A1.out (kept_trans T2.out hk4))
  clear hk4 q0 q1 q2 q3 q4 q5 q6 r0 r1 r2 r3 r4 r5 r6
  go_wp2_with fail
  go_ret
  exact ⟨rfl, K6.out⟩

set_option maxHeartbeats 1600000 in
set_option maxRecDepth 100000 in
theorem nore_1 (key D1 D2 : ByteArray) (kd n m : Int) (hk : keyMay key = true) (hkd : 0 ≤ kd ∧ kd < 256) (hi : Int.tmod kd 3 = 1) (hn : 0 ≤ n ∧ n < 65536) (hm : Int.tmod n 1025 = m) (hm2 : 0 ≤ m ∧ m < 1025)
    (h1 : ∀ w, Calls Try.prog 13 #[.int .i64 n] w fun e w' => e = .returned (.string D1) ∧ Kept w w') (h2 : ∀ w, Calls Try.prog 13 #[.int .i64 m] w fun e w' => e = .returned (.string D2) ∧ Kept w w')
    (hD : Wd D1 ∧ Wd D2 ∧ D1.size ≤ 20 ∧ D2.size ≤ 20) (hp : parseC [⟨#[116, 111, 117, 99, 104]⟩, key, D1] = (⟨4, [key], 0, n, false, mt⟩, -1)) (hq : parseC [⟨#[116, 111, 117, 99, 104]⟩, key, D1, wNo] = (⟨4, [key], 0, n, true, mt⟩, -1)) (w : World) :
    Calls Try.prog 7 #[.string key, .int .u8 kd, .int .u16 n] w fun e w' => e = .returned (.bool true) ∧ Kept w w' := by
  have hz := zero26
  have hsz : key.size ≤ 250 := key_size key hk
  obtain ⟨w1d, w2d, s1, s2⟩ := hD
  have HW : words ((⟨#[116, 111, 117, 99, 104, 32]⟩ : ByteArray) ++ key ++ (⟨#[32]⟩ : ByteArray) ++ D1) = [⟨#[116, 111, 117, 99, 104]⟩, key, D1] := by
    refine words_of _ _ ?_ ?_
    · simp [join, wNo]
    · intro x hx
      simp only [List.mem_cons, List.not_mem_nil, or_false] at hx
      rcases hx with rfl | rfl | rfl
      · exact wd_lit_touch
      · exact wd_key _ hk
      · exact w1d
  have HV : words ((⟨#[116, 111, 117, 99, 104, 32]⟩ : ByteArray) ++ key ++ (⟨#[32]⟩ : ByteArray) ++ D1 ++ (⟨#[32, 110, 111, 114, 101, 112, 108, 121]⟩ : ByteArray)) = [⟨#[116, 111, 117, 99, 104]⟩, key, D1, wNo] := by
    refine words_of _ _ ?_ ?_
    · simp [join, wNo]
    · intro x hx
      simp only [List.mem_cons, List.not_mem_nil, or_false] at hx
      rcases hx with rfl | rfl | rfl | rfl
      · exact wd_lit_touch
      · exact wd_key _ hk
      · exact w1d
      · exact wd_lit_no
  have HP : Hid (∀ w, _) := fun w => Parse_any ((⟨#[116, 111, 117, 99, 104, 32]⟩ : ByteArray) ++ key ++ (⟨#[32]⟩ : ByteArray) ++ D1) (by simp only [ByteArray.size_append, size_c1, size_c4, size_c5, size_c6, size_c7, size_c8]; omega) w
  rw [HW, hp] at HP
  have HQ : Hid (∀ w, _) := fun w => Parse_any ((⟨#[116, 111, 117, 99, 104, 32]⟩ : ByteArray) ++ key ++ (⟨#[32]⟩ : ByteArray) ++ D1 ++ (⟨#[32, 110, 111, 114, 101, 112, 108, 121]⟩ : ByteArray)) (by simp only [ByteArray.size_append, size_c1, size_c4, size_c5, size_c6, size_c7, size_c8]; omega) w
  rw [HV, hq] at HQ
  have HM : Hid (∀ w, _) := fun w => refKeyMay_any key (by unfold maxLen; omega) w
  rw [hk] at HM
  have H1 := hid h1
  have H2 := hid h2
  clear HW HV hp hq hk w1d w2d h1 h2
  go_enter Try.func7, Try.ntmps7
  go_wp2_with fail
  refine (HM.out _).mono ?_
  rintro e u1 ⟨rfl, hu⟩
  rw [hu]; clear hu u1
  go_wp2_with fail
  refine (H1.out _).mono ?_
  rintro e u1 ⟨rfl, hk1⟩
  have K1 := hid hk1
  clear hk1
  go_wp2_with fail
  refine (H2.out _).mono ?_
  rintro e u2 ⟨rfl, hk2⟩
  have K2 := hid (kept_trans K1.out hk2)
  clear hk2
  go_wp2_with fail
  refine (HP.out _).mono ?_
  rintro e w1 ⟨kv, rfl, hks, hk1⟩
  simp only at hks ⊢
  obtain ⟨a1, m1, c1, rfl⟩ := keys_slice hks
  have S1 := hid (keys_kept hks (kept_alloc (kept_refl w1) (.cells #[.int .i64 4, .slice a1 m1 c1, .int .u32 0, .int .i64 n, .string ⟨#[]⟩, .bool false, .string ⟨#[]⟩] 26)))
  have K4 := hid (kept_alloc (kept_trans (kept_alloc K2.out _) hk1) (.cells #[.int .i64 4, .slice a1 m1 c1, .int .u32 0, .int .i64 n, .string ⟨#[]⟩, .bool false, .string ⟨#[]⟩] 26))
  have A1 := hid (at_new w1 #[.int .i64 4, .slice a1 m1 c1, .int .u32 0, .int .i64 n, .string ⟨#[]⟩, .bool false, .string ⟨#[]⟩] 26)
  clear hks hk1
  unfold mt
  go_wp2_with fail
  generalize w1.alloc (.cells #[.int .i64 4, .slice a1 m1 c1, .int .u32 0, .int .i64 n, .string ⟨#[]⟩, .bool false, .string ⟨#[]⟩] 26) = v1 at *
  generalize w1.heap.size = X1 at *
  refine (HQ.out _).mono ?_
  rintro e w2 ⟨kv, rfl, hks, hk1⟩
  simp only at hks ⊢
  obtain ⟨a2, m2, c2, rfl⟩ := keys_slice hks
  have T1 := hid (kept_alloc hk1 (.cells #[.int .i64 4, .slice a2 m2 c2, .int .u32 0, .int .i64 n, .string ⟨#[]⟩, .bool false, .string ⟨#[]⟩] 26))
  have S2 := hid (keys_kept hks (kept_alloc (kept_refl w2) (.cells #[.int .i64 4, .slice a2 m2 c2, .int .u32 0, .int .i64 n, .string ⟨#[]⟩, .bool false, .string ⟨#[]⟩] 26)))
  have A2 := hid (at_new w2 #[.int .i64 4, .slice a2 m2 c2, .int .u32 0, .int .i64 n, .string ⟨#[]⟩, .bool false, .string ⟨#[]⟩] 26)
  clear hks hk1 s1 s2
  unfold mt
  go_wp2_with fail
  generalize w2.alloc (.cells #[.int .i64 4, .slice a2 m2 c2, .int .u32 0, .int .i64 n, .string ⟨#[]⟩, .bool false, .string ⟨#[]⟩] 26) = v2 at *
  generalize w2.heap.size = X2 at *
  refine (fixed_any _).mono ?_
  rintro e w3 ⟨rfl, hk3⟩
  have T2 := hid (kept_trans T1.out hk3)
  obtain ⟨q0, q1, q2, q3, q4, q5, q6, -⟩ := at_cells7 (at_kept A1.out (kept_trans T1.out hk3))
  obtain ⟨r0, r1, r2, r3, r4, r5, r6, -⟩ := at_cells7 (at_kept A2.out hk3)
  have S2' := hid (keys_kept S2.out hk3)
  have S1' := hid (keys_kept S1.out (kept_trans T1.out hk3))
  clear hk3
  go_wp2_with fail
  refine (same_any ⟨4, [key], 0, n, false, mt⟩ (by simp) _ _ _ S1'.out S2'.out).mono ?_
  rintro e w4 ⟨rfl, hk4⟩
  have K6 := hid (kept_trans K4.out (kept_trans T2.out hk4))
  obtain ⟨p0, p1, p2, p3, p4, p5, p6, -⟩ := at_cells7 (at_kept A1.out (kept_trans T2.out hk4))
  clear hk4 q0 q1 q2 q3 q4 q5 q6 r0 r1 r2 r3 r4 r5 r6
  go_wp2_with fail
  go_ret
  exact ⟨rfl, K6.out⟩

set_option maxHeartbeats 1600000 in
set_option maxRecDepth 100000 in
theorem nore_2 (key D1 D2 : ByteArray) (kd n m : Int) (hk : keyMay key = true) (hkd : 0 ≤ kd ∧ kd < 256) (hi : Int.tmod kd 3 = 2) (hn : 0 ≤ n ∧ n < 65536) (hm : Int.tmod n 1025 = m) (hm2 : 0 ≤ m ∧ m < 1025)
    (h1 : ∀ w, Calls Try.prog 13 #[.int .i64 n] w fun e w' => e = .returned (.string D1) ∧ Kept w w') (h2 : ∀ w, Calls Try.prog 13 #[.int .i64 m] w fun e w' => e = .returned (.string D2) ∧ Kept w w')
    (hD : Wd D1 ∧ Wd D2 ∧ D1.size ≤ 20 ∧ D2.size ≤ 20) (hp : parseC [⟨#[115, 101, 116]⟩, key, ⟨#[48]⟩, ⟨#[48]⟩, D2] = (⟨2, [key], 0, 0, false, mt⟩, m)) (hq : parseC [⟨#[115, 101, 116]⟩, key, ⟨#[48]⟩, ⟨#[48]⟩, D2, wNo] = (⟨2, [key], 0, 0, true, mt⟩, m)) (w : World) :
    Calls Try.prog 7 #[.string key, .int .u8 kd, .int .u16 n] w fun e w' => e = .returned (.bool true) ∧ Kept w w' := by
  have hz := zero26
  have hsz : key.size ≤ 250 := key_size key hk
  obtain ⟨w1d, w2d, s1, s2⟩ := hD
  have HW : words ((⟨#[115, 101, 116, 32]⟩ : ByteArray) ++ key ++ (⟨#[32, 48, 32, 48, 32]⟩ : ByteArray) ++ D2) = [⟨#[115, 101, 116]⟩, key, ⟨#[48]⟩, ⟨#[48]⟩, D2] := by
    refine words_of _ _ ?_ ?_
    · simp [join, wNo]
    · intro x hx
      simp only [List.mem_cons, List.not_mem_nil, or_false] at hx
      rcases hx with rfl | rfl | rfl | rfl | rfl
      · exact wd_lit_set
      · exact wd_key _ hk
      · exact wd_lit_0
      · exact wd_lit_0
      · exact w2d
  have HV : words ((⟨#[115, 101, 116, 32]⟩ : ByteArray) ++ key ++ (⟨#[32, 48, 32, 48, 32]⟩ : ByteArray) ++ D2 ++ (⟨#[32, 110, 111, 114, 101, 112, 108, 121]⟩ : ByteArray)) = [⟨#[115, 101, 116]⟩, key, ⟨#[48]⟩, ⟨#[48]⟩, D2, wNo] := by
    refine words_of _ _ ?_ ?_
    · simp [join, wNo]
    · intro x hx
      simp only [List.mem_cons, List.not_mem_nil, or_false] at hx
      rcases hx with rfl | rfl | rfl | rfl | rfl | rfl
      · exact wd_lit_set
      · exact wd_key _ hk
      · exact wd_lit_0
      · exact wd_lit_0
      · exact w2d
      · exact wd_lit_no
  have HP : Hid (∀ w, _) := fun w => Parse_any ((⟨#[115, 101, 116, 32]⟩ : ByteArray) ++ key ++ (⟨#[32, 48, 32, 48, 32]⟩ : ByteArray) ++ D2) (by simp only [ByteArray.size_append, size_c1, size_c4, size_c5, size_c6, size_c7, size_c8]; omega) w
  rw [HW, hp] at HP
  have HQ : Hid (∀ w, _) := fun w => Parse_any ((⟨#[115, 101, 116, 32]⟩ : ByteArray) ++ key ++ (⟨#[32, 48, 32, 48, 32]⟩ : ByteArray) ++ D2 ++ (⟨#[32, 110, 111, 114, 101, 112, 108, 121]⟩ : ByteArray)) (by simp only [ByteArray.size_append, size_c1, size_c4, size_c5, size_c6, size_c7, size_c8]; omega) w
  rw [HV, hq] at HQ
  have HM : Hid (∀ w, _) := fun w => refKeyMay_any key (by unfold maxLen; omega) w
  rw [hk] at HM
  have H1 := hid h1
  have H2 := hid h2
  clear HW HV hp hq hk w1d w2d h1 h2
  go_enter Try.func7, Try.ntmps7
  go_wp2_with fail
  refine (HM.out _).mono ?_
  rintro e u1 ⟨rfl, hu⟩
  rw [hu]; clear hu u1
  go_wp2_with fail
  refine (H1.out _).mono ?_
  rintro e u1 ⟨rfl, hk1⟩
  have K1 := hid hk1
  clear hk1
  go_wp2_with fail
  refine (H2.out _).mono ?_
  rintro e u2 ⟨rfl, hk2⟩
  have K2 := hid (kept_trans K1.out hk2)
  clear hk2
  go_wp2_with fail
  refine (HP.out _).mono ?_
  rintro e w1 ⟨kv, rfl, hks, hk1⟩
  simp only at hks ⊢
  obtain ⟨a1, m1, c1, rfl⟩ := keys_slice hks
  have S1 := hid (keys_kept hks (kept_alloc (kept_refl w1) (.cells #[.int .i64 2, .slice a1 m1 c1, .int .u32 0, .int .i64 0, .string ⟨#[]⟩, .bool false, .string ⟨#[]⟩] 26)))
  have K4 := hid (kept_alloc (kept_trans (kept_alloc K2.out _) hk1) (.cells #[.int .i64 2, .slice a1 m1 c1, .int .u32 0, .int .i64 0, .string ⟨#[]⟩, .bool false, .string ⟨#[]⟩] 26))
  have A1 := hid (at_new w1 #[.int .i64 2, .slice a1 m1 c1, .int .u32 0, .int .i64 0, .string ⟨#[]⟩, .bool false, .string ⟨#[]⟩] 26)
  clear hks hk1
  unfold mt
  go_wp2_with fail
  generalize w1.alloc (.cells #[.int .i64 2, .slice a1 m1 c1, .int .u32 0, .int .i64 0, .string ⟨#[]⟩, .bool false, .string ⟨#[]⟩] 26) = v1 at *
  generalize w1.heap.size = X1 at *
  refine (HQ.out _).mono ?_
  rintro e w2 ⟨kv, rfl, hks, hk1⟩
  simp only at hks ⊢
  obtain ⟨a2, m2, c2, rfl⟩ := keys_slice hks
  have T1 := hid (kept_alloc hk1 (.cells #[.int .i64 2, .slice a2 m2 c2, .int .u32 0, .int .i64 0, .string ⟨#[]⟩, .bool false, .string ⟨#[]⟩] 26))
  have S2 := hid (keys_kept hks (kept_alloc (kept_refl w2) (.cells #[.int .i64 2, .slice a2 m2 c2, .int .u32 0, .int .i64 0, .string ⟨#[]⟩, .bool false, .string ⟨#[]⟩] 26)))
  have A2 := hid (at_new w2 #[.int .i64 2, .slice a2 m2 c2, .int .u32 0, .int .i64 0, .string ⟨#[]⟩, .bool false, .string ⟨#[]⟩] 26)
  clear hks hk1 s1 s2
  unfold mt
  go_wp2_with fail
  generalize w2.alloc (.cells #[.int .i64 2, .slice a2 m2 c2, .int .u32 0, .int .i64 0, .string ⟨#[]⟩, .bool false, .string ⟨#[]⟩] 26) = v2 at *
  generalize w2.heap.size = X2 at *
  refine (fixed_any _).mono ?_
  rintro e w3 ⟨rfl, hk3⟩
  have T2 := hid (kept_trans T1.out hk3)
  obtain ⟨q0, q1, q2, q3, q4, q5, q6, -⟩ := at_cells7 (at_kept A1.out (kept_trans T1.out hk3))
  obtain ⟨r0, r1, r2, r3, r4, r5, r6, -⟩ := at_cells7 (at_kept A2.out hk3)
  have S2' := hid (keys_kept S2.out hk3)
  have S1' := hid (keys_kept S1.out (kept_trans T1.out hk3))
  clear hk3
  go_wp2_with fail
  refine (same_any ⟨2, [key], 0, 0, false, mt⟩ (by simp) _ _ _ S1'.out S2'.out).mono ?_
  rintro e w4 ⟨rfl, hk4⟩
  have K6 := hid (kept_trans K4.out (kept_trans T2.out hk4))
  obtain ⟨p0, p1, p2, p3, p4, p5, p6, -⟩ := at_cells7 (at_kept A1.out (kept_trans T2.out hk4))
  clear hk4 q0 q1 q2 q3 q4 q5 q6 r0 r1 r2 r3 r4 r5 r6
  go_wp2_with fail
  go_ret
  exact ⟨rfl, K6.out⟩
end Go.Proofs.Ytcbmjbldhbgipaa
