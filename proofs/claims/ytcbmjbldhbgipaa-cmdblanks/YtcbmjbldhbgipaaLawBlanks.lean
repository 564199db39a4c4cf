/- The walk of the statement CmdBlanks: true, and nothing that was there is turned. No condition. -/
import Derived.Test.YtcbmjbldhbgipaaOpen
namespace Go.Proofs.Ytcbmjbldhbgipaa
open Go.ChangeShapes Go.WideShapes Go.ChangeAt Go.RowKit
set_option linter.unusedVariables false
set_option linter.unusedSimpArgs false

/- Two lines alike but for their blanks. -/
def Alike (A B : ByteArray) (k : Nat) : Prop := Cl A.data.toList ∧ Cl B.data.toList ∧ wordsL A.data.toList = wordsL B.data.toList ∧ A.size ≤ 301 * k ∧ B.size ≤ 1 + 308 * k
theorem alike_0 : Alike ⟨#[]⟩ ⟨#[32]⟩ 0 := ⟨cl_nil, cl_blank [], by decide +kernel, by decide, by decide⟩
theorem app_list (a b : ByteArray) : (a ++ b).data.toList = a.data.toList ++ b.data.toList := by simp
theorem alike_word {A B : ByteArray} {k : Nat} (h : Alike A B k) (x : ByteArray) (hx : x.size ≤ 300) : Alike (A ++ (x ++ ⟨#[32]⟩)) (B ++ (x ++ ⟨#[32]⟩)) (k + 1) := by
  obtain ⟨h1, h2, h3, h4, h5⟩ := h
  have e : (x ++ (⟨#[32]⟩ : ByteArray)).data.toList = x.data.toList ++ [32] := by simp
  have hs : (x ++ (⟨#[32]⟩ : ByteArray)).size = x.size + 1 := by rw [ByteArray.size_append]; rfl
  unfold Alike
  rw [app_list A, app_list B, e]
  have z1 : (A ++ (x ++ (⟨#[32]⟩ : ByteArray))).size = A.size + (x.size + 1) := by rw [ByteArray.size_append (a := A), hs]
  have z2 : (B ++ (x ++ (⟨#[32]⟩ : ByteArray))).size = B.size + (x.size + 1) := by rw [ByteArray.size_append (a := B), hs]
  rw [z1, z2]
  refine ⟨cl_more h1 (cl_blank _), cl_more h2 (cl_blank _), ?_, by omega, by omega⟩
  rw [h1, h2, h3]
theorem seven (r : Nat) (h : r < 8) : ((⟨#[32, 32, 32, 32, 32, 32, 32]⟩ : ByteArray).extract 0 r).data.toList = List.replicate r 32 := by
  have h1 := Lib.extract_toList (⟨#[32, 32, 32, 32, 32, 32, 32]⟩ : ByteArray) 0 r
  rw [Lib.toList_data] at h1
  rw [h1]
  rcases (show r = 0 ∨ r = 1 ∨ r = 2 ∨ r = 3 ∨ r = 4 ∨ r = 5 ∨ r = 6 ∨ r = 7 by omega) with rfl | rfl | rfl | rfl | rfl | rfl | rfl | rfl <;> rfl
theorem seven_size (r : Nat) (h : r < 8) : ((⟨#[32, 32, 32, 32, 32, 32, 32]⟩ : ByteArray).extract 0 r).size = r := by
  rw [Lib.size_eq, seven r h]
  simp
theorem parse_few (W : List ByteArray) : (parseC W).1.keys.length ≤ 4294967297 := by
  rcases parse_class W with ⟨r, _, h, _⟩ | ⟨K, fl, ex, qu, h, _, _, hK⟩ | ⟨ck, K, fl, ex, qu, h, _, _, _, _, hK⟩
  · rw [h]; exact Nat.zero_le _
  · rw [h]; exact Nat.le_trans hK.2 (by omega)
  · rw [h]; exact Nat.le_trans hK.2 (by omega)
theorem alike_blanks {A B : ByteArray} {k : Nat} (h : Alike A B k) (x : ByteArray) (hx : x.size ≤ 300) (r : Nat) (hr : r < 8) : Alike (A ++ (x ++ ⟨#[32]⟩)) (B ++ (x ++ ⟨#[32]⟩) ++ (⟨#[32, 32, 32, 32, 32, 32, 32]⟩ : ByteArray).extract 0 r) (k + 1) := by
  obtain ⟨h1, h2, h3, h4, h5⟩ := h
  have e : (x ++ (⟨#[32]⟩ : ByteArray)).data.toList = x.data.toList ++ [32] := by simp
  have hs : (x ++ (⟨#[32]⟩ : ByteArray)).size = x.size + 1 := by rw [ByteArray.size_append]; rfl
  unfold Alike
  rw [app_list A, app_list (B ++ _), app_list B, e, seven r hr]
  have z1 : (A ++ (x ++ (⟨#[32]⟩ : ByteArray))).size = A.size + (x.size + 1) := by rw [ByteArray.size_append (a := A), hs]
  have z2 : (B ++ (x ++ (⟨#[32]⟩ : ByteArray))).size = B.size + (x.size + 1) := by rw [ByteArray.size_append (a := B), hs]
  rw [z1, ByteArray.size_append (a := B ++ _), z2, seven_size r hr]
  refine ⟨cl_more h1 (cl_blank _), cl_more (cl_more h2 (cl_blank _)) (cl_repl r), ?_, by omega, by omega⟩
  rw [h1, (cl_more h2 (cl_blank _)), h2, h3, wordsL_repl, List.append_nil]
set_option maxHeartbeats 3200000 in
set_option maxRecDepth 100000 in
theorem blanks_short (oa : Option Addr) (len cap b o : Nat) (S : Nat → ByteArray) (ob : Option Addr) (lenb capb bb obb : Nat) (Z : Nat → Int) (w : World) (hl : Row w oa len b o (fun i => .string (S i))) (hb : Row w ob lenb bb obb (fun i => .int .u8 (Z i))) (hZ : ∀ i, 0 ≤ Z i ∧ Z i < 256) (h30 : len ≤ 30) :
    Calls Try.prog 4 #[.slice oa len cap, .slice ob lenb capb] w fun e w' => e = .returned (.bool true) ∧ Kept w w' := by
  have hz := zero26
  have h3 : ¬ (30 : Int) < (len : Int) := by omega
  have HL := hid hl
  have HB := hid hb
  have HZ := hid hZ
  have H30 := hid h30
  have HLB : Hid (lenb ≤ maxLen) := hb.1
  clear hl hb hZ h30
  go_enter Try.func4, Try.ntmps4
  go_wp2_with fail
  go_loop [5, 6, 7, 8, 19] (fun sa sb si sw j => ∃ (k : Nat) (A B : ByteArray), k ≤ len ∧ sa = .string A ∧ sb = .string B ∧ j = .int .i64 k ∧ Hid (Alike A B k)) (fun _ _ _ _ j => len - (intOf j).toNat)
  case atStart => exact ⟨0, _, _, Nat.zero_le _, rfl, rfl, rfl, alike_0⟩
  case round =>
    obtain ⟨k, A, B, hk, rfl, rfl, rfl, HA⟩ := hrel
    by_cases hlt : k < len
    · have hk30 : k < 30 := by have := H30.out; omega
      obtain ⟨ho, hbz⟩ := HL.out.2.1 (by omega)
      subst ho
      have hx := HL.out.2.2 k hlt
      simp only at hx
      generalize S k = x at *
      have hAs : A.size ≤ 301 * 30 := by have := HA.out.2.2.2.1; omega
      have hBs : B.size ≤ 1 + 308 * 30 := by have := HA.out.2.2.2.2; omega
      by_cases hx3 : (300 : Int) < (x.size : Int)
      · clear hbz
        go_wp2_with fail
        refine (fixed_any _).mono ?_
        rintro e w3 ⟨rfl, hk3⟩
        go_wp2_with fail
        go_ret
        exact ⟨rfl, hk3⟩
      · by_cases hkb : k < lenb
        · obtain ⟨ho, hbz2⟩ := HB.out.2.1 (by omega)
          subst ho
          have hzc := HB.out.2.2 k hkb
          simp only at hzc
          have hz8 := HZ.out k
          generalize Z k = z at *
          obtain ⟨r, hr⟩ : ∃ r : Nat, r = (z % 8).toNat := ⟨_, rfl⟩
          have hr8 : r < 8 := by omega
          have hrz : Int.tmod z 8 = (r : Int) := by rw [Int.tmod_eq_emod_of_nonneg (by omega)]; omega
          have HN : Hid _ := alike_blanks HA.out x (by omega) r hr8
          have hs7 := seven_size r hr8
          have hkb' : (k : Int) < (lenb : Int) := by omega
          clear hbz hbz2 hr
          go_wp2_with fail
          go_round
          case rel => exact ⟨k + 1, _, _, by omega, rfl, rfl, by go_num, HN⟩
          case measure => simp [intOf]; omega
        · have HN : Hid _ := alike_word HA.out x (by omega)
          have hkb' : ¬ (k : Int) < (lenb : Int) := by omega
          clear hbz
          go_wp2_with fail
          go_round
          case rel => exact ⟨k + 1, _, _, by omega, rfl, rfl, by go_num, HN⟩
          case measure => simp [intOf]; omega
    · have he : k = len := by omega
      subst he
      have hAs : A.size ≤ 301 * 30 := by have := HA.out.2.2.2.1; have := H30.out; omega
      have hBs : B.size ≤ 1 + 308 * 30 := by have := HA.out.2.2.2.2; have := H30.out; omega
      have HW : Hid (words B = words A) := by show _ = _; unfold words; rw [HA.out.2.2.1]
      have HP : Hid (∀ w, _) := fun w => Parse_any A (by omega) w
      have HQ : Hid (∀ w, _) := fun w => Parse_any B (by omega) w
      rw [HW.out] at HQ
      have HC := hid (parse_few (words A))
      generalize parseC (words A) = cn at *
      obtain ⟨c, n⟩ := cn
      simp only at HP HQ HC
      clear hAs hBs
      go_wp2_with fail
      refine (HP.out _).mono ?_
      rintro e w1 ⟨kv, rfl, hks, hk1⟩
      obtain ⟨a1, m1, c1, rfl⟩ := keys_slice hks
      have S1 := hid (keys_kept hks (kept_alloc (kept_refl w1) (.cells #[.int .i64 c.kind, .slice a1 m1 c1, .int .u32 c.flags, .int .i64 c.exp, .string ⟨#[]⟩, .bool c.quiet, .string c.reply] 26)))
      have K4 := hid (kept_alloc hk1 (.cells #[.int .i64 c.kind, .slice a1 m1 c1, .int .u32 c.flags, .int .i64 c.exp, .string ⟨#[]⟩, .bool c.quiet, .string c.reply] 26))
      have A1 := hid (at_new w1 #[.int .i64 c.kind, .slice a1 m1 c1, .int .u32 c.flags, .int .i64 c.exp, .string ⟨#[]⟩, .bool c.quiet, .string c.reply] 26)
      clear hks hk1
      go_wp2_with fail
      generalize w1.alloc (.cells #[.int .i64 c.kind, .slice a1 m1 c1, .int .u32 c.flags, .int .i64 c.exp, .string ⟨#[]⟩, .bool c.quiet, .string c.reply] 26) = v1 at *
      generalize w1.heap.size = X1 at *
      refine (HQ.out _).mono ?_
      rintro e w2 ⟨kv, rfl, hks, hk1⟩
      obtain ⟨a2, m2, c2, rfl⟩ := keys_slice hks
      have T1 := hid (kept_alloc hk1 (.cells #[.int .i64 c.kind, .slice a2 m2 c2, .int .u32 c.flags, .int .i64 c.exp, .string ⟨#[]⟩, .bool c.quiet, .string c.reply] 26))
      have S2 := hid (keys_kept hks (kept_alloc (kept_refl w2) (.cells #[.int .i64 c.kind, .slice a2 m2 c2, .int .u32 c.flags, .int .i64 c.exp, .string ⟨#[]⟩, .bool c.quiet, .string c.reply] 26)))
      have A2 := hid (at_new w2 #[.int .i64 c.kind, .slice a2 m2 c2, .int .u32 c.flags, .int .i64 c.exp, .string ⟨#[]⟩, .bool c.quiet, .string c.reply] 26)
      clear hks hk1
      go_wp2_with fail
      generalize w2.alloc (.cells #[.int .i64 c.kind, .slice a2 m2 c2, .int .u32 c.flags, .int .i64 c.exp, .string ⟨#[]⟩, .bool c.quiet, .string c.reply] 26) = v2 at *
      generalize w2.heap.size = X2 at *
      refine (fixed_any _).mono ?_
      rintro e w3 ⟨rfl, hk3⟩
      have T2 := hid (kept_trans T1.out hk3)
      obtain ⟨q0, q1, q2, q3, q4, q5, q6, -⟩ := at_cells7 (at_kept A1.out (kept_trans T1.out hk3))
      obtain ⟨r0, r1, r2, r3, r4, r5, r6, -⟩ := at_cells7 (at_kept A2.out hk3)
      have S2' := hid (keys_kept S2.out hk3)
      have S1' := hid (keys_kept S1.out (kept_trans T1.out hk3))
      clear hk3
      go_wp2_with fail
      refine (same_any c HC.out _ _ _ S1'.out S2'.out).mono ?_
      rintro e w4 ⟨rfl, hk4⟩
      have K6 := hid (kept_trans K4.out (kept_trans T2.out hk4))
      clear hk4 q0 q1 q2 q3 q4 q5 q6 r0 r1 r2 r3 r4 r5 r6
      go_wp2_with fail
      go_ret
      exact ⟨rfl, K6.out⟩
theorem blanks_law (oa : Option Addr) (len cap b o : Nat) (S : Nat → ByteArray) (ob : Option Addr) (lenb capb bb obb : Nat) (Z : Nat → Int) (w : World) (hl : Row w oa len b o (fun i => .string (S i))) (hS : ∀ i, (S i).size ≤ maxLen) (hb : Row w ob lenb bb obb (fun i => .int .u8 (Z i))) (hZ : ∀ i, 0 ≤ Z i ∧ Z i < 256) :
    Calls Try.prog 4 #[.slice oa len cap, .slice ob lenb capb] w fun e w' => e = .returned (.bool true) ∧ Kept w w' := by
  by_cases h : (30 : Int) < (len : Int)
  · clear hl hS hb hZ
    go_enter Try.func4, Try.ntmps4
    go_wp2_with fail
    refine (fixed_any _).mono ?_
    rintro e w3 ⟨rfl, hk3⟩
    go_wp2_with fail
    go_ret
    exact ⟨rfl, hk3⟩
  · exact blanks_short oa len cap b o S ob lenb capb bb obb Z w hl hb hZ (by omega)
end Go.Proofs.Ytcbmjbldhbgipaa
