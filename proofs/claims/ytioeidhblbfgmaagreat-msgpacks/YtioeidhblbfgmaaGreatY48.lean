/- The contract of the reference's Unpack: any bytes. The text has at most 2^47 bytes. What is read may be handed in. No condition. MsgUnpacks, walked over any codec that answers as it must. MsgBody, walked over any codec that answers as it must. -/
import Derived.Test.YtioeidhblbfgmaaGreatY47
import Derived.Test.YtioeidhblbfgmaaGreatY18

namespace Go.Proofs.YtioeidhblbfgmaaGreat
open Go.ChangeShapes Go.WideShapes Go.ChangeAt Go.RowKit
set_option linter.unusedVariables false
set_option linter.unusedSimpArgs false
set_option maxRecDepth 100000

theorem refRead_bad (r : Nat) (hr : r ≠ 0) (s0 : ByteArray) (w : World)
    (hD : ∀ u, Calls Tryz.prog 26 #[.string s0] u fun e w' => e = .returned (.tuple #[.agg #[.int .u8 0, .int .u8 0, .int .u8 0, .string ⟨#[]⟩], .int .i64 (r : Int)]) ∧ Kept u w') :
    Calls Tryz.prog 14 #[.string s0] w (UnE (zeroM, r) w) := by
  have hz := zeroMv
  have K1 := kept_alloc (kept_refl w) (.cells zeroCells 29)
  have P1 := at_new w zeroCells 29
  obtain ⟨w1, hw1⟩ : ∃ u, w.alloc (.cells zeroCells 29) = u := ⟨_, rfl⟩
  obtain ⟨P, hP⟩ : ∃ u, w.heap.size = u := ⟨_, rfl⟩
  rw [hw1] at K1 P1
  rw [hP] at P1
  have HPw : Hid (w.heap.size ≤ P) := hid (by omega)
  have HP1 := hid P1
  have HK1 := hid K1
  unfold zeroCells at hw1
  have hb : ((r : Int) != 0) = true := by rw [bne_iff_ne]; omega
  clear K1 P1
  go_enter Tryz.func14, Tryz.ntmps14
  go_wp2_with fail
  refine (hD _).mono ?_
  rintro e w2 ⟨rfl, k2⟩
  have K3 := kept_alloc (kept_refl w2) (.cells #[.int .u8 0, .int .u8 0, .int .u8 0, .string ⟨#[]⟩] 46)
  have HP3 := hid (at_kept (at_kept HP1.out k2) K3)
  have HK3 := hid (kept_trans (kept_trans HK1.out k2) K3)
  have HAz := hid (at_set12 HP3.out (.int .u8 0) (.int .u8 0) (.int .u8 0) (.int .u32 0) (.int .u8 0) (.int .u8 0) (.bool false) (.slice none 0 0) (.slice none 0 0) (.slice none 0 0) (.slice none 0 0) (.slice none 0 0))
  have HKz := hid (kept_set12 HK3.out HPw.out (.int .u8 0) (.int .u8 0) (.int .u8 0) (.int .u32 0) (.int .u8 0) (.int .u8 0) (.bool false) (.slice none 0 0) (.slice none 0 0) (.slice none 0 0) (.slice none 0 0) (.slice none 0 0))
  obtain ⟨⟨g0, g1, g2, g3, g4, g5, g6, g7, g8, g9, ga, gb⟩, gf⟩ := cells12 HP3.out
  unfold set12 at HAz HKz
  clear hD k2 K3 hw1 hP
  go_wp2_with fail
  refine bodyPost_ret (resMI Tryz.results14 _ rfl rfl HAz.out) rfl ⟨.slice none 0 0, .slice none 0 0, .slice none 0 0, .slice none 0 0, .slice none 0 0, rfl, msr_zero _, HKz.out⟩
theorem refUnpack_any (s : ByteArray) (hs : s.size ≤ 140737488355328) (w : World) : Calls Tryz.prog 14 #[.string s] w (UnE (unM s) w) := by
  have hD := fun u => Frm.refDecode_any s hs u
  by_cases h0 : Frm.why s.data.toList = 0
  · have e : unM s = readM ((Frm.dec s).1.toNat : Int) ((Frm.dec s).2.1.toNat : Int) ((Frm.dec s).2.2.1.toNat : Int) (Frm.dec s).2.2.2 := by unfold unM; rw [if_pos h0]
    have hb : (Frm.dec s).2.2.2.size ≤ 140737488355328 := by
      unfold Frm.dec Frm.bodyOf
      rw [if_pos h0]
      simp
      omega
    rw [e]
    rw [h0] at hD
    exact refRead_good _ _ _ _ s hb w hD
  · have e : unM s = (zeroM, Frm.why s.data.toList) := un_why h0
    have ed := Frm.dec_bad s h0
    rw [e]
    rw [ed] at hD
    exact refRead_bad _ h0 s w hD
end Go.Proofs.YtioeidhblbfgmaaGreat


namespace Go.Proofs.YtioeidhblbfgmaaGreat
set_option linter.unusedVariables false
set_option linter.unusedSimpArgs false
set_option maxRecDepth 100000

theorem runL_few {α : Type} {one : Int × Nat → α × (Int × Nat)} : ∀ (n : Nat) (a : List α × (Int × Nat)), (runL one n a).1.length ≤ a.1.length + n
  | 0, a => by simp [runL]
  | n + 1, a => by
    by_cases h : a.2.2 = 0
    · rw [runL_next h]
      have h9 := runL_few (one := one) n (a.1 ++ [(one a.2).1], (one a.2).2)
      rw [List.length_append, List.length_singleton] at h9
      omega
    · rw [runL_stop (.inr h)]
      omega
theorem listM_few {α : Type} (s : ByteArray) (one : Int × Nat → α × (Int × Nat)) (q : Int × Nat) : (listM s one q).1.length ≤ 4096 := by
  unfold listM
  have h1 := runL_few (one := one) (numM s 0 4096 q).1 ([], (numM s 0 4096 q).2)
  have h2 := numM_val s 0 4096 q
  have h3 : ([] : List α).length = 0 := rfl
  rw [h3] at h1
  omega
theorem few_zero : Few zeroM := ⟨Nat.zero_le _, Nat.zero_le _, Nat.zero_le _, Nat.zero_le _, Nat.zero_le _⟩
theorem few_un (s : ByteArray) : Few (unM s).1 := by
  by_cases h : (unM s).2 = 0
  · obtain ⟨m1, -⟩ := pack_un h
    unfold mayM mayLen at m1
    simp only [Bool.and_eq_true, decide_eq_true_eq] at m1
    obtain ⟨-, ⟨l1, l2, l3, l4, l5⟩, -⟩ := m1
    exact ⟨by omega, by omega, by omega, by omega, by omega⟩
  · rw [un_bad h]; exact few_zero
theorem runL_all {α : Type} {P : α → Prop} {one : Int × Nat → α × (Int × Nat)} (h : ∀ q, P (one q).1) : ∀ (n : Nat) (a : List α × (Int × Nat)), (∀ x ∈ a.1, P x) → ∀ x ∈ (runL one n a).1, P x
  | 0, a, ha => ha
  | n + 1, a, ha => by
    by_cases h0 : a.2.2 = 0
    · rw [runL_next h0]
      refine runL_all h n _ (fun x hx => ?_)
      rcases List.mem_append.1 hx with hx | hx
      · exact ha x hx
      · rw [List.mem_singleton.1 hx]; exact h _
    · rw [runL_stop (.inr h0)]; exact ha
theorem listM_all {α : Type} {P : α → Prop} {s : ByteArray} {one : Int × Nat → α × (Int × Nat)} (h : ∀ q, P (one q).1) (q : Int × Nat) : ∀ x ∈ (listM s one q).1, P x := by
  unfold listM
  exact runL_all h _ _ (fun x hx => by cases hx)
theorem news_ok (s : ByteArray) (q : Int × Nat) : NwOk (newsM s q).1 := by
  unfold newsM
  have h1 := numM_val s 0 63 q
  have h2 := numM_val s 1 4 (numM s 0 63 q).2
  have h3 := numM_val s 0 4294967295 (numM s 1 4 (numM s 0 63 q).2).2
  unfold NwOk
  simp only
  omega
theorem keyM_le (s : ByteArray) (q : Int × Nat) : (keyM s q).1.size ≤ 250 := by
  unfold keyM
  split
  · split
    · split
      · rename_i h; exact key_le h
      · exact Nat.zero_le _
    · exact Nat.zero_le _
  · exact Nat.zero_le _
theorem seen_ok (s : ByteArray) (q : Int × Nat) : SnOk (seenM s q).1 := by
  unfold seenM SnOk Stp.ok
  simp only
  have h0 := keyM_le s q
  have h1 := numM_val s 0 281474976710655 (keyM s q).2
  have h2 := numM_val s 0 4294967295 (numM s 0 281474976710655 (keyM s q).2).2
  have h3 := numM_val s 0 63 (numM s 0 4294967295 (numM s 0 281474976710655 (keyM s q).2).2).2
  have h4 := numM_val s 1 3 (numM s 0 63 (numM s 0 4294967295 (numM s 0 281474976710655 (keyM s q).2).2).2).2
  unfold maxLen
  refine ⟨by omega, ?_, by omega⟩
  omega
theorem dig_ok (s : ByteArray) (q : Int × Nat) : u64Ok (digM s q).1 := by
  unfold digM u64Ok
  simp only
  have h1 := numM_val s 0 4294967295 q
  have h2 := numM_val s 0 4294967295 (numM s 0 4294967295 q).2
  omega
theorem zeroR_ok : zeroR.ok := by
  unfold R.ok zeroR zero Stp.ok maxLen
  decide
theorem valN_le (s : ByteArray) (p : Int) (f k : Nat) : valN s p f k ≤ mostOf k := stepN_val _ _ _ _
theorem recP_ok (s : ByteArray) (K : ByteArray × Int × Nat) (h : mayR (recP s K).1 = true) : (recP s K).1.ok := by
  have n1 := valN_le s K.2.1 K.2.2 1
  have n4 := valN_le s K.2.1 K.2.2 4
  have e1 : mostOf 1 = 4294967295 := rfl
  have e4 : mostOf 4 = 4294967295 := rfl
  rw [e1] at n1
  rw [e4] at n4
  unfold recP at h ⊢
  by_cases h3 : valN s K.2.1 K.2.2 3 = 3
  · rw [if_pos h3] at h ⊢
    simp only at h ⊢
    have hf := may_facts (by simp only; omega) h
    simp only at hf
    obtain ⟨⟨f1, f2⟩, f3, f4, f5, f6, f7, f8⟩ := hf
    unfold R.ok Stp.ok maxLen
    simp only
    refine ⟨by omega, by omega, by omega, by omega, by omega, by omega⟩
  · rw [if_neg h3] at h ⊢
    simp only at h ⊢
    have hf := may_facts (by simp only; omega) h
    simp only at hf
    obtain ⟨⟨f1, f2⟩, f3, f4, f5, f6, f7, f8⟩ := hf
    unfold R.ok Stp.ok maxLen
    simp only
    refine ⟨by omega, by omega, by omega, by omega, by omega, by omega⟩
theorem getR_okR (s : ByteArray) (p : Int) : (getR s p).1.ok := by
  unfold getR outR
  split
  · split
    · rename_i h; exact recP_ok s _ h
    · exact zeroR_ok
  · exact zeroR_ok
theorem rec_okR (s : ByteArray) (q : Int × Nat) : (recM s q).1.ok := by
  unfold recM
  have h9 := getR_okR s q.1
  generalize getR s q.1 = G at *
  split
  · split
    · exact h9
    · exact zeroR_ok
  · exact zeroR_ok
theorem msgOf_ok {k f t : Int} (s : ByteArray) (hk : 0 ≤ k ∧ k < 256) (hf : 0 ≤ f ∧ f < 256) (ht : 0 ≤ t ∧ t < 256) : MsOk (msgOf k f t s) := by
  have h1 : (rA s).1 ≤ 4294967295 := by unfold rA; exact numM_val s 0 4294967295 (0, 0)
  have h2 : (rB s).1 ≤ 63 := by unfold rB; exact numM_val s 0 63 (rA s).2
  have h3 : (rC s).1 ≤ 63 := by unfold rC; exact numM_val s 0 63 (rB s).2
  have h5 := listM_all (s := s) (one := newsM s) (P := NwOk) (fun q => news_ok s q) (rD s).2
  have h6 := listM_all (s := s) (one := keyM s) (P := fun x => x.size ≤ maxLen) (fun q => Nat.le_trans (keyM_le s q) (by unfold maxLen; omega)) (rN s).2
  have h7 := listM_all (s := s) (one := recM s) (P := fun x => x.ok) (fun q => rec_okR s q) (rK s).2
  have h8 := listM_all (s := s) (one := seenM s) (P := SnOk) (fun q => seen_ok s q) (rR s).2
  have h9 := listM_all (s := s) (one := digM s) (P := u64Ok) (fun q => dig_ok s q) (rS s).2
  have e5 : rN s = listM s (newsM s) (rD s).2 := by unfold rN; rfl
  rw [← e5] at h5
  have e6 : rK s = listM s (keyM s) (rN s).2 := by unfold rK; rfl
  rw [← e6] at h6
  have e7 : rR s = listM s (recM s) (rK s).2 := by unfold rR; rfl
  rw [← e7] at h7
  have e8 : rS s = listM s (seenM s) (rR s).2 := by unfold rS; rfl
  rw [← e8] at h8
  have e9 : rG s = listM s (digM s) (rS s).2 := by unfold rG; rfl
  rw [← e9] at h9
  unfold msgOf
  generalize rN s = a5 at *
  generalize rK s = a6 at *
  generalize rR s = a7 at *
  generalize rS s = a8 at *
  generalize rG s = a9 at *
  generalize (rA s).1 = a1 at *
  generalize (rB s).1 = a2 at *
  generalize (rC s).1 = a3 at *
  refine ⟨hk, hf, ht, ?_, ?_, ?_, h5, h6, h7, h8, h9⟩ <;> (simp only; omega)
theorem zeroM_ok : MsOk zeroM := by
  unfold zeroM
  refine ⟨?_, ?_, ?_, ?_, ?_, ?_, ?_, ?_, ?_, ?_, ?_⟩
  all_goals first | (constructor <;> decide) | (intro x hx; cases hx)
theorem un_ok (s : ByteArray) : MsOk (unM s).1 := by
  by_cases h : (unM s).2 = 0
  · unfold unM at h ⊢
    by_cases h0 : Frm.why s.data.toList = 0
    · rw [if_pos h0] at h ⊢
      obtain ⟨f1, f2, f3, f4⟩ := dec_fit h0
      obtain ⟨-, -, r3⟩ := readM_ok h (by omega) (by omega) (by omega)
      rw [r3]
      exact msgOf_ok _ (by omega) (by omega) (by omega)
    · rw [if_neg h0] at h; exact absurd h h0
  · rw [un_bad h]; exact zeroM_ok
end Go.Proofs.YtioeidhblbfgmaaGreat


namespace Go.Proofs.YtioeidhblbfgmaaGreat
open Go.ChangeShapes Go.WideShapes Go.ChangeAt Go.RowKit
set_option linter.unusedVariables false
set_option linter.unusedSimpArgs false
set_option maxRecDepth 100000

set_option maxHeartbeats 6400000 in
theorem unpacks_walk {T : Shape Unit} (hT : MsIs T) (s : ByteArray) (w : World) : Calls Tryz.prog 4 #[.string s] w fun e w' => e = .returned (.bool true) ∧ Kept w w' := by
  by_cases hb : 20000 < s.size
  · have hd : (20000 : Int) < (s.size : Int) := by omega
    go_enter Tryz.func4, Tryz.ntmps4
    go_wp2_with fail
    refine (fixed_any hT _).mono ?_
    rintro e w1 ⟨rfl, k1⟩
    go_wp2_with fail
    go_ret
    exact ⟨rfl, k1⟩
  · have hd : ¬ (20000 : Int) < (s.size : Int) := by omega
    have HFw := hid (few_un s)
    have HUn := hid (fun u => refUnpack_any s (by omega) u)
    have HSz : Hid (s.size ≤ 2000000) := hid (by omega)
    have HLu := hid (fun (u : World) (X : Nat) (F : Nat → Prop) (t : TT T w X () F u) => mk_unpack hT t HSz.out)
    generalize hR : unM s = R at *
    obtain ⟨m, g⟩ := R
    simp only at HFw HUn HLu
    have hz := zeroMv
    clear hb hR
    go_enter Tryz.func4, Tryz.ntmps4
    go_wp2_with fail
    refine (mk_new hT (kept_refl w)).mono ?_
    rintro e w1 ⟨X, F, rfl, t1, k1, f1⟩
    have HT1 := hid t1
    clear t1 k1 f1
    go_wp2_with fail
    refine (HLu.out _ X F HT1.out).mono ?_
    rintro e w2 ⟨F2, vn, vk, vr, vs, vd, rfl, hm, t2, d2⟩
    have HM2 := hid (mso_r hm)
    have HK2 := hid t2.k
    clear hm t2 d2 HT1
    obtain ⟨a1, n1, c1, a2, n2, c2, a3, n3, c3, a4, n4, c4, a5, n5, c5, rfl, rfl, rfl, rfl, rfl⟩ := msr_is HM2.out
    have k3 := kept_alloc (kept_refl w2) (.cells (mC m (.slice a1 n1 c1) (.slice a2 n2 c2) (.slice a3 n3 c3) (.slice a4 n4 c4) (.slice a5 n5 c5)) 29)
    have A3 := at_new w2 (mC m (.slice a1 n1 c1) (.slice a2 n2 c2) (.slice a3 n3 c3) (.slice a4 n4 c4) (.slice a5 n5 c5)) 29
    have HM3 := hid (msr_kept HM2.out k3)
    have HK3 := hid (kept_trans HK2.out k3)
    have HA3 := hid A3
    unfold mC at HM3 HK3 HA3
    unfold msgV
    clear k3 A3 HM2 HK2
    go_wp2_with fail
    refine (HUn.out _).mono ?_
    rintro e w4 ⟨un, uk, ur, us, ud, rfl, hm4, k4⟩
    obtain ⟨b1, p1, q1, b2, p2, q2, b3, p3, q3, b4, p4, q4, b5, p5, q5, rfl, rfl, rfl, rfl, rfl⟩ := msr_is hm4
    have k5 := kept_alloc (kept_refl w4) (.cells (mC m (.slice b1 p1 q1) (.slice b2 p2 q2) (.slice b3 p3 q3) (.slice b4 p4 q4) (.slice b5 p5 q5)) 29)
    have A5 := at_new w4 (mC m (.slice b1 p1 q1) (.slice b2 p2 q2) (.slice b3 p3 q3) (.slice b4 p4 q4) (.slice b5 p5 q5)) 29
    have HM5 := hid (msr_kept (msr_kept HM3.out k4) k5)
    have HN5 := hid (msr_kept hm4 k5)
    have HK5 := hid (kept_trans (kept_trans HK3.out k4) k5)
    have HA5 := hid (at_kept (at_kept HA3.out k4) k5)
    have HB5 := hid A5
    unfold mC at HM5 HN5 HK5 HA5 HB5
    unfold msgV
    clear k4 k5 A5 HM3 HK3 HA3 hm4
    go_wp2_with fail
    refine (fixed_any hT _).mono ?_
    rintro e w6 ⟨rfl, k6⟩
    have HM6 := hid (msr_kept HM5.out k6)
    have HN6 := hid (msr_kept HN5.out k6)
    have HK6 := hid (kept_trans HK5.out k6)
    obtain ⟨⟨x0, x1, x2, x3, x4, x5, x6, x7, x8, x9, xa, xb⟩, -⟩ := cells12 (at_kept HA5.out k6)
    obtain ⟨⟨y0, y1, y2, y3, y4, y5, y6, y7, y8, y9, ya, yb⟩, -⟩ := cells12 (at_kept HB5.out k6)
    clear k6 HM5 HN5 HK5 HA5 HB5
    go_wp2_with fail
    refine (same_any m HFw.out _ _ _ _ _ _ _ _ _ _ _ HM6.out HN6.out).mono ?_
    rintro e w7 ⟨rfl, k7⟩
    have HK7 := hid (kept_trans HK6.out k7)
    clear k7 x0 x1 x2 x3 x4 x5 x6 x7 x8 x9 xa xb y0 y1 y2 y3 y4 y5 y6 y7 y8 y9 ya yb
    go_wp2_with fail
    go_ret
    exact ⟨rfl, HK7.out⟩
end Go.Proofs.YtioeidhblbfgmaaGreat


namespace Go.Proofs.YtioeidhblbfgmaaGreat
open Go.ChangeShapes Go.WideShapes Go.ChangeAt Go.RowKit
set_option linter.unusedVariables false
set_option linter.unusedSimpArgs false
set_option maxRecDepth 100000

theorem encode_w (k f t : UInt8) (s : ByteArray) (w : World) : Calls Tryz.prog 16 #[.agg #[.int .u8 (k.toNat : Int), .int .u8 (f.toNat : Int), .int .u8 (t.toNat : Int), .string s]] w fun e w' => e = .returned (.tuple #[.string (Frm.encS k f t s).1, .bool (decide ((Frm.encS k f t s).2 = 0))]) ∧ Kept w w' := by
  have hE := fun u => Frm.refEncode_any k f t s u
  generalize Frm.encS k f t s = R at *
  obtain ⟨S, g⟩ := R
  simp only at hE ⊢
  have HK := hid (kept_alloc (kept_refl w) (.cells #[.int .u8 (k.toNat : Int), .int .u8 (f.toNat : Int), .int .u8 (t.toNat : Int), .string s] 46))
  obtain ⟨c0, c1, c2, c3, -⟩ := at_cells4 (at_new w #[.int .u8 (k.toNat : Int), .int .u8 (f.toNat : Int), .int .u8 (t.toNat : Int), .string s] 46)
  have hg : ((g : Int) == 0) = decide (g = 0) := by rw [Bool.eq_iff_iff, beq_iff_eq, decide_eq_true_eq]; omega
  generalize decide (g = 0) = z at *
  go_enter Tryz.func16, Tryz.ntmps16
  go_wp2_with fail
  refine (hE _).mono ?_
  rintro e w1 ⟨rfl, k1⟩
  have HK1 := hid (kept_trans HK.out k1)
  clear k1 c0 c1 c2 c3
  go_wp2_with fail
  go_ret2
  exact ⟨rfl, HK1.out⟩
set_option maxHeartbeats 6400000 in
theorem body_walk {T : Shape Unit} (hT : MsIs T) (k f t : UInt8) (b : ByteArray) (w : World) : Calls Tryz.prog 5 #[.agg #[.int .u8 (k.toNat : Int), .int .u8 (f.toNat : Int), .int .u8 (t.toNat : Int), .string b]] w fun e w' => e = .returned (.bool true) ∧ Kept w w' := by
  have K1 := kept_alloc (kept_refl w) (.cells #[.int .u8 (k.toNat : Int), .int .u8 (f.toNat : Int), .int .u8 (t.toNat : Int), .string b] 46)
  have A1 := at_new w #[.int .u8 (k.toNat : Int), .int .u8 (f.toNat : Int), .int .u8 (t.toNat : Int), .string b] 46
  obtain ⟨w1, hw1⟩ : ∃ u, w.alloc (.cells #[.int .u8 (k.toNat : Int), .int .u8 (f.toNat : Int), .int .u8 (t.toNat : Int), .string b] 46) = u := ⟨_, rfl⟩
  obtain ⟨X0, hX0⟩ : ∃ u, w.heap.size = u := ⟨_, rfl⟩
  rw [hw1] at K1 A1
  rw [hX0] at A1
  have HK1 := hid K1
  have HA1 := hid A1
  obtain ⟨c0, c1, c2, c3, -⟩ := at_cells4 A1
  clear K1 A1
  by_cases hb : 9000 < b.size
  · have hd : (9000 : Int) < (b.size : Int) := by omega
    go_enter Tryz.func5, Tryz.ntmps5
    go_wp2_with fail
    refine (fixed_any hT _).mono ?_
    rintro e w2 ⟨rfl, k2⟩
    have HK2 := hid (kept_trans HK1.out k2)
    clear k2
    go_wp2_with fail
    go_ret
    exact ⟨rfl, HK2.out⟩
  · have hd : ¬ (9000 : Int) < (b.size : Int) := by omega
    have HEn := hid (fun u => encode_w k f t b u)
    have HSz : Hid ((Frm.encS k f t b).2 = 0 → (Frm.encS k f t b).1.size ≤ 10000) := hid (fun e => by have h9 := (Frm.enc_pos k f t b e).2; omega)
    clear hb
    generalize Frm.encS k f t b = R at *
    obtain ⟨S, g⟩ := R
    simp only at HEn HSz
    go_enter Tryz.func5, Tryz.ntmps5
    go_wp2_with fail
    refine (mk_new hT HK1.out).mono ?_
    rintro e w2 ⟨X, F, rfl, t2, k2, f2⟩
    have HT2 := hid t2
    obtain ⟨d0, d1, d2, d3, -⟩ := at_cells4 (at_kept HA1.out k2)
    clear t2 k2 f2 c0 c1 c2 c3 HA1 hw1 hX0
    go_wp2_with fail
    refine (HEn.out _).mono ?_
    rintro e w3 ⟨rfl, k3⟩
    have HT3 := hid (tt_kept hT.obj HT2.out k3)
    clear k3 HT2 d0 d1 d2 d3
    by_cases hg : g = 0
    · have hg2 : decide (g = 0) = true := by simpa using hg
      rw [hg2]
      have HSz2 := hid (HSz.out hg)
      have HFw := hid (few_un S)
      have HUn := hid (fun u => refUnpack_any S (by have := HSz2.out; omega) u)
      have HLu := hid (fun (u : World) (X : Nat) (F : Nat → Prop) (t : TT T w X () F u) => mk_unpack hT t (s := S) (by have := HSz2.out; omega))
      have HOk := hid (un_ok S)
      have HPk : Hid ((unM S).2 = 0 → packM (unM S).1 = (S, 0)) := hid (fun e => (pack_un e).2)
      generalize unM S = R2 at *
      obtain ⟨m, er⟩ := R2
      simp only at HFw HUn HLu HOk HPk
      have hz := zeroMv
      clear hg hg2
      go_wp2_with fail
      refine (HLu.out _ X F HT3.out).mono ?_
      rintro e w4 ⟨F4, vn, vk, vr, vs, vd, rfl, hm, t4, d4⟩
      have HM4 := hid (mso_r hm)
      have HT4 := hid t4
      clear hm t4 d4 HT3
      obtain ⟨a1, n1, c1, a2, n2, c2, a3, n3, c3, a4, n4, c4, a5, n5, c5, rfl, rfl, rfl, rfl, rfl⟩ := msr_is HM4.out
      have k5 := kept_alloc (kept_refl w4) (.cells (mC m (.slice a1 n1 c1) (.slice a2 n2 c2) (.slice a3 n3 c3) (.slice a4 n4 c4) (.slice a5 n5 c5)) 29)
      have A5 := at_new w4 (mC m (.slice a1 n1 c1) (.slice a2 n2 c2) (.slice a3 n3 c3) (.slice a4 n4 c4) (.slice a5 n5 c5)) 29
      have HM5 := hid (msr_kept HM4.out k5)
      have HT5 := hid (tt_kept hT.obj HT4.out k5)
      have HA5 := hid A5
      unfold mC at HM5 HT5 HA5
      unfold msgV
      clear k5 A5 HM4 HT4
      go_wp2_with fail
      refine (HUn.out _).mono ?_
      rintro e w6 ⟨un, uk, ur, us, ud, rfl, hm6, k6⟩
      obtain ⟨b1, p1, q1, b2, p2, q2, b3, p3, q3, b4, p4, q4, b5, p5, q5, rfl, rfl, rfl, rfl, rfl⟩ := msr_is hm6
      have k7 := kept_alloc (kept_refl w6) (.cells (mC m (.slice b1 p1 q1) (.slice b2 p2 q2) (.slice b3 p3 q3) (.slice b4 p4 q4) (.slice b5 p5 q5)) 29)
      have A7 := at_new w6 (mC m (.slice b1 p1 q1) (.slice b2 p2 q2) (.slice b3 p3 q3) (.slice b4 p4 q4) (.slice b5 p5 q5)) 29
      have HM7 := hid (msr_kept (msr_kept HM5.out k6) k7)
      have HN7 := hid (msr_kept hm6 k7)
      have HT7 := hid (tt_kept hT.obj (tt_kept hT.obj HT5.out k6) k7)
      have HA7 := hid (at_kept (at_kept HA5.out k6) k7)
      have HB7 := hid A7
      unfold mC at HM7 HN7 HT7 HA7 HB7
      unfold msgV
      clear k6 k7 A7 HM5 HT5 HA5 hm6
      go_wp2_with fail
      refine (fixed_any hT _).mono ?_
      rintro e w8 ⟨rfl, k8⟩
      have HM8 := hid (msr_kept HM7.out k8)
      have HN8 := hid (msr_kept HN7.out k8)
      have HT8 := hid (tt_kept hT.obj HT7.out k8)
      have HA8 := hid (at_kept HA7.out k8)
      obtain ⟨⟨x0, x1, x2, x3, x4, x5, x6, x7, x8, x9, xa, xb⟩, -⟩ := cells12 HA8.out
      obtain ⟨⟨y0, y1, y2, y3, y4, y5, y6, y7, y8, y9, ya, yb⟩, -⟩ := cells12 (at_kept HB7.out k8)
      clear k8 HM7 HN7 HT7 HA7 HB7
      go_wp2_with fail
      refine (same_any m HFw.out _ _ _ _ _ _ _ _ _ _ _ HM8.out HN8.out).mono ?_
      rintro e w9 ⟨rfl, k9⟩
      have HM9 := hid (msr_kept HM8.out k9)
      have HT9 := hid (tt_kept hT.obj HT8.out k9)
      have hee : ((er : Int) != (er : Int)) = false := by simp
      clear x0 x1 x2 x3 x4 x5 x6 x7 x8 x9 xa xb y0 y1 y2 y3 y4 y5 y6 y7 y8 y9 ya yb
      obtain ⟨⟨x0, x1, x2, x3, x4, x5, x6, x7, x8, x9, xa, xb⟩, -⟩ := cells12 (at_kept HA8.out k9)
      clear k9 HM8 HN8 HT8 HA8
      by_cases he : er = 0
      · subst he
        have HP := hid (HPk.out rfl)
        clear HPk HUn HLu HEn
        go_wp2_with fail
        refine (mk_pack hT HT9.out HOk.out HM9.out).mono ?_
        rintro e w10 ⟨F10, rfl, t10, d10⟩
        have HK10 := hid t10.k
        rw [HP.out]
        clear t10 d10 HT9 HM9
        go_wp2_with fail
        go_ret
        exact ⟨rfl, HK10.out⟩
      · have h1 : ((er : Int) != 0) = true := by rw [bne_iff_ne]; omega
        have HK9 := hid HT9.out.k
        clear HT9 HM9 HPk HUn HLu HEn he
        go_wp2_with fail
        go_ret
        exact ⟨rfl, HK9.out⟩
    · have hg2 : decide (g = 0) = false := by simpa using hg
      rw [hg2]
      have HK3 := hid HT3.out.k
      clear HT3 hg hg2
      go_wp2_with fail
      refine (fixed_any hT _).mono ?_
      rintro e w4 ⟨rfl, k4⟩
      have HK4 := hid (kept_trans HK3.out k4)
      clear k4
      go_wp2_with fail
      go_ret
      exact ⟨rfl, HK4.out⟩
end Go.Proofs.YtioeidhblbfgmaaGreat
