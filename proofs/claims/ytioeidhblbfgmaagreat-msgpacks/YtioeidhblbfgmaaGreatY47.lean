/- The contract of the reference's Unpack. The text has at most 2^47 bytes. -/
import Derived.Test.YtioeidhblbfgmaaGreatY36
import Derived.Deep.CutBlock
import Derived.Deep.DeepCutAuto

namespace Go.Proofs.YtioeidhblbfgmaaGreat
open Go.ChangeShapes Go.WideShapes Go.ChangeAt Go.RowKit
set_option linter.unusedVariables false
set_option linter.unusedSimpArgs false
set_option maxRecDepth 100000

set_option maxHeartbeats 25600000 in
theorem refRead_good (k f t : Int) (s s0 : ByteArray) (hs : s.size ≤ 140737488355328) (w : World)
    (hD : ∀ u, Calls Tryz.prog 26 #[.string s0] u fun e w' => e = .returned (.tuple #[.agg #[.int .u8 k, .int .u8 f, .int .u8 t, .string s], .int .i64 0]) ∧ Kept u w') :
    Calls Tryz.prog 14 #[.string s0] w (UnE (readM k f t s) w) := by
  obtain ⟨a0, p1, f1, h1⟩ : ∃ a b c, rA s = (a, (b, c)) := pair3 _
  obtain ⟨a1, p2, f2, h2⟩ : ∃ a b c, rB s = (a, (b, c)) := pair3 _
  obtain ⟨a2, p3, f3, h3⟩ : ∃ a b c, rC s = (a, (b, c)) := pair3 _
  obtain ⟨a3, p4, f4, h4⟩ : ∃ a b c, rD s = (a, (b, c)) := pair3 _
  obtain ⟨xN, pN, fN, hN⟩ : ∃ a b c, rN s = (a, (b, c)) := pair3 _
  obtain ⟨xK, pK, fK, hK⟩ : ∃ a b c, rK s = (a, (b, c)) := pair3 _
  obtain ⟨xR, pR, fR, hR⟩ : ∃ a b c, rR s = (a, (b, c)) := pair3 _
  obtain ⟨xS, pS, fS, hS⟩ : ∃ a b c, rS s = (a, (b, c)) := pair3 _
  obtain ⟨xG, pG, fG, hG⟩ : ∃ a b c, rG s = (a, (b, c)) := pair3 _
  have HE : Hid (readM k f t s = if fG ≠ 0 then (zeroM, fG) else if pG ≠ (s.size : Int) then (zeroM, 3) else (⟨k, f, t, (a0 : Int), (a1 : Int), (a2 : Int), decide (a3 = 1), xN, xK, xR, xS, xG⟩, 0)) := hid (by unfold readM msgOf; simp only [h1, h2, h3, h4, hN, hK, hR, hS, hG])
  generalize readM k f t s = RM at *
  have q1 : numM s 0 4294967295 (0, 0) = (a0, (p1, f1)) := h1
  have q2 : numM s 0 63 (p1, f1) = (a1, (p2, f2)) := by rw [← h2]; unfold rB; rw [h1]
  have q3 : numM s 0 63 (p2, f2) = (a2, (p3, f3)) := by rw [← h3]; unfold rC; rw [h2]
  have q4 : numM s 0 1 (p3, f3) = (a3, (p4, f4)) := by rw [← h4]; unfold rD; rw [h3]
  have qN : listM s (newsM s) (p4, f4) = (xN, (pN, fN)) := by rw [← hN]; unfold rN; rw [h4]
  have qK : listM s (keyM s) (pN, fN) = (xK, (pK, fK)) := by rw [← hK]; unfold rK; rw [hN]
  have qR : listM s (recM s) (pK, fK) = (xR, (pR, fR)) := by rw [← hR]; unfold rR; rw [hK]
  have qS : listM s (seenM s) (pR, fR) = (xS, (pS, fS)) := by rw [← hS]; unfold rS; rw [hR]
  have qG : listM s (digM s) (pS, fS) = (xG, (pG, fG)) := by rw [← hG]; unfold rG; rw [hS]
  clear h1 h2 h3 h4 hN hK hR hS hG
  obtain ⟨nN, pn, fn, hn⟩ : ∃ a b c, numM s 0 4096 (p4, f4) = (a, (b, c)) := pair3 _
  obtain ⟨nK, pk, fk, hk⟩ : ∃ a b c, numM s 0 4096 (pN, fN) = (a, (b, c)) := pair3 _
  obtain ⟨nR, pr, fr, hr⟩ : ∃ a b c, numM s 0 4096 (pK, fK) = (a, (b, c)) := pair3 _
  have HQN : Hid (runL (newsM s) (nN - 0) ([], (pn, fn)) = (xN, (pN, fN))) := hid (by unfold listM at qN; rw [hn] at qN; exact qN)
  have HQK : Hid (runL (keyM s) (nK - 0) ([], (pk, fk)) = (xK, (pK, fK))) := hid (by unfold listM at qK; rw [hk] at qK; exact qK)
  have HQR : Hid (runL (recM s) (nR - 0) ([], (pr, fr)) = (xR, (pR, fR))) := hid (by unfold listM at qR; rw [hr] at qR; exact qR)
  have HqS := hid qS
  have HqG := hid qG
  have HlN := hid (num_le hn)
  have HlK := hid (num_le hk)
  have HlR := hid (num_le hr)
  have e1 := wrap32 (num_le q1)
  have e2 := wrap8 (Nat.le_trans (num_le q2) (by omega))
  have e3 := wrap8 (Nat.le_trans (num_le q3) (by omega))
  have HN1 := hid hn
  have HN2 := hid hk
  have HN3 := hid hr
  have HA := hid q1
  have HB := hid q2
  have HC := hid q3
  have HD := hid q4
  clear qN qK qR qS qG hn hk hr q1 q2 q3 q4
  have hz := zeroMv
  have K1 := kept_alloc (kept_refl w) (.cells zeroCells 29)
  have P1 := at_new w zeroCells 29
  obtain ⟨w1, hw1⟩ : ∃ u, w.alloc (.cells zeroCells 29) = u := ⟨_, rfl⟩
  obtain ⟨P, hP⟩ : ∃ u, w.heap.size = u := ⟨_, rfl⟩
  rw [hw1] at K1 P1
  rw [hP] at P1
  have HPw : Hid (w.heap.size ≤ P) := hid (by omega)
  have HP1 := hid P1
  have HK1 := hid K1
  unfold zeroCells at hw1
  clear K1 P1
  go_enter Tryz.func14, Tryz.ntmps14
  go_wp2_with fail
  refine (hD _).mono ?_
  rintro e w2 ⟨rfl, k2⟩
  have K3 := kept_alloc (kept_refl w2) (.cells #[.int .u8 k, .int .u8 f, .int .u8 t, .string s] 46)
  have F3 := at_new w2 #[.int .u8 k, .int .u8 f, .int .u8 t, .string s] 46
  obtain ⟨w3, hw3⟩ : ∃ u, w2.alloc (.cells #[.int .u8 k, .int .u8 f, .int .u8 t, .string s] 46) = u := ⟨_, rfl⟩
  obtain ⟨B, hB⟩ : ∃ u, w2.heap.size = u := ⟨_, rfl⟩
  rw [hw3] at K3 F3
  rw [hB] at F3
  have K4 := kept_alloc (kept_refl w3) (.cells #[.string s, .int .i64 0, .int .i64 0] 73)
  have X4 := at_new w3 #[.string s, .int .i64 0, .int .i64 0] 73
  have F4 := at_kept F3 K4
  have K5 := kept_alloc (kept_refl (w3.alloc (.cells #[.string s, .int .i64 0, .int .i64 0] 73))) (.cells #[.int .u8 k, .int .u8 f, .int .u8 t, .int .u32 0, .int .u8 0, .int .u8 0, .bool false, .slice none 0 0, .slice none 0 0, .slice none 0 0, .slice none 0 0, .slice none 0 0] 29)
  have M5 := at_new (w3.alloc (.cells #[.string s, .int .i64 0, .int .i64 0] 73)) #[.int .u8 k, .int .u8 f, .int .u8 t, .int .u32 0, .int .u8 0, .int .u8 0, .bool false, .slice none 0 0, .slice none 0 0, .slice none 0 0, .slice none 0 0, .slice none 0 0] 29
  obtain ⟨X, hX⟩ : ∃ u, w3.heap.size = u := ⟨_, rfl⟩
  rw [hX] at X4
  simp only [World.size_alloc, hX] at M5
  have X5 := at_kept X4 K5
  have P2 := at_kept HP1.out k2
  have P3 := at_kept P2 K3
  have P4 := at_kept P3 K4
  have U : Hid (UP s w X (X + 1) P ⟨k, f, t, 0, 0, 0, false⟩ (.slice none 0 0) (.slice none 0 0) (.slice none 0 0) (.slice none 0 0) (.slice none 0 0) [] [] [] [] [] 0 0 ((w3.alloc (.cells #[.string s, .int .i64 0, .int .i64 0] 73)).alloc (.cells #[.int .u8 k, .int .u8 f, .int .u8 t, .int .u32 0, .int .u8 0, .int .u8 0, .bool false, .slice none 0 0, .slice none 0 0, .slice none 0 0, .slice none 0 0, .slice none 0 0] 29))) := hid {
    x := X5
    m := M5
    p := at_kept P4 K5
    n := og_nil _ _ _ _ _
    k := og_nil _ _ _ _ _
    r := og_nil _ _ _ _ _
    s := og_nil _ _ _ _ _
    d := og_nil _ _ _ _ _
    kept := kept_trans HK1.out (kept_trans k2 (kept_trans K3 (kept_trans K4 K5)))
    xw := by have h9 := (kept_trans HK1.out (kept_trans k2 K3)).2; omega
    mw := by have h9 := (kept_trans HK1.out (kept_trans k2 K3)).2; omega
    pw := HPw.out
    mp := by have h9 := at_lt P3; omega }
  obtain ⟨g0, g1, g2, g3, gf⟩ := at_cells4 F3
  obtain ⟨y0, y1, y2, y3, yf⟩ := at_cells4 F4
  obtain ⟨d0, d1, d2, df⟩ := at_cells3 X5
  clear hD k2 K3 F3 K4 X4 F4 K5 M5 X5 P2 P3 P4 HP1 HK1 HPw
  go_wp2_with fail
  obtain ⟨w5, hw5⟩ : ∃ u, ((w3.alloc (.cells #[.string s, .int .i64 0, .int .i64 0] 73)).alloc (.cells #[.int .u8 k, .int .u8 f, .int .u8 t, .int .u32 0, .int .u8 0, .int .u8 0, .bool false, .slice none 0 0, .slice none 0 0, .slice none 0 0, .slice none 0 0, .slice none 0 0] 29)) = u := ⟨_, rfl⟩
  obtain ⟨M, hM⟩ : ∃ m, X + 1 = m := ⟨_, rfl⟩
  rw [hw5, hM] at U
  rw [hw5]
  simp only [hM]
  clear g0 g1 g2 g3 gf y0 y1 y2 y3 yf d0 d1 d2 df hw1 hw3 hw5 hP hB hX hM
  refine (number_at s hs HA.out _).mono ?_
  rintro e u1 ⟨rfl, k1⟩
  have ua := up_kept U.out k1
  have ub := up_read ua p1 f1
  obtain ⟨c0, c1, c2, cf⟩ := at_cells3 ua.x
  unfold set3 at ub
  obtain ⟨v1, hv1⟩ : ∃ v, ((u1.setCell ⟨X, 0, none⟩ (.string s)).setCell ⟨X, 1, none⟩ (.int .i64 p1)).setCell ⟨X, 2, none⟩ (.int .i64 (f1 : Int)) = v := ⟨_, rfl⟩
  rw [hv1] at ub
  replace U := hid ub
  obtain ⟨d0, d1, d2, df⟩ := at_cells3 U.out.x
  clear ua ub k1
  go_wp2_with fail
  clear c0 c1 c2 cf d0 d1 d2 df hv1
  refine (number_at s hs HB.out _).mono ?_
  rintro e u2 ⟨rfl, k2⟩
  have ua := up_kept U.out k2
  have ub := up_read ua p2 f2
  obtain ⟨c0, c1, c2, cf⟩ := at_cells3 ua.x
  unfold set3 at ub
  obtain ⟨v2, hv2⟩ : ∃ v, ((u2.setCell ⟨X, 0, none⟩ (.string s)).setCell ⟨X, 1, none⟩ (.int .i64 p2)).setCell ⟨X, 2, none⟩ (.int .i64 (f2 : Int)) = v := ⟨_, rfl⟩
  rw [hv2] at ub
  replace U := hid ub
  obtain ⟨d0, d1, d2, df⟩ := at_cells3 U.out.x
  clear ua ub k2
  go_wp2_with fail
  clear c0 c1 c2 cf d0 d1 d2 df hv2
  refine (number_at s hs HC.out _).mono ?_
  rintro e u3 ⟨rfl, k3⟩
  have ua := up_kept U.out k3
  have ub := up_read ua p3 f3
  obtain ⟨c0, c1, c2, cf⟩ := at_cells3 ua.x
  unfold set3 at ub
  obtain ⟨v3, hv3⟩ : ∃ v, ((u3.setCell ⟨X, 0, none⟩ (.string s)).setCell ⟨X, 1, none⟩ (.int .i64 p3)).setCell ⟨X, 2, none⟩ (.int .i64 (f3 : Int)) = v := ⟨_, rfl⟩
  rw [hv3] at ub
  replace U := hid ub
  obtain ⟨d0, d1, d2, df⟩ := at_cells3 U.out.x
  clear ua ub k3
  go_wp2_with fail
  clear c0 c1 c2 cf d0 d1 d2 df hv3
  refine (number_at s hs HD.out _).mono ?_
  rintro e u4 ⟨rfl, k4⟩
  have ua := up_kept U.out k4
  have ub := up_read ua p4 f4
  obtain ⟨c0, c1, c2, cf⟩ := at_cells3 ua.x
  unfold set3 at ub
  obtain ⟨v4, hv4⟩ : ∃ v, ((u4.setCell ⟨X, 0, none⟩ (.string s)).setCell ⟨X, 1, none⟩ (.int .i64 p4)).setCell ⟨X, 2, none⟩ (.int .i64 (f4 : Int)) = v := ⟨_, rfl⟩
  rw [hv4] at ub
  replace U := hid ub
  obtain ⟨d0, d1, d2, df⟩ := at_cells3 U.out.x
  clear ua ub k4
  have hfl : ((a3 : Int) == 1) = decide (a3 = 1) := by rw [Bool.eq_iff_iff, beq_iff_eq, decide_eq_true_eq]; omega
  obtain ⟨fl, hfl2⟩ : ∃ b, decide (a3 = 1) = b := ⟨_, rfl⟩
  rw [hfl2] at hfl HE
  have hm12 := U.out.m
  unfold mCells at hm12
  obtain ⟨⟨m0, m1, m2, m3, m4, m5, m6, m7, m8, m9, ma, mb⟩, mf⟩ := cells12 hm12
  clear hm12
  have uc := up_head (up_head (up_head (up_head U.out 3 (.int .u32 (a0 : Int)) (h' := ⟨k, f, t, (a0 : Int), 0, 0, false⟩) rfl) 4 (.int .u8 (a1 : Int)) (h' := ⟨k, f, t, (a0 : Int), (a1 : Int), 0, false⟩) rfl) 5 (.int .u8 (a2 : Int)) (h' := ⟨k, f, t, (a0 : Int), (a1 : Int), (a2 : Int), false⟩) rfl) 6 (.bool fl) (h' := ⟨k, f, t, (a0 : Int), (a1 : Int), (a2 : Int), fl⟩) rfl
  obtain ⟨v5, hv5⟩ : ∃ v, (((v4.setCell ⟨M, 3, none⟩ (.int .u32 (a0 : Int))).setCell ⟨M, 4, none⟩ (.int .u8 (a1 : Int))).setCell ⟨M, 5, none⟩ (.int .u8 (a2 : Int))).setCell ⟨M, 6, none⟩ (.bool fl) = v := ⟨_, rfl⟩
  rw [hv5] at uc
  replace U := hid uc
  obtain ⟨y0, y1, y2, yf⟩ := at_cells3 U.out.x
  obtain ⟨H, hH⟩ : ∃ h : Hd, (⟨k, f, t, (a0 : Int), (a1 : Int), (a2 : Int), fl⟩ : Hd) = h := ⟨_, rfl⟩
  rw [hH] at U
  clear uc
  go_wp2_with fail
  clear c0 c1 c2 cf d0 d1 d2 df hv4 hv5 y0 y1 y2 yf hfl e1 e2 e3
  clear m0 m1 m2 m3 m4 m5 m6 m7 m8 m9 ma mb mf
  refine (number_at s hs HN1.out _).mono ?_
  rintro e un ⟨rfl, kn⟩
  have ua := up_kept U.out kn
  have ub := up_read ua pn fn
  obtain ⟨c0, c1, c2, cf⟩ := at_cells3 ua.x
  unfold set3 at ub
  obtain ⟨vn0, hvn0⟩ : ∃ v, ((un.setCell ⟨X, 0, none⟩ (.string s)).setCell ⟨X, 1, none⟩ (.int .i64 pn)).setCell ⟨X, 2, none⟩ (.int .i64 (fn : Int)) = v := ⟨_, rfl⟩
  rw [hvn0] at ub
  replace U := hid ub
  clear ua ub kn
  go_upto_block 0 with fail
  clear c0 c1 c2 cf hvn0
  go_cut [13] (fun _ wx => ∃ v, Hid (UP s w X M P H v (.slice none 0 0) (.slice none 0 0) (.slice none 0 0) (.slice none 0 0) xN [] [] [] [] pN fN wx))
  case first =>
    clear HE
    go_wp2_with fail
    go_loopw [13] (fun iv wr => ∃ (j : Nat) (l : List Nw) (q : Int) (g : Nat) (v : Value), j ≤ nN ∧ Hid (l.length = j) ∧ iv = .int .u64 (j : Int) ∧ Hid (runL (newsM s) (nN - j) (l, (q, g)) = (xN, (pN, fN))) ∧ Hid (UP s w X M P H v (.slice none 0 0) (.slice none 0 0) (.slice none 0 0) (.slice none 0 0) l [] [] [] [] q g wr)) (fun iv _ => nN - (intOf iv).toNat)
    case atStart => exact ⟨0, [], _, _, _, Nat.zero_le _, hid rfl, rfl, HQN, U⟩
    case round =>
      obtain ⟨j, l, q, g, v, hj, HLl, rfl, HR, UU⟩ := hrel
      clear U
      have U := UU
      clear UU
      by_cases hlt : j < nN
      · have hltz : (j : Int) < (nN : Int) := by omega
        have hwr : IntKind.u64.wrap ((j : Int) + 1) = (j : Int) + 1 := wrap64 (by have h9 := HlN.out; omega)
        by_cases hg : g = 0
        · subst hg
          have e0 : ((0 : Nat) : Int) = 0 := rfl
          obtain ⟨c0, c1, c2, cf⟩ := at_cells3 U.out.x
          rw [e0] at c2
          obtain ⟨n1, p1, f1, h1⟩ : ∃ a b c, numM s 0 63 (q, 0) = (a, (b, c)) := pair3 _
          obtain ⟨n2, p2, f2, h2⟩ : ∃ a b c, numM s 1 4 (p1, f1) = (a, (b, c)) := pair3 _
          obtain ⟨n3, p3, f3, h3⟩ : ∃ a b c, numM s 0 4294967295 (p2, f2) = (a, (b, c)) := pair3 _
          have hone : newsM s (q, 0) = (⟨(n1 : Int), (n2 : Int), (n3 : Int)⟩, (p3, f3)) := by unfold newsM; simp only [h1, h2, h3]
          have HR2 : Hid (runL (newsM s) (nN - (j + 1)) (l ++ [(⟨(n1 : Int), (n2 : Int), (n3 : Int)⟩ : Nw)], (p3, f3)) = (xN, (pN, fN))) := hid (by have h9 := HR.out; rw [show nN - j = (nN - (j + 1)) + 1 by omega, runL_next rfl] at h9; rw [hone] at h9; exact h9)
          have m1 := wrap8 (Nat.le_trans (num_le h1) (by omega))
          have m2 := wrap8 (Nat.le_trans (num_le h2) (by omega))
          have m3 := wrap32 (num_le h3)
          have H1 := hid h1
          have H2 := hid h2
          have H3 := hid h3
          clear hone h1 h2 h3
          clear HR
          go_wp2_with fail
          clear c0 c1 c2 cf e0
          refine (number_at s hs H1.out _).mono ?_
          rintro e u1 ⟨rfl, k1⟩
          have ua := up_kept U.out k1
          have ub := up_read ua p1 f1
          obtain ⟨c0, c1, c2, cf⟩ := at_cells3 ua.x
          unfold set3 at ub
          obtain ⟨v1, hv1⟩ : ∃ v, ((u1.setCell ⟨X, 0, none⟩ (.string s)).setCell ⟨X, 1, none⟩ (.int .i64 p1)).setCell ⟨X, 2, none⟩ (.int .i64 (f1 : Int)) = v := ⟨_, rfl⟩
          rw [hv1] at ub
          replace U := hid ub
          obtain ⟨d0, d1, d2, df⟩ := at_cells3 U.out.x
          clear ua ub k1
          go_wp2_with fail
          clear c0 c1 c2 cf d0 d1 d2 df hv1
          refine (number_at s hs H2.out _).mono ?_
          rintro e u2 ⟨rfl, k2⟩
          have ua := up_kept U.out k2
          have ub := up_read ua p2 f2
          obtain ⟨c0, c1, c2, cf⟩ := at_cells3 ua.x
          unfold set3 at ub
          obtain ⟨v2, hv2⟩ : ∃ v, ((u2.setCell ⟨X, 0, none⟩ (.string s)).setCell ⟨X, 1, none⟩ (.int .i64 p2)).setCell ⟨X, 2, none⟩ (.int .i64 (f2 : Int)) = v := ⟨_, rfl⟩
          rw [hv2] at ub
          replace U := hid ub
          obtain ⟨d0, d1, d2, df⟩ := at_cells3 U.out.x
          clear ua ub k2
          go_wp2_with fail
          clear c0 c1 c2 cf d0 d1 d2 df hv2
          refine (number_at s hs H3.out _).mono ?_
          rintro e u3 ⟨rfl, k3⟩
          have ua := up_kept U.out k3
          have ub := up_read ua p3 f3
          obtain ⟨c0, c1, c2, cf⟩ := at_cells3 ua.x
          unfold set3 at ub
          obtain ⟨v3, hv3⟩ : ∃ v, ((u3.setCell ⟨X, 0, none⟩ (.string s)).setCell ⟨X, 1, none⟩ (.int .i64 p3)).setCell ⟨X, 2, none⟩ (.int .i64 (f3 : Int)) = v := ⟨_, rfl⟩
          rw [hv3] at ub
          replace U := hid ub
          obtain ⟨d0, d1, d2, df⟩ := at_cells3 U.out.x
          clear ua ub k3
          have hq1 := m1
          have hq2 := m2
          have hq3 := m3
          clear m1 m2 m3
          have hm12 := U.out.m
          unfold mCells at hm12
          obtain ⟨⟨m0, m1, m2, m3, m4, m5, m6, m7, m8, m9, ma, mb⟩, mf⟩ := cells12 hm12
          clear hm12
          have hal := rg_alone encN_ok (y := (⟨(n1 : Int), (n2 : Int), (n3 : Int)⟩ : Nw)) (at_new v3 #[.int .u8 (n1 : Int), .int .u8 (n2 : Int), .int .u32 (n3 : Int)] 79)
          have kb := kept_alloc (kept_refl v3) (.cells #[.int .u8 (n1 : Int), .int .u8 (n2 : Int), .int .u32 (n3 : Int)] 79)
          have HAl := hid hal
          have Ub := hid (up_kept U.out kb)
          clear hal kb U
          go_wp2_with (at_builtin; go_must (refine wpList_gapp rfl (.tmp 105) (.tmp 114) rfl encN_ok tyN (by decide) w.heap.size _ _ _ [(⟨(n1 : Int), (n2 : Int), (n3 : Int)⟩ : Nw)] rfl Ub.out.n rfl HAl.out (by rw [HLl.out]; have := HlN.out; simp; omega) Ub.out.kept.2 ?_; intro v9 w9 hown9 hgrow9 hnil9; obtain ⟨va9, vc9, e9, -, -⟩ := og_is encN_ok hown9; obtain ⟨ln, hln⟩ : ∃ ln, (l ++ [(⟨(n1 : Int), (n2 : Int), (n3 : Int)⟩ : Nw)]).length = ln := ⟨_, rfl⟩; rw [hln] at e9; clear hln; subst e9; have U9 := hid (up_news Ub.out hgrow9 hown9); have M9 := at_gr Ub.out.m Ub.out.n (by decide) hgrow9; unfold mCells at M9; obtain ⟨⟨m0, m1, m2, m3, m4, m5, m6, m7, m8, m9, ma, mb⟩, mf⟩ := cells12 M9; clear M9 hown9 hgrow9 hnil9))
          go_roundw
          case rel => exact ⟨j + 1, l ++ [(⟨(n1 : Int), (n2 : Int), (n3 : Int)⟩ : Nw)], p3, f3, _, by omega, hid (by rw [List.length_append, HLl.out]; rfl), by go_num, HR2, U9⟩
          case measure => simp [intOf]; omega
        · have hd : ((g : Int) == 0) = false := by simpa using hg
          have HRx := HR.out
          rw [runL_stop (.inr hg)] at HRx
          have ex : l = xN ∧ q = pN ∧ g = fN := by
            injection HRx with e1 e2
            injection e2 with e2 e3
            exact ⟨e1, e2, e3⟩
          obtain ⟨ex1, ex2, ex3⟩ := ex
          obtain ⟨c0, c1, c2, cf⟩ := at_cells3 U.out.x
          go_wp2_with fail
          go_meet
          case rel => exact ⟨v, by rw [← ex1, ← ex2, ← ex3]; exact U⟩
      · have hltz : ¬ (j : Int) < (nN : Int) := by omega
        have HRx := HR.out
        rw [runL_stop (.inl (by omega))] at HRx
        have ex : l = xN ∧ q = pN ∧ g = fN := by
          injection HRx with e1 e2
          injection e2 with e2 e3
          exact ⟨e1, e2, e3⟩
        obtain ⟨ex1, ex2, ex3⟩ := ex
        obtain ⟨c0, c1, c2, cf⟩ := at_cells3 U.out.x
        go_wp2_with fail
        go_meet
        case rel => exact ⟨v, by rw [← ex1, ← ex2, ← ex3]; exact U⟩
  case rest =>
    obtain ⟨vn, UU⟩ := hcut
    clear U
    have U := UU
    clear UU
    obtain ⟨c0, c1, c2, cf⟩ := at_cells3 U.out.x
    go_wp2_with fail
    clear c0 c1 c2 cf
    refine (number_at s hs HN2.out _).mono ?_
    rintro e un ⟨rfl, kn⟩
    have ua := up_kept U.out kn
    have ub := up_read ua pk fk
    obtain ⟨c0, c1, c2, cf⟩ := at_cells3 ua.x
    unfold set3 at ub
    obtain ⟨vn0, hvn0⟩ : ∃ v, ((un.setCell ⟨X, 0, none⟩ (.string s)).setCell ⟨X, 1, none⟩ (.int .i64 pk)).setCell ⟨X, 2, none⟩ (.int .i64 (fk : Int)) = v := ⟨_, rfl⟩
    rw [hvn0] at ub
    replace U := hid ub
    clear ua ub kn
    go_upto_block 2 with fail
    clear c0 c1 c2 cf hvn0
    go_cut [17] (fun _ wx => ∃ v, Hid (UP s w X M P H vn v (.slice none 0 0) (.slice none 0 0) (.slice none 0 0) xN xK [] [] [] pK fK wx))
    case first =>
      clear HE
      go_wp2_with fail
      go_loopw [17] (fun iv wr => ∃ (j : Nat) (l : List ByteArray) (q : Int) (g : Nat) (v : Value), j ≤ nK ∧ Hid (l.length = j) ∧ iv = .int .u64 (j : Int) ∧ Hid (runL (keyM s) (nK - j) (l, (q, g)) = (xK, (pK, fK))) ∧ Hid (UP s w X M P H vn v (.slice none 0 0) (.slice none 0 0) (.slice none 0 0) xN l [] [] [] q g wr)) (fun iv _ => nK - (intOf iv).toNat)
      case atStart => exact ⟨0, [], _, _, _, Nat.zero_le _, hid rfl, rfl, HQK, U⟩
      case round =>
        obtain ⟨j, l, q, g, v, hj, HLl, rfl, HR, UU⟩ := hrel
        clear U
        have U := UU
        clear UU
        by_cases hlt : j < nK
        · have hltz : (j : Int) < (nK : Int) := by omega
          have hwr : IntKind.u64.wrap ((j : Int) + 1) = (j : Int) + 1 := wrap64 (by have h9 := HlK.out; omega)
          by_cases hg : g = 0
          · subst hg
            have e0 : ((0 : Nat) : Int) = 0 := rfl
            obtain ⟨c0, c1, c2, cf⟩ := at_cells3 U.out.x
            rw [e0] at c2
            obtain ⟨t1, p1, f1, h1⟩ : ∃ a b c, keyM s (q, 0) = (a, (b, c)) := pair3 _
            have HR2 : Hid (runL (keyM s) (nK - (j + 1)) (l ++ [(t1 : ByteArray)], (p1, f1)) = (xK, (pK, fK))) := hid (by have h9 := HR.out; rw [show nK - j = (nK - (j + 1)) + 1 by omega, runL_next rfl] at h9; rw [h1] at h9; exact h9)
            have H1 := hid h1
            clear h1
            clear HR
            go_wp2_with fail
            clear c0 c1 c2 cf e0
            refine (key_at s hs H1.out _).mono ?_
            rintro e u1 ⟨rfl, k1⟩
            have ua := up_kept U.out k1
            have ub := up_read ua p1 f1
            obtain ⟨c0, c1, c2, cf⟩ := at_cells3 ua.x
            unfold set3 at ub
            obtain ⟨v1, hv1⟩ : ∃ v, ((u1.setCell ⟨X, 0, none⟩ (.string s)).setCell ⟨X, 1, none⟩ (.int .i64 p1)).setCell ⟨X, 2, none⟩ (.int .i64 (f1 : Int)) = v := ⟨_, rfl⟩
            rw [hv1] at ub
            replace U := hid ub
            obtain ⟨d0, d1, d2, df⟩ := at_cells3 U.out.x
            clear ua ub k1
            have hm12 := U.out.m
            unfold mCells at hm12
            obtain ⟨⟨m0, m1, m2, m3, m4, m5, m6, m7, m8, m9, ma, mb⟩, mf⟩ := cells12 hm12
            clear hm12
            have hal := rg_alone encK_ok (y := (t1 : ByteArray)) (at_new v1 #[.string t1] 9)
            have kb := kept_alloc (kept_refl v1) (.cells #[.string t1] 9)
            have HAl := hid hal
            have Ub := hid (up_kept U.out kb)
            clear hal kb U
            go_wp2_with (at_builtin; go_must (refine wpList_gapp rfl (.tmp 138) (.tmp 140) rfl encK_ok tyK (by decide) w.heap.size _ _ _ [(t1 : ByteArray)] rfl Ub.out.k rfl HAl.out (by rw [HLl.out]; have := HlK.out; simp; omega) Ub.out.kept.2 ?_; intro v9 w9 hown9 hgrow9 hnil9; obtain ⟨va9, vc9, e9, -, -⟩ := og_is encK_ok hown9; obtain ⟨ln, hln⟩ : ∃ ln, (l ++ [(t1 : ByteArray)]).length = ln := ⟨_, rfl⟩; rw [hln] at e9; clear hln; subst e9; have U9 := hid (up_keys Ub.out hgrow9 hown9); have M9 := at_gr Ub.out.m Ub.out.k (by decide) hgrow9; unfold mCells at M9; obtain ⟨⟨m0, m1, m2, m3, m4, m5, m6, m7, m8, m9, ma, mb⟩, mf⟩ := cells12 M9; clear M9 hown9 hgrow9 hnil9))
            go_roundw
            case rel => exact ⟨j + 1, l ++ [(t1 : ByteArray)], p1, f1, _, by omega, hid (by rw [List.length_append, HLl.out]; rfl), by go_num, HR2, U9⟩
            case measure => simp [intOf]; omega
          · have hd : ((g : Int) == 0) = false := by simpa using hg
            have HRx := HR.out
            rw [runL_stop (.inr hg)] at HRx
            have ex : l = xK ∧ q = pK ∧ g = fK := by
              injection HRx with e1 e2
              injection e2 with e2 e3
              exact ⟨e1, e2, e3⟩
            obtain ⟨ex1, ex2, ex3⟩ := ex
            obtain ⟨c0, c1, c2, cf⟩ := at_cells3 U.out.x
            go_wp2_with fail
            go_meet
            case rel => exact ⟨v, by rw [← ex1, ← ex2, ← ex3]; exact U⟩
        · have hltz : ¬ (j : Int) < (nK : Int) := by omega
          have HRx := HR.out
          rw [runL_stop (.inl (by omega))] at HRx
          have ex : l = xK ∧ q = pK ∧ g = fK := by
            injection HRx with e1 e2
            injection e2 with e2 e3
            exact ⟨e1, e2, e3⟩
          obtain ⟨ex1, ex2, ex3⟩ := ex
          obtain ⟨c0, c1, c2, cf⟩ := at_cells3 U.out.x
          go_wp2_with fail
          go_meet
          case rel => exact ⟨v, by rw [← ex1, ← ex2, ← ex3]; exact U⟩
    case rest =>
      obtain ⟨vk, UU⟩ := hcut
      clear U
      have U := UU
      clear UU
      obtain ⟨c0, c1, c2, cf⟩ := at_cells3 U.out.x
      go_wp2_with fail
      clear c0 c1 c2 cf
      refine (number_at s hs HN3.out _).mono ?_
      rintro e un ⟨rfl, kn⟩
      have ua := up_kept U.out kn
      have ub := up_read ua pr fr
      obtain ⟨c0, c1, c2, cf⟩ := at_cells3 ua.x
      unfold set3 at ub
      obtain ⟨vn0, hvn0⟩ : ∃ v, ((un.setCell ⟨X, 0, none⟩ (.string s)).setCell ⟨X, 1, none⟩ (.int .i64 pr)).setCell ⟨X, 2, none⟩ (.int .i64 (fr : Int)) = v := ⟨_, rfl⟩
      rw [hvn0] at ub
      replace U := hid ub
      clear ua ub kn
      go_upto_block 4 with fail
      clear c0 c1 c2 cf hvn0
      go_cut [19] (fun _ wx => ∃ v, Hid (UP s w X M P H vn vk v (.slice none 0 0) (.slice none 0 0) xN xK xR [] [] pR fR wx))
      case first =>
        clear HE
        go_wp2_with fail
        go_loopw [19] (fun iv wr => ∃ (j : Nat) (l : List R) (q : Int) (g : Nat) (v : Value), j ≤ nR ∧ Hid (l.length = j) ∧ iv = .int .u64 (j : Int) ∧ Hid (runL (recM s) (nR - j) (l, (q, g)) = (xR, (pR, fR))) ∧ Hid (UP s w X M P H vn vk v (.slice none 0 0) (.slice none 0 0) xN xK l [] [] q g wr)) (fun iv _ => nR - (intOf iv).toNat)
        case atStart => exact ⟨0, [], _, _, _, Nat.zero_le _, hid rfl, rfl, HQR, U⟩
        case round =>
          obtain ⟨j, l, q, g, v, hj, HLl, rfl, HR, UU⟩ := hrel
          clear U
          have U := UU
          clear UU
          by_cases hlt : j < nR
          · have hltz : (j : Int) < (nR : Int) := by omega
            have hwr : IntKind.u64.wrap ((j : Int) + 1) = (j : Int) + 1 := wrap64 (by have h9 := HlR.out; omega)
            by_cases hg : g = 0
            · subst hg
              have e0 : ((0 : Nat) : Int) = 0 := rfl
              obtain ⟨c0, c1, c2, cf⟩ := at_cells3 U.out.x
              rw [e0] at c2
              obtain ⟨r1, p1, f1, h1⟩ : ∃ a b c, recM s (q, 0) = (a, (b, c)) := pair3 _
              have HR2 : Hid (runL (recM s) (nR - (j + 1)) (l ++ [(r1 : R)], (p1, f1)) = (xR, (pR, fR))) := hid (by have h9 := HR.out; rw [show nR - j = (nR - (j + 1)) + 1 by omega, runL_next rfl] at h9; rw [h1] at h9; exact h9)
              have H1 := hid h1
              have hzr := zeroRc
              have kz := kept_alloc (kept_refl wr) (.cells #[.string ⟨#[]⟩, .int .u64 0, .int .u32 0, .int .u8 0, .int .u8 0, .int .u32 0, .int .u64 0, .string ⟨#[]⟩] 57)
              have az := at_new wr #[.string ⟨#[]⟩, .int .u64 0, .int .u32 0, .int .u8 0, .int .u8 0, .int .u32 0, .int .u64 0, .string ⟨#[]⟩] 57
              have HZ := hid az
              have HKz := hid kz
              obtain ⟨b0, b1, b2, bf⟩ := at_cells3 (at_kept U.out.x kz)
              rw [e0] at b2
              clear h1 kz az
              clear HR
              go_wp2_with fail
              clear c0 c1 c2 cf e0
              obtain ⟨wz, hwz⟩ : ∃ u, wr.alloc (.cells #[.string ⟨#[]⟩, .int .u64 0, .int .u32 0, .int .u8 0, .int .u8 0, .int .u32 0, .int .u64 0, .string ⟨#[]⟩] 57) = u := ⟨_, rfl⟩
              obtain ⟨Z, hZ⟩ : ∃ u, wr.heap.size = u := ⟨_, rfl⟩
              rw [hwz] at HKz HZ
              rw [hZ] at HZ
              rw [hwz]
              simp only [hZ]
              have HZs : Hid (wr.heap.size ≤ Z) := hid (by omega)
              clear b0 b1 b2 bf hwz hZ
              refine (rec_at s hs H1.out _).mono ?_
              rintro e u1 ⟨rfl, k1⟩
              have kk := kept_trans HKz.out k1
              have Z1 := at_kept HZ.out k1
              have ZX : Z ≠ X := by have h8 := at_lt U.out.x; have h9 := HZs.out; omega
              have Z2 := at_out3 (at_set8 Z1 (.string r1.key) (.int .u64 r1.s.p) (.int .u32 r1.s.l) (.int .u8 r1.s.n) (.int .u8 r1.kind) (.int .u32 r1.flags) (.int .u64 r1.exp) (.string r1.body)) ZX (.string s) (.int .i64 p1) (.int .i64 (f1 : Int))
              have ua := up_beyond U.out (tn_set8 u1 Z (.string r1.key) (.int .u64 r1.s.p) (.int .u32 r1.s.l) (.int .u8 r1.s.n) (.int .u8 r1.kind) (.int .u32 r1.flags) (.int .u64 r1.exp) (.string r1.body)) kk (fun b hb => by rw [hb]; exact HZs.out)
              have ub := up_read ua p1 f1
              obtain ⟨c0, c1, c2, cf⟩ := at_cells3 ua.x
              obtain ⟨z0, z1, z2, z3, z4, z5, z6, z7, zf⟩ := at_cells8 Z1
              unfold set3 set8 at ub Z2
              unfold set8 at c0 c1 c2 cf
              obtain ⟨v1, hv1⟩ : ∃ v, (((((((((((u1.setCell ⟨Z, 0, none⟩ (.string r1.key)).setCell ⟨Z, 1, none⟩ (.int .u64 r1.s.p)).setCell ⟨Z, 2, none⟩ (.int .u32 r1.s.l)).setCell ⟨Z, 3, none⟩ (.int .u8 r1.s.n)).setCell ⟨Z, 4, none⟩ (.int .u8 r1.kind)).setCell ⟨Z, 5, none⟩ (.int .u32 r1.flags)).setCell ⟨Z, 6, none⟩ (.int .u64 r1.exp)).setCell ⟨Z, 7, none⟩ (.string r1.body)).setCell ⟨X, 0, none⟩ (.string s)).setCell ⟨X, 1, none⟩ (.int .i64 p1)).setCell ⟨X, 2, none⟩ (.int .i64 (f1 : Int))) = v := ⟨_, rfl⟩
              rw [hv1] at ub Z2
              replace U := hid ub
              obtain ⟨y0, y1, y2, y3, y4, y5, y6, y7, yf⟩ := at_cells8 Z2
              clear ua ub k1 kk Z1 Z2 HZ HKz HZs ZX
              have hm12 := U.out.m
              unfold mCells at hm12
              obtain ⟨⟨m0, m1, m2, m3, m4, m5, m6, m7, m8, m9, ma, mb⟩, mf⟩ := cells12 hm12
              clear hm12
              have hal := rg_alone encR_ok (y := (r1 : R)) (at_new v1 #[.string r1.key, .int .u64 r1.s.p, .int .u32 r1.s.l, .int .u8 r1.s.n, .int .u8 r1.kind, .int .u32 r1.flags, .int .u64 r1.exp, .string r1.body] 57)
              have kb := kept_alloc (kept_refl v1) (.cells #[.string r1.key, .int .u64 r1.s.p, .int .u32 r1.s.l, .int .u8 r1.s.n, .int .u8 r1.kind, .int .u32 r1.flags, .int .u64 r1.exp, .string r1.body] 57)
              have HAl := hid hal
              have Ub := hid (up_kept U.out kb)
              clear hal kb U
              go_wp2_with (at_builtin; go_must (refine wpList_gapp rfl (.tmp 165) (.tmp 167) rfl encR_ok tyR (by decide) w.heap.size _ _ _ [(r1 : R)] rfl Ub.out.r rfl HAl.out (by rw [HLl.out]; have := HlR.out; simp; omega) Ub.out.kept.2 ?_; intro v9 w9 hown9 hgrow9 hnil9; obtain ⟨va9, vc9, e9, -, -⟩ := og_is encR_ok hown9; obtain ⟨ln, hln⟩ : ∃ ln, (l ++ [(r1 : R)]).length = ln := ⟨_, rfl⟩; rw [hln] at e9; clear hln; subst e9; have U9 := hid (up_recs Ub.out hgrow9 hown9); have M9 := at_gr Ub.out.m Ub.out.r (by decide) hgrow9; unfold mCells at M9; obtain ⟨⟨m0, m1, m2, m3, m4, m5, m6, m7, m8, m9, ma, mb⟩, mf⟩ := cells12 M9; clear M9 hown9 hgrow9 hnil9))
              go_roundw
              case rel => exact ⟨j + 1, l ++ [(r1 : R)], p1, f1, _, by omega, hid (by rw [List.length_append, HLl.out]; rfl), by go_num, HR2, U9⟩
              case measure => simp [intOf]; omega
            · have hd : ((g : Int) == 0) = false := by simpa using hg
              have HRx := HR.out
              rw [runL_stop (.inr hg)] at HRx
              have ex : l = xR ∧ q = pR ∧ g = fR := by
                injection HRx with e1 e2
                injection e2 with e2 e3
                exact ⟨e1, e2, e3⟩
              obtain ⟨ex1, ex2, ex3⟩ := ex
              obtain ⟨c0, c1, c2, cf⟩ := at_cells3 U.out.x
              go_wp2_with fail
              go_meet
              case rel => exact ⟨v, by rw [← ex1, ← ex2, ← ex3]; exact U⟩
          · have hltz : ¬ (j : Int) < (nR : Int) := by omega
            have HRx := HR.out
            rw [runL_stop (.inl (by omega))] at HRx
            have ex : l = xR ∧ q = pR ∧ g = fR := by
              injection HRx with e1 e2
              injection e2 with e2 e3
              exact ⟨e1, e2, e3⟩
            obtain ⟨ex1, ex2, ex3⟩ := ex
            obtain ⟨c0, c1, c2, cf⟩ := at_cells3 U.out.x
            go_wp2_with fail
            go_meet
            case rel => exact ⟨v, by rw [← ex1, ← ex2, ← ex3]; exact U⟩
      case rest =>
        obtain ⟨vr, UU⟩ := hcut
        clear U
        have U := UU
        clear UU
        obtain ⟨c0, c1, c2, cf⟩ := at_cells3 U.out.x
        go_wp2_with fail
        clear c0 c1 c2 cf
        refine (seen_rd s hs HqS.out _).mono ?_
        rintro e u7 ⟨vv, rfl, os, kn⟩
        obtain ⟨va, vc, evs, -, -⟩ := og_is encS_ok os
        obtain ⟨nl, hnl⟩ : ∃ n, xS.length = n := ⟨_, rfl⟩
        rw [hnl] at evs
        clear hnl
        subst evs
        have ol := og_low os U.out.kept.2
        have ua := up_kept U.out kn
        have ub := up_read ua pS fS
        have ob := og_out3 ol ua.x (by decide) (.string s) (.int .i64 pS) (.int .i64 (fS : Int))
        have uc := up_cell ub 10 (.slice va nl vc) rfl ub.n ub.k ub.r ob ub.d
        obtain ⟨c0, c1, c2, cf⟩ := at_cells3 ua.x
        have hm12 := ub.m
        unfold set3 at uc hm12
        unfold mCells at hm12
        obtain ⟨⟨m0, m1, m2, m3, m4, m5, m6, m7, m8, m9, ma, mb⟩, mf⟩ := cells12 hm12
        obtain ⟨vn0, hvn0⟩ : ∃ z, (((u7.setCell ⟨X, 0, none⟩ (.string s)).setCell ⟨X, 1, none⟩ (.int .i64 pS)).setCell ⟨X, 2, none⟩ (.int .i64 (fS : Int))).setCell ⟨M, 10, none⟩ (.slice va nl vc) = z := ⟨_, rfl⟩
        rw [hvn0] at uc
        replace U := hid uc
        obtain ⟨d0, d1, d2, df⟩ := at_cells3 U.out.x
        clear os ol ua ub ob uc hm12 kn
        go_wp2_with fail
        clear c0 c1 c2 cf d0 d1 d2 df hvn0
        clear m0 m1 m2 m3 m4 m5 m6 m7 m8 m9 ma mb mf
        refine (digs_rd s hs HqG.out _).mono ?_
        rintro e u8 ⟨vv, rfl, os, kn⟩
        obtain ⟨wa, wc, evs, -, -⟩ := og_is encG_ok os
        obtain ⟨ml, hnl⟩ : ∃ n, xG.length = n := ⟨_, rfl⟩
        rw [hnl] at evs
        clear hnl
        subst evs
        have ol := og_low os U.out.kept.2
        have ua := up_kept U.out kn
        have ub := up_read ua pG fG
        have ob := og_out3 ol ua.x (by decide) (.string s) (.int .i64 pG) (.int .i64 (fG : Int))
        have uc := up_cell ub 11 (.slice wa ml wc) rfl ub.n ub.k ub.r ub.s ob
        obtain ⟨c0, c1, c2, cf⟩ := at_cells3 ua.x
        have hm12 := ub.m
        unfold set3 at uc hm12
        unfold mCells at hm12
        obtain ⟨⟨m0, m1, m2, m3, m4, m5, m6, m7, m8, m9, ma, mb⟩, mf⟩ := cells12 hm12
        obtain ⟨vn0, hvn0⟩ : ∃ z, (((u8.setCell ⟨X, 0, none⟩ (.string s)).setCell ⟨X, 1, none⟩ (.int .i64 pG)).setCell ⟨X, 2, none⟩ (.int .i64 (fG : Int))).setCell ⟨M, 11, none⟩ (.slice wa ml wc) = z := ⟨_, rfl⟩
        rw [hvn0] at uc
        replace U := hid uc
        obtain ⟨d0, d1, d2, df⟩ := at_cells3 U.out.x
        clear os ol ua ub ob uc hm12 kn
        obtain ⟨⟨g0, g1, g2, g3, g4, g5, g6, g7, g8, g9, ga, gb⟩, gf⟩ := cells12 U.out.p
        by_cases hf : fG = 0
        · subst hf
          have e0 : ((0 : Nat) : Int) = 0 := rfl
          rw [e0] at d2 hvn0 m0 m1 m2 m3 m4 m5 m6 m7 m8 m9 ma mb
          simp only [e0] at mf
          by_cases hp : pG = (s.size : Int)
          · have HE2 : Hid (RM = (⟨k, f, t, (a0 : Int), (a1 : Int), (a2 : Int), fl, xN, xK, xR, xS, xG⟩, 0)) := hid (by rw [HE.out, if_neg (by simp), if_neg (by simp [hp])])
            subst hp
            obtain ⟨na, nc, e5, -, -⟩ := og_is encN_ok U.out.n
            obtain ⟨n5, h5⟩ : ∃ n, xN.length = n := ⟨_, rfl⟩
            rw [h5] at e5
            clear h5
            subst e5
            obtain ⟨ka, kc, e6, -, -⟩ := og_is encK_ok U.out.k
            obtain ⟨k5, h5⟩ : ∃ n, xK.length = n := ⟨_, rfl⟩
            rw [h5] at e6
            clear h5
            subst e6
            obtain ⟨ra, rc, e7, -, -⟩ := og_is encR_ok U.out.r
            obtain ⟨r5, h5⟩ : ∃ n, xR.length = n := ⟨_, rfl⟩
            rw [h5] at e7
            clear h5
            subst e7
            have hmm := U.out.m
            unfold mCells at hmm
            obtain ⟨⟨y0, y1, y2, y3, y4, y5, y6, y7, y8, y9, ya, yb⟩, yf⟩ := cells12 hmm
            have HAz := hid (at_set12 U.out.p (.int .u8 H.k) (.int .u8 H.f) (.int .u8 H.t) (.int .u32 H.id) (.int .u8 H.tg) (.int .u8 H.rn) (.bool H.fl) (.slice na n5 nc) (.slice ka k5 kc) (.slice ra r5 rc) (.slice va nl vc) (.slice wa ml wc))
            have HKz := hid (kept_set12 U.out.kept U.out.pw (.int .u8 H.k) (.int .u8 H.f) (.int .u8 H.t) (.int .u32 H.id) (.int .u8 H.tg) (.int .u8 H.rn) (.bool H.fl) (.slice na n5 nc) (.slice ka k5 kc) (.slice ra r5 rc) (.slice va nl vc) (.slice wa ml wc))
            have HMz := hid (msr_up U.out (.int .u8 H.k) (.int .u8 H.f) (.int .u8 H.t) (.int .u32 H.id) (.int .u8 H.tg) (.int .u8 H.rn) (.bool H.fl) (.slice na n5 nc) (.slice ka k5 kc) (.slice ra r5 rc) (.slice va nl vc) (.slice wa ml wc))
            unfold set12 at HAz HKz HMz
            clear hmm U
            go_wp2_with fail
            refine bodyPost_ret (resMI Tryz.results14 _ rfl rfl HAz.out) rfl ⟨.slice na n5 nc, .slice ka k5 kc, .slice ra r5 rc, .slice va nl vc, .slice wa ml wc, ?_, ?_, HKz.out⟩
            · rw [HE2.out, ← hH]; rfl
            · rw [HE2.out]; exact ⟨HMz.out.n, HMz.out.k, HMz.out.r, HMz.out.s, HMz.out.d⟩
          · have HE2 : Hid (RM = (zeroM, 3)) := hid (by rw [HE.out, if_neg (by simp), if_pos hp])
            have hb : (pG != (s.size : Int)) = true := by simpa using hp
            have HAz := hid (at_set12 U.out.p (.int .u8 0) (.int .u8 0) (.int .u8 0) (.int .u32 0) (.int .u8 0) (.int .u8 0) (.bool false) (.slice none 0 0) (.slice none 0 0) (.slice none 0 0) (.slice none 0 0) (.slice none 0 0))
            have HKz := hid (kept_set12 U.out.kept U.out.pw (.int .u8 0) (.int .u8 0) (.int .u8 0) (.int .u32 0) (.int .u8 0) (.int .u8 0) (.bool false) (.slice none 0 0) (.slice none 0 0) (.slice none 0 0) (.slice none 0 0) (.slice none 0 0))
            unfold set12 at HAz HKz
            clear U
            go_wp2_with fail
            refine bodyPost_ret (resMI Tryz.results14 _ rfl rfl HAz.out) rfl ⟨.slice none 0 0, .slice none 0 0, .slice none 0 0, .slice none 0 0, .slice none 0 0, ?_, ?_, HKz.out⟩
            · rw [HE2.out]; rfl
            · rw [HE2.out]; exact msr_zero _
        · have HE2 : Hid (RM = (zeroM, fG)) := hid (by rw [HE.out, if_pos hf])
          have hb : ((fG : Int) != 0) = true := by simpa using hf
          have HAz := hid (at_drew (at_set12 U.out.p (.int .u8 0) (.int .u8 0) (.int .u8 0) (.int .u32 0) (.int .u8 0) (.int .u8 0) (.bool false) (.slice none 0 0) (.slice none 0 0) (.slice none 0 0) (.slice none 0 0) (.slice none 0 0)))
          have HKz := hid (kept_drew (kept_set12 U.out.kept U.out.pw (.int .u8 0) (.int .u8 0) (.int .u8 0) (.int .u32 0) (.int .u8 0) (.int .u8 0) (.bool false) (.slice none 0 0) (.slice none 0 0) (.slice none 0 0) (.slice none 0 0) (.slice none 0 0)))
          have hx7 := at_cells3 (at_out12 U.out.x (up_xm U.out).2 (.int .u8 0) (.int .u8 0) (.int .u8 0) (.int .u32 0) (.int .u8 0) (.int .u8 0) (.bool false) (.slice none 0 0) (.slice none 0 0) (.slice none 0 0) (.slice none 0 0) (.slice none 0 0))
          unfold set12 at HAz HKz hx7
          obtain ⟨x0, x1, x2, xf⟩ := hx7
          clear U
          go_wp2_with fail
          go_region
          go_wp2_with fail
          refine bodyPost_ret (resMI Tryz.results14 _ rfl rfl HAz.out) rfl ⟨.slice none 0 0, .slice none 0 0, .slice none 0 0, .slice none 0 0, .slice none 0 0, ?_, ?_, HKz.out⟩
          · rw [HE2.out]; rfl
          · rw [HE2.out]; exact msr_zero _
end Go.Proofs.YtioeidhblbfgmaaGreat
