/- MsgBack, walked over any codec that answers as it must. MsgBit, walked over any codec that answers as it must. A row that is handed in, opened: whatever its members are, they lie as cells (Rg). A row within a struct that is handed in, opened: whatever its members are, they lie as cells (Rg). -/
import Derived.Test.YtioeidhblbfgmaaGreatY48
import Derived.Test.YtioeidhblbfgmaaGreatY16
import Derived.Test.YtioeidhblbfgmaaGreatY18
import Derived.Test.YtioeidhblbfgmaaGreatY12
import Derived.Lib.SmallJoins
import Derived.Deep.Slices

namespace Go.Proofs.YtioeidhblbfgmaaGreat
open Go.ChangeShapes Go.WideShapes Go.ChangeAt Go.RowKit
set_option linter.unusedVariables false
set_option linter.unusedSimpArgs false
set_option maxRecDepth 100000

theorem tt_beside {T : Shape Unit} {W w w' : World} {X : Nat} {F G G' : Nat → Prop} (hT : ObjIs T) (h : TT T W X () F w) (d : Sd G w G' w') (dis : ∀ b, F b → ¬ G b) (hg : ∀ b, G b → W.heap.size ≤ b) : TT T W X () F w' :=
  ⟨hT.stay h.t (fun b hb => d.1.2.2.2 b (hT.lt h.t hb) (dis b hb)), kept_tn d.1 h.k hg, h.f⟩
set_option maxHeartbeats 12800000 in
theorem back_walk {T : Shape Unit} (hT : MsIs T) (m : Ms) (ok : MsOk m) (vn vk vr vs vd : Value) (w : World) (h : MsR w vn vk vr vs vd m) : Calls Tryz.prog 6 #[msgV m vn vk vr vs vd] w fun e w' => e = .returned (.bool true) ∧ Kept w w' := by
  have HOk := hid ok
  have HM := hid h
  obtain ⟨a1, n1, c1, a2, n2, c2, a3, n3, c3, a4, n4, c4, a5, n5, c5, rfl, rfl, rfl, rfl, rfl⟩ := msr_is h
  have K1 := kept_alloc (kept_refl w) (.cells (mC m (.slice a1 n1 c1) (.slice a2 n2 c2) (.slice a3 n3 c3) (.slice a4 n4 c4) (.slice a5 n5 c5)) 29)
  have A1 := at_new w (mC m (.slice a1 n1 c1) (.slice a2 n2 c2) (.slice a3 n3 c3) (.slice a4 n4 c4) (.slice a5 n5 c5)) 29
  obtain ⟨w1, hw1⟩ : ∃ u, w.alloc (.cells (mC m (.slice a1 n1 c1) (.slice a2 n2 c2) (.slice a3 n3 c3) (.slice a4 n4 c4) (.slice a5 n5 c5)) 29) = u := ⟨_, rfl⟩
  obtain ⟨X0, hX0⟩ : ∃ u, w.heap.size = u := ⟨_, rfl⟩
  rw [hw1] at K1 A1
  rw [hX0] at A1
  have HK1 := hid K1
  have HA1 := hid A1
  have hA1 := A1
  unfold mC at hA1 hw1
  obtain ⟨⟨x0, x1, x2, x3, x4, x5, x6, x7, x8, x9, xa, xb⟩, -⟩ := cells12 hA1
  clear K1 A1 hA1 h ok
  have HGr := hid (fun (u : World) (ku : Kept w u) => great_any m HOk.out u _ _ _ _ _ (msr_kept HM.out ku))
  have HMy := hid (fun (u : World) (ku : Kept w u) => may_any m HOk.out u _ _ _ _ _ (msr_kept HM.out ku))
  have HNo : Hid (mayM m = false → packM m = (⟨#[]⟩, 1)) := hid (fun e => packM_bad (by rw [e]; simp))
  have HYs : Hid (mayM m = true → greatM m = false → (packM m).2 = 0 ∧ unM (packM m).1 = (m, 0) ∧ (packM m).1.size ≤ 2000000 ∧ Few m) := hid (fun e1 e2 => by
    have hb := bodyM_le e2
    obtain ⟨u1, u2⟩ := un_pack HOk.out e1 (by omega)
    have hp := packM_ok HOk.out e1 (by omega)
    refine ⟨u1, u2, ?_, ?_⟩
    · have h9 : packM m = Frm.encS (byteI m.kind) (byteI m.frm) (byteI m.dst) (bodyM m) := by unfold packM; rw [if_pos e1]
      rw [h9] at u1 ⊢
      have := (Frm.enc_pos _ _ _ _ u1).2
      omega
    · obtain ⟨l1, l2, l3, l4, l5⟩ := (small_may HOk.out e1).l
      exact ⟨by omega, by omega, by omega, by omega, by omega⟩)
  generalize greatM m = gr at *
  have hz := zeroMv
  unfold msgV
  go_enter Tryz.func6, Tryz.ntmps6
  go_wp2_with fail
  refine (HGr.out _ HK1.out).mono ?_
  rintro e w2 ⟨bg, rfl, hbg, k2⟩
  have HBg := hid hbg
  have HK2 := hid (kept_trans HK1.out k2)
  have HA2 := hid (at_kept HA1.out k2)
  clear hbg k2 HK1 HA1 HGr x0 x1 x2 x3 x4 x5 x6 x7 x8 x9 xa xb hw1 hX0
  cases bg with
  | true =>
    go_wp2_with fail
    refine (fixed_any hT _).mono ?_
    rintro e w3 ⟨rfl, k3⟩
    have HK3 := hid (kept_trans HK2.out k3)
    clear k3
    go_wp2_with fail
    go_ret
    exact ⟨rfl, HK3.out⟩
  | false =>
    go_wp2_with fail
    refine (mk_new hT HK2.out).mono ?_
    rintro e w3 ⟨Xc, Fc, rfl, t3, k3, f3⟩
    have HC3 := hid t3
    have HA3 := hid (at_kept HA2.out k3)
    have HFc : Hid (∀ b, Fc b → X0 < b ∧ b < w3.heap.size) := hid (fun b hb => ⟨Nat.lt_of_lt_of_le (at_lt HA2.out) (f3 b hb), hT.obj.lt t3.t hb⟩)
    clear t3 k3 f3 HK2 HA2
    go_wp2_with fail
    refine (mk_new hT HC3.out.k).mono ?_
    rintro e w4 ⟨Xd, Fd, rfl, t4, k4, f4⟩
    have HC4 := hid (tt_kept hT.obj HC3.out k4)
    have HD4 := hid t4
    have HA4 := hid (at_kept HA3.out k4)
    have HFd : Hid (∀ b, Fd b → X0 < b ∧ w3.heap.size ≤ b ∧ b < w4.heap.size) := hid (fun b hb => ⟨Nat.lt_of_lt_of_le (at_lt HA3.out) (f4 b hb), f4 b hb, hT.obj.lt t4.t hb⟩)
    have hA4 := HA4.out
    unfold mC at hA4
    obtain ⟨⟨x0, x1, x2, x3, x4, x5, x6, x7, x8, x9, xa, xb⟩, -⟩ := cells12 hA4
    clear t4 k4 f4 HC3 HA3 hA4
    go_wp2_with fail
    refine (mk_pack hT HC4.out HOk.out (msr_kept HM.out HC4.out.k)).mono ?_
    rintro e w5 ⟨Fe, rfl, t5, d5⟩
    have HC5 := hid t5
    have HD5 := hid (tt_beside hT.obj HD4.out d5 (fun b hb hc => by have h1 := HFd.out b hb; have h2 := HFc.out b hc; omega) (fun b hb => HC4.out.f b hb))
    have HA5 := hid (at_tn HA4.out d5.1 (fun hc => by have h2 := HFc.out _ hc; omega))
    have HFe : Hid (∀ b, Fe b → X0 < b ∧ b < w5.heap.size ∧ ¬ Fd b) := hid (fun b hb => by
      have h1 := hT.obj.lt t5.t hb
      rcases d5.2 b hb with hc | hc
      · have h2 := HFc.out b hc
        exact ⟨h2.1, h1, fun hd => by have h3 := HFd.out b hd; omega⟩
      · exact ⟨by have h4 := at_lt HA4.out; omega, h1, fun hd => by have h3 := HFd.out b hd; omega⟩)
    have hA5 := HA5.out
    unfold mC at hA5
    clear x0 x1 x2 x3 x4 x5 x6 x7 x8 x9 xa xb
    obtain ⟨⟨x0, x1, x2, x3, x4, x5, x6, x7, x8, x9, xa, xb⟩, -⟩ := cells12 hA5
    clear t5 d5 HC4 HD4 HA4 hA5
    cases hmy : mayM m with
    | false =>
      have HP := hid (HNo.out hmy)
      rw [hmy] at HMy
      rw [HP.out]
      have HK5 := hid HC5.out.k
      clear HYs HNo HBg hmy HC5 HD5
      go_wp2_with fail
      refine (fixed_any hT _).mono ?_
      rintro e w6 ⟨rfl, k6⟩
      have HK6 := hid (kept_trans HK5.out k6)
      have hA6 := at_kept HA5.out k6
      unfold mC at hA6
      clear x0 x1 x2 x3 x4 x5 x6 x7 x8 x9 xa xb
      obtain ⟨⟨x0, x1, x2, x3, x4, x5, x6, x7, x8, x9, xa, xb⟩, -⟩ := cells12 hA6
      clear k6 hA6 HK5 HA5
      go_wp2_with fail
      refine (HMy.out _ HK6.out).mono ?_
      rintro e w7 ⟨rfl, k7⟩
      have HK7 := hid (kept_trans HK6.out k7)
      clear k7
      go_wp2_with fail
      go_ret
      exact ⟨rfl, HK7.out⟩
    | true =>
      obtain ⟨y1, y2, y3, y4⟩ := HYs.out hmy (HBg.out hmy).symm
      have HFw := hid y4
      have HUn : Hid (unM (packM m).1 = (m, 0)) := hid y2
      have HSz : Hid ((packM m).1.size ≤ 2000000) := hid y3
      obtain ⟨S, hS⟩ : ∃ S, (packM m).1 = S := ⟨_, rfl⟩
      rw [y1, hS]
      rw [hS] at HUn HSz
      clear HYs HNo HBg hmy y1 y2 y3 y4 hS HMy x0 x1 x2 x3 x4 x5 x6 x7 x8 x9 xa xb
      go_wp2_with fail
      refine (mk_unpack hT HD5.out HSz.out).mono ?_
      rintro e w6 ⟨Ff, nn, nk, nr, ns, nd, rfl, hn6, t6, d6⟩
      rw [HUn.out] at hn6 ⊢
      have HC6 := hid (tt_beside hT.obj HC5.out d6 (fun b hb => (HFe.out b hb).2.2) (fun b hb => HD5.out.f b hb))
      have HA6 := hid (at_tn HA5.out d6.1 (fun hc => by have h2 := HFd.out _ hc; omega))
      obtain ⟨b1, p1, q1, b2, p2, q2, b3, p3, q3, b4, p4, q4, b5, p5, q5, rfl, rfl, rfl, rfl, rfl⟩ := mso_is hn6
      have k7 := kept_alloc (kept_refl w6) (.cells (mC m (.slice b1 p1 q1) (.slice b2 p2 q2) (.slice b3 p3 q3) (.slice b4 p4 q4) (.slice b5 p5 q5)) 29)
      have B7 := at_new w6 (mC m (.slice b1 p1 q1) (.slice b2 p2 q2) (.slice b3 p3 q3) (.slice b4 p4 q4) (.slice b5 p5 q5)) 29
      have HN7 := hid (mso_kept hn6 k7)
      have HC7 := hid (tt_kept hT.obj HC6.out k7)
      have HA7 := hid (at_kept HA6.out k7)
      have HB7 := hid B7
      have HSz6 : Hid (w5.heap.size ≤ w6.heap.size) := hid d6.1.2.2.1
      have hm7 : msgV m (.slice b1 p1 q1) (.slice b2 p2 q2) (.slice b3 p3 q3) (.slice b4 p4 q4) (.slice b5 p5 q5) = .agg (mC m (.slice b1 p1 q1) (.slice b2 p2 q2) (.slice b3 p3 q3) (.slice b4 p4 q4) (.slice b5 p5 q5)) := rfl
      simp only [hm7]
      unfold mC at HC7 HN7 HA7 HB7 ⊢
      clear hn6 t6 d6 HC5 HD5 HA5 HC6 HA6 k7 B7 hm7
      go_wp2_with fail
      refine (mk_unpack hT HC7.out HSz.out).mono ?_
      rintro e w8 ⟨Fg, on, ok', or', os, od, rfl, ho8, t8, d8⟩
      rw [HUn.out] at ho8 ⊢
      have HN8 := hid (mso_tn HN7.out d8.1 (fun b hb => (HFe.out b hb).2.1))
      have HA8 := hid (at_tn HA7.out d8.1 (fun hc => by have h2 := HFe.out _ hc; omega))
      have HB8 := hid (at_tn HB7.out d8.1 (fun hc => by have h2 := HFe.out _ hc; have h3 := HSz6.out; omega))
      obtain ⟨e1, r1, s1, e2, r2, s2, e3, r3, s3, e4, r4, s4, e5, r5, s5, rfl, rfl, rfl, rfl, rfl⟩ := mso_is ho8
      have k9 := kept_alloc (kept_refl w8) (.cells (mC m (.slice e1 r1 s1) (.slice e2 r2 s2) (.slice e3 r3 s3) (.slice e4 r4 s4) (.slice e5 r5 s5)) 29)
      have C9 := at_new w8 (mC m (.slice e1 r1 s1) (.slice e2 r2 s2) (.slice e3 r3 s3) (.slice e4 r4 s4) (.slice e5 r5 s5)) 29
      have HN9 := hid (mso_r (mso_kept HN8.out k9))
      have HO9 := hid (mso_r (mso_kept ho8 k9))
      have HK9 := hid (kept_trans t8.k k9)
      have HA9 := hid (at_kept HA8.out k9)
      have HB9 := hid (at_kept HB8.out k9)
      have HC9 := hid C9
      have hm9 : msgV m (.slice e1 r1 s1) (.slice e2 r2 s2) (.slice e3 r3 s3) (.slice e4 r4 s4) (.slice e5 r5 s5) = .agg (mC m (.slice e1 r1 s1) (.slice e2 r2 s2) (.slice e3 r3 s3) (.slice e4 r4 s4) (.slice e5 r5 s5)) := rfl
      simp only [hm9]
      unfold mC at HN9 HO9 HK9 HA9 HB9 HC9 ⊢
      obtain ⟨⟨x0, x1, x2, x3, x4, x5, x6, x7, x8, x9, xa, xb⟩, -⟩ := cells12 HA9.out
      clear ho8 t8 d8 HC7 HN7 HA7 HB7 HN8 HA8 HB8 k9 C9 hm9
      go_wp2_with fail
      refine (hT.pack_nil m _ _ _ _ _ _ (msr_kept HM.out HK9.out)).mono ?_
      rintro e w10 ⟨sx, rfl, k10⟩
      have HN10 := hid (msr_kept HN9.out k10)
      have HO10 := hid (msr_kept HO9.out k10)
      have HK10 := hid (kept_trans HK9.out k10)
      have HA10 := hid (at_kept HA9.out k10)
      have HB10 := hid (at_kept HB9.out k10)
      have HC10 := hid (at_kept HC9.out k10)
      clear k10 HN9 HO9 HK9 HA9 HB9 HC9 x0 x1 x2 x3 x4 x5 x6 x7 x8 x9 xa xb
      go_wp2_with fail
      refine (hT.unpack_nil S _).mono ?_
      rintro e w11 ⟨mx, zn, zk, zr, zs, zd, rfl, hx11, k11⟩
      obtain ⟨g1, i1, j1, g2, i2, j2, g3, i3, j3, g4, i4, j4, g5, i5, j5, rfl, rfl, rfl, rfl, rfl⟩ := mso_is hx11
      have k12 := kept_alloc (kept_refl w11) (.cells (mC mx (.slice g1 i1 j1) (.slice g2 i2 j2) (.slice g3 i3 j3) (.slice g4 i4 j4) (.slice g5 i5 j5)) 29)
      have kk := kept_trans k11 k12
      have HN12 := hid (msr_kept HN10.out kk)
      have HO12 := hid (msr_kept HO10.out kk)
      have HK12 := hid (kept_trans HK10.out kk)
      have HA12 := hid (at_kept HA10.out kk)
      have HB12 := hid (at_kept HB10.out kk)
      have HC12 := hid (at_kept HC10.out kk)
      have hm12 : msgV mx (.slice g1 i1 j1) (.slice g2 i2 j2) (.slice g3 i3 j3) (.slice g4 i4 j4) (.slice g5 i5 j5) = .agg (mC mx (.slice g1 i1 j1) (.slice g2 i2 j2) (.slice g3 i3 j3) (.slice g4 i4 j4) (.slice g5 i5 j5)) := rfl
      simp only [hm12]
      unfold mC at HN12 HO12 HK12 HA12 HB12 HC12 ⊢
      clear hx11 k11 k12 kk HN10 HO10 HK10 HA10 HB10 HC10 hm12
      go_wp2_with fail
      refine (fixed_any hT _).mono ?_
      rintro e w13 ⟨rfl, k13⟩
      have HN13 := hid (msr_kept HN12.out k13)
      have HO13 := hid (msr_kept HO12.out k13)
      have HK13 := hid (kept_trans HK12.out k13)
      have HA13 := hid (at_kept HA12.out k13)
      have HB13 := hid (at_kept HB12.out k13)
      have HC13 := hid (at_kept HC12.out k13)
      obtain ⟨⟨x0, x1, x2, x3, x4, x5, x6, x7, x8, x9, xa, xb⟩, -⟩ := cells12 HA13.out
      obtain ⟨⟨y0, y1, y2, y3, y4, y5, y6, y7, y8, y9, ya, yb⟩, -⟩ := cells12 HB13.out
      clear k13 HN12 HO12 HK12 HA12 HB12 HC12
      go_wp2_with fail
      refine (same_any m HFw.out _ _ _ _ _ _ _ _ _ _ _ HN13.out (msr_kept HM.out HK13.out)).mono ?_
      rintro e w14 ⟨rfl, k14⟩
      have HO14 := hid (msr_kept HO13.out k14)
      have HK14 := hid (kept_trans HK13.out k14)
      clear x0 x1 x2 x3 x4 x5 x6 x7 x8 x9 xa xb y0 y1 y2 y3 y4 y5 y6 y7 y8 y9 ya yb
      obtain ⟨⟨x0, x1, x2, x3, x4, x5, x6, x7, x8, x9, xa, xb⟩, -⟩ := cells12 (at_kept HA13.out k14)
      obtain ⟨⟨y0, y1, y2, y3, y4, y5, y6, y7, y8, y9, ya, yb⟩, -⟩ := cells12 (at_kept HC13.out k14)
      clear k14 HN13 HO13 HK13 HA13 HB13 HC13
      go_wp2_with fail
      refine (same_any m HFw.out _ _ _ _ _ _ _ _ _ _ _ HO14.out (msr_kept HM.out HK14.out)).mono ?_
      rintro e w15 ⟨rfl, k15⟩
      have HK15 := hid (kept_trans HK14.out k15)
      clear k15 x0 x1 x2 x3 x4 x5 x6 x7 x8 x9 xa xb y0 y1 y2 y3 y4 y5 y6 y7 y8 y9 ya yb
      go_wp2_with fail
      go_ret
      exact ⟨rfl, HK15.out⟩
end Go.Proofs.YtioeidhblbfgmaaGreat


namespace Go.Proofs.YtioeidhblbfgmaaGreat
open Go.ChangeShapes Go.WideShapes Go.ChangeAt Go.RowKit
set_option linter.unusedVariables false
set_option linter.unusedSimpArgs false
set_option maxRecDepth 100000

theorem tt_own {T : Shape Unit} {W w : World} {X B : Nat} {F : Nat → Prop} (hT : ObjIs T) (h : TT T W X () F w) (hB : ∀ b, F b → b ≠ B) (hW : W.heap.size ≤ B) (o : Nat) (v : Value) : TT T W X () F (w.setCell ⟨B, o, none⟩ v) :=
  ⟨hT.stay h.t (fun b hb => Below.heap_setCell _ _ _ _ (hB b hb)), kept_set h.k hW o v, h.f⟩
set_option maxHeartbeats 12800000 in
theorem bit_walk {T : Shape Unit} (hT : MsIs T) (m : Ms) (ok : MsOk m) (at0 bit : Int) (hat : (Lit.int .u16 at0).wf = true) (hbit : (Lit.int .u8 bit).wf = true) (vn vk vr vs vd : Value) (w : World) (h : MsR w vn vk vr vs vd m) : Calls Tryz.prog 7 #[msgV m vn vk vr vs vd, .int .u16 at0, .int .u8 bit] w fun e w' => e = .returned (.bool true) ∧ Kept w w' := by
  have hta := bounds_u16 hat
  have htb := bounds_u8 hbit
  clear hat hbit
  have HOk := hid ok
  have HM := hid h
  obtain ⟨a1, n1, c1, a2, n2, c2, a3, n3, c3, a4, n4, c4, a5, n5, c5, rfl, rfl, rfl, rfl, rfl⟩ := msr_is h
  have K1 := kept_alloc (kept_refl w) (.cells (mC m (.slice a1 n1 c1) (.slice a2 n2 c2) (.slice a3 n3 c3) (.slice a4 n4 c4) (.slice a5 n5 c5)) 29)
  have A1 := at_new w (mC m (.slice a1 n1 c1) (.slice a2 n2 c2) (.slice a3 n3 c3) (.slice a4 n4 c4) (.slice a5 n5 c5)) 29
  obtain ⟨w1, hw1⟩ : ∃ u, w.alloc (.cells (mC m (.slice a1 n1 c1) (.slice a2 n2 c2) (.slice a3 n3 c3) (.slice a4 n4 c4) (.slice a5 n5 c5)) 29) = u := ⟨_, rfl⟩
  obtain ⟨X0, hX0⟩ : ∃ u, w.heap.size = u := ⟨_, rfl⟩
  rw [hw1] at K1 A1
  rw [hX0] at A1
  have HK1 := hid K1
  have HA1 := hid A1
  have hA1 := A1
  unfold mC at hA1 hw1
  obtain ⟨⟨x0, x1, x2, x3, x4, x5, x6, x7, x8, x9, xa, xb⟩, -⟩ := cells12 hA1
  clear K1 A1 hA1 h ok
  have HGr := hid (fun (u : World) (ku : Kept w u) => great_any m HOk.out u _ _ _ _ _ (msr_kept HM.out ku))
  have HNo : Hid (mayM m = false → packM m = (⟨#[]⟩, 1)) := hid (fun e => packM_bad (by rw [e]; simp))
  have HYs : Hid (mayM m = true → greatM m = false → (packM m).2 = 0 ∧ 12 ≤ (packM m).1.size ∧ (packM m).1.size ≤ 1000000 ∧ ∀ (p : Nat) (hp : p < (packM m).1.size) (c : UInt8), c ≠ (packM m).1[p] → Frm.why ((packM m).1.data.toList.set p c) ≠ 0) := hid (fun e1 e2 => by
    have hb := bodyM_le e2
    obtain ⟨u1, u2⟩ := un_pack HOk.out e1 (by omega)
    have h9 : packM m = Frm.encS (byteI m.kind) (byteI m.frm) (byteI m.dst) (bodyM m) := by unfold packM; rw [if_pos e1]
    rw [h9] at u1 ⊢
    obtain ⟨z1, z2⟩ := Frm.enc_pos _ _ _ _ u1
    exact ⟨u1, z1, by omega, fun p hp c hc => Frm.turned _ _ _ _ u1 p hp c hc⟩)
  generalize greatM m = gr at *
  have hz := zeroMv
  unfold msgV
  go_enter Tryz.func7, Tryz.ntmps7
  go_wp2_with fail
  refine (HGr.out _ HK1.out).mono ?_
  rintro e w2 ⟨bg, rfl, hbg, k2⟩
  have HBg := hid hbg
  have HK2 := hid (kept_trans HK1.out k2)
  have HA2 := hid (at_kept HA1.out k2)
  clear hbg k2 HK1 HA1 HGr x0 x1 x2 x3 x4 x5 x6 x7 x8 x9 xa xb hw1 hX0
  cases bg with
  | true =>
    go_wp2_with fail
    refine (fixed_any hT _).mono ?_
    rintro e w3 ⟨rfl, k3⟩
    have HK3 := hid (kept_trans HK2.out k3)
    clear k3
    go_wp2_with fail
    go_ret
    exact ⟨rfl, HK3.out⟩
  | false =>
    go_wp2_with fail
    refine (mk_new hT HK2.out).mono ?_
    rintro e w3 ⟨X, F, rfl, t3, k3, f3⟩
    have HT3 := hid t3
    have hA3 := at_kept HA2.out k3
    unfold mC at hA3
    obtain ⟨⟨x0, x1, x2, x3, x4, x5, x6, x7, x8, x9, xa, xb⟩, -⟩ := cells12 hA3
    clear t3 k3 f3 HK2 HA2 hA3
    go_wp2_with fail
    refine (mk_pack hT HT3.out HOk.out (msr_kept HM.out HT3.out.k)).mono ?_
    rintro e w4 ⟨F4, rfl, t4, d4⟩
    have HT4 := hid t4
    clear t4 d4 HT3 x0 x1 x2 x3 x4 x5 x6 x7 x8 x9 xa xb
    cases hmy : mayM m with
    | false =>
      have HP := hid (HNo.out hmy)
      rw [HP.out]
      have HK4 := hid HT4.out.k
      clear HYs HNo HBg hmy HT4
      go_wp2_with fail
      refine (fixed_any hT _).mono ?_
      rintro e w5 ⟨rfl, k5⟩
      have HK5 := hid (kept_trans HK4.out k5)
      clear k5
      go_wp2_with fail
      go_ret
      exact ⟨rfl, HK5.out⟩
    | true =>
      obtain ⟨y1, y2, y3, y4⟩ := HYs.out hmy (HBg.out hmy).symm
      rw [y1]
      clear HYs HNo HBg hmy y1
      generalize (packM m).1 = s at *
      have HTu := hid y4
      clear y4
      have h2' : ¬ (s.size : Int) = 0 := by omega
      obtain ⟨p, hp, hpl⟩ : ∃ p : Nat, at0 % (s.size : Int) = (p : Int) ∧ p < s.size :=
        ⟨(at0 % (s.size : Int)).toNat, by have := Int.emod_nonneg at0 h2'; omega, by have := Int.emod_nonneg at0 h2'; have := Int.emod_lt_of_pos at0 (show (0 : Int) < s.size by omega); omega⟩
      obtain ⟨q, hq, hql⟩ : ∃ q : Nat, bit % 8 = (q : Int) ∧ q < 8 := ⟨(bit % 8).toNat, by omega, by omega⟩
      have hcv := run_bytes_of_string (P := Tryz.prog) w4 9 51 5 s Tryz.underlying9 Tryz.underlying51 Tryz.underlying5
      generalize grownCap w4 s.size 0 5 = cap at *
      obtain ⟨S5, -, hz5, hc5, hf5⟩ := Frm.bytes_in w4 [] w4 s cap (Frm.St.start w4) ((bytesRow s cap).size, (bytesRow s cap).size + 1) (by simp [bytesRow])
      have k5 := S5.1
      generalize w4.drew.alloc (.cells (bytesRow s cap) 5 ((bytesRow s cap).size, (bytesRow s cap).size + 1)) = w5 at *
      have hcp := hc5 p hpl
      have hfp := hf5 p hpl
      have HC : Hid (∀ j (hj : j < s.size), w5.cell? ⟨w4.heap.size, j, none⟩ = some (.int .u8 (s[j].toNat : Int))) := hc5
      have HT5 := hid (tt_kept hT.obj HT4.out k5)
      clear hc5 hf5 S5
      obtain ⟨v, hvne, hx⟩ := Frm.flip s[p] q hql
      have HWy := hid (HTu.out p hpl v hvne)
      obtain ⟨B, hB⟩ : ∃ B, B = w4.heap.size := ⟨_, rfl⟩
      have HT6 := hid (tt_own hT.obj HT5.out (B := B) (fun b hb => by have h9 := hT.obj.lt HT4.out.t hb; omega) (by have := HT4.out.k.2; omega) p (.int .u8 (v.toNat : Int)))
      rw [← hB] at hcv hcp hfp HC hz5
      have HL : Hid (∀ j (hj : j < (s.data.toList.set p v).length), (w5.setCell ⟨B, p, none⟩ (.int .u8 (v.toNat : Int))).cell? ⟨B, j, none⟩ = some (.int .u8 ((s.data.toList.set p v)[j].toNat : Int))) := by
        intro j hj
        have hj' : j < s.size := by simpa using hj
        by_cases e : p = j
        · subst e
          rw [List.getElem_set_self]
          exact World.cell?_setCell_same _ _ _ hcp
        · rw [List.getElem_set_ne e, World.cell?_setCell_other _ ⟨B, p, none⟩ ⟨B, j, none⟩ _ (by simp <;> omega)]
          exact HC.out j hj'
      have HLen : Hid ((s.data.toList.set p v).length = s.size) := by show _ = _; simp
      have hcv2 := Frm.row_text (w := w5.setCell ⟨B, p, none⟩ (.int .u8 (v.toNat : Int))) (B := B) HL.out HLen.out cap
      have HUn : Hid (unM (⟨(s.data.toList.set p v).toArray⟩ : ByteArray) = (zeroM, Frm.why (s.data.toList.set p v))) := hid (un_why HWy.out)
      have HYs : Hid ((⟨(s.data.toList.set p v).toArray⟩ : ByteArray).size ≤ 2000000) := by
        show (s.data.toList.set p v).toArray.size ≤ _
        rw [List.size_toArray, HLen.out]; omega
      generalize Frm.why (s.data.toList.set p v) = R at *
      generalize (⟨(s.data.toList.set p v).toArray⟩ : ByteArray) = TT0 at *
      clear HL HLen HC HTu HT4 HT5 hB k5
      go_wp2_with fail
      clear hcv hcv2 hp hq hx hcp hfp
      generalize w5.setCell ⟨B, p, none⟩ (.int .u8 (v.toNat : Int)) = w6 at *
      refine (mk_unpack hT HT6.out HYs.out).mono ?_
      rintro e w7 ⟨F7, nn, nk, nr, ns, nd, rfl, hn7, t7, d7⟩
      rw [HUn.out] at hn7 ⊢
      have hRi : ((R : Int) != 0) = true := by rw [bne_iff_ne]; have := HWy.out; omega
      obtain ⟨b1, p1, q1, b2, p2, q2, b3, p3, q3, b4, p4, q4, b5, p5, q5, rfl, rfl, rfl, rfl, rfl⟩ := mso_is hn7
      have k8 := kept_alloc (kept_refl w7) (.cells (mC zeroM (.slice b1 p1 q1) (.slice b2 p2 q2) (.slice b3 p3 q3) (.slice b4 p4 q4) (.slice b5 p5 q5)) 29)
      have B8 := at_new w7 (mC zeroM (.slice b1 p1 q1) (.slice b2 p2 q2) (.slice b3 p3 q3) (.slice b4 p4 q4) (.slice b5 p5 q5)) 29
      have HN8 := hid (mso_r (mso_kept hn7 k8))
      have HK8 := hid (kept_trans t7.k k8)
      have HB8 := hid B8
      have hm8 : msgV zeroM (.slice b1 p1 q1) (.slice b2 p2 q2) (.slice b3 p3 q3) (.slice b4 p4 q4) (.slice b5 p5 q5) = .agg #[.int .u8 0, .int .u8 0, .int .u8 0, .int .u32 0, .int .u8 0, .int .u8 0, .bool false, .slice b1 p1 q1, .slice b2 p2 q2, .slice b3 p3 q3, .slice b4 p4 q4, .slice b5 p5 q5] := rfl
      simp only [hm8]
      unfold mC zeroM at HN8 HK8 HB8
      simp only at HN8 HK8 HB8
      clear hn7 t7 d7 HT6 k8 B8 hm8 HUn HYs HWy
      go_wp2_with fail
      refine (fixed_any hT _).mono ?_
      rintro e w9 ⟨rfl, k9⟩
      have HN9 := hid (msr_kept HN8.out k9)
      have HK9 := hid (kept_trans HK8.out k9)
      obtain ⟨⟨y0, y1, y2, y3, y4, y5, y6, y7, y8, y9, ya, yb⟩, -⟩ := cells12 (at_kept HB8.out k9)
      clear k9 HN8 HK8 HB8
      go_wp2_with fail
      refine (same_any zeroM few_zero _ _ _ _ _ _ _ _ _ _ _ HN9.out (msr_zero _)).mono ?_
      rintro e w10 ⟨rfl, k10⟩
      have HK10 := hid (kept_trans HK9.out k10)
      clear k10 y0 y1 y2 y3 y4 y5 y6 y7 y8 y9 ya yb
      go_wp2_with fail
      go_ret
      exact ⟨rfl, HK10.out⟩
end Go.Proofs.YtioeidhblbfgmaaGreat


namespace Go.Proofs.YtioeidhblbfgmaaGreat
open Go.ChangeShapes Go.WideShapes Go.ChangeAt Go.RowKit Go.Joins Go.Deep
set_option linter.unusedVariables false
set_option linter.unusedSimpArgs false

theorem readable_of {P : Program} {f : Func} (h : (f.params.toList.all fun t => P.readableRec t && decide (t < P.types.size)) = true) : ∀ t ∈ f.params.toList, P.readableRec t = true ∧ t < P.types.size := by
  intro t ht
  have := List.all_eq_true.1 h t ht
  simpa using this
theorem open_rows {P : Program} {α : Type} {en : α → List Value} {c : Nat} {t e : TypeId} {ok : α → Prop} (hE : Enc en c) (hu : P.underlying t = some (.slice e)) (hc : P.cellsOf e = c) (a0 : α)
    {H : Type} {enc : TypeId × Value → H} {w : World} {base : Nat} {spare : Nat → Bool} {held : Bool} {r : Reach} {b0 : Nat} {v : Value} {d : DataW H} {p : List MemPlace}
    (hel : ∀ fuel cs x, cs.length = c → DataW.trod enc P w base spare held fuel e cs = some x → ∃ q, cs = en q ∧ ok q)
    (hv : Value.okWide P w r b0 t v) (h : DataW.Trod enc P w base spare held t v d p) : ∃ xs : List α, Rg en c w v xs ∧ ∀ q ∈ xs, ok q := by
  obtain ⟨a, len, cap, rfl⟩ := okWide_slice hu hv
  obtain ⟨n, h⟩ := h
  rcases open_slice hu h with ⟨h0, -⟩ | ⟨a', len', cap', m, n', D, Pl, h0, hb, hl, hm, hmm, -, hx⟩
  · simp [Value.cells] at h0
    obtain ⟨rfl, rfl, rfl⟩ := h0
    exact ⟨[], rg_nil _ _ _, by simp⟩
  · simp [Value.cells] at h0
    obtain ⟨rfl, rfl, rfl⟩ := h0
    rw [hc] at hx
    have hlm : len ≤ m := by rw [hmm]; split <;> omega
    have each : ∀ i, i < len → ∃ q : α, ok q ∧ ∀ j u, (en q)[j]? = some u → w.cell? ((a'.add (i * c)).add j) = some u := by
      intro i hi
      obtain ⟨cs, h1, ht⟩ := hx i (by omega)
      obtain ⟨_, hlen, hcell⟩ := World.cells?_some h1
      obtain ⟨q, rfl, ho⟩ := hel _ cs _ hlen ht
      refine ⟨q, ho, fun j u hj => ?_⟩
      have hjl := (List.getElem?_eq_some_iff.1 hj).1
      rw [hcell j (by rw [hE.len] at hjl; exact hjl)]
      exact hj
    have inh : Inhabited α := ⟨a0⟩
    obtain ⟨f, hf⟩ := choose_lt each
    obtain ⟨b, o, spot⟩ := a'
    have hspot : 0 < len → spot = none := fun hpos => by
      obtain ⟨u, hu0⟩ : ∃ u, (en (f 0))[0]? = some u := ⟨_, List.getElem?_eq_getElem (by rw [hE.len]; exact hE.pos)⟩
      have h0 := (hf 0 hpos).2 0 u hu0
      simpa [Addr.add] using World.cell?_spot h0
    refine ⟨(List.range len).map f, ⟨some ⟨b, o, spot⟩, cap, by simp, by simpa using hl, hm, fun h => (by cases h), fun hpos => ?_⟩, fun q hq => ?_⟩
    · have hp : 0 < len := by simpa using hpos
      have := hspot hp
      subst this
      refine ⟨b, o, rfl, fun i x j u hx hu => ?_⟩
      have hi : i < len := by
        have := (List.getElem?_eq_some_iff.1 hx).1
        simpa using this
      have ex : x = f i := by
        simp [hi] at hx
        exact hx.symm
      subst ex
      have := (hf i hi).2 j u hu
      rw [addr_plus, addr_plus] at this
      exact this
    · obtain ⟨i, hi, rfl⟩ := List.mem_map.1 hq
      exact (hf i (by simpa using hi)).1
end Go.Proofs.YtioeidhblbfgmaaGreat


namespace Go.Proofs.YtioeidhblbfgmaaGreat
open Go.ChangeShapes Go.WideShapes Go.ChangeAt Go.RowKit Go.Joins Go.Deep
set_option linter.unusedVariables false
set_option linter.unusedSimpArgs false

theorem open_rowsT {P : Program} {α : Type} {en : α → List Value} {c : Nat} {t e : TypeId} {ok : α → Prop} (hE : Enc en c) (hu : P.underlying t = some (.slice e)) (hc : P.cellsOf e = c) (a0 : α)
    {H : Type} {enc : TypeId × Value → H} {w : World} {base : Nat} {spare : Nat → Bool} {held : Bool} {v : Value} {n : Nat} {y : DataW H × List MemPlace}
    (hel : ∀ fuel cs x, cs.length = c → DataW.trod enc P w base spare held fuel e cs = some x → ∃ q, cs = en q ∧ ok q)
    (h : DataW.trod enc P w base spare held n t [v] = some y) : ∃ xs : List α, Rg en c w v xs ∧ ∀ q ∈ xs, ok q := by
  obtain ⟨yd, yp⟩ := y
  rcases open_slice hu h with ⟨h0, -⟩ | ⟨a', len, cap, m, n', D, Pl, h0, hb, hl, hm, hmm, -, hx⟩
  · simp at h0
    subst h0
    exact ⟨[], rg_nil _ _ _, by simp⟩
  · simp at h0
    subst h0
    rw [hc] at hx
    have hlm : len ≤ m := by rw [hmm]; split <;> omega
    have each : ∀ i, i < len → ∃ q : α, ok q ∧ ∀ j u, (en q)[j]? = some u → w.cell? ((a'.add (i * c)).add j) = some u := by
      intro i hi
      obtain ⟨cs, h1, ht⟩ := hx i (by omega)
      obtain ⟨_, hlen, hcell⟩ := World.cells?_some h1
      obtain ⟨q, rfl, ho⟩ := hel _ cs _ hlen ht
      refine ⟨q, ho, fun j u hj => ?_⟩
      have hjl := (List.getElem?_eq_some_iff.1 hj).1
      rw [hcell j (by rw [hE.len] at hjl; exact hjl)]
      exact hj
    have inh : Inhabited α := ⟨a0⟩
    obtain ⟨f, hf⟩ := choose_lt each
    obtain ⟨b, o, spot⟩ := a'
    have hspot : 0 < len → spot = none := fun hpos => by
      obtain ⟨u, hu0⟩ : ∃ u, (en (f 0))[0]? = some u := ⟨_, List.getElem?_eq_getElem (by rw [hE.len]; exact hE.pos)⟩
      have h0 := (hf 0 hpos).2 0 u hu0
      simpa [Addr.add] using World.cell?_spot h0
    refine ⟨(List.range len).map f, ⟨some ⟨b, o, spot⟩, cap, by simp, by simpa using hl, hm, fun h => (by cases h), fun hpos => ?_⟩, fun q hq => ?_⟩
    · have hp : 0 < len := by simpa using hpos
      have := hspot hp
      subst this
      refine ⟨b, o, rfl, fun i x j u hx hu => ?_⟩
      have hi : i < len := by
        have := (List.getElem?_eq_some_iff.1 hx).1
        simpa using this
      have ex : x = f i := by
        simp [hi] at hx
        exact hx.symm
      subst ex
      have := (hf i hi).2 j u hu
      rw [addr_plus, addr_plus] at this
      exact this
    · obtain ⟨i, hi, rfl⟩ := List.mem_map.1 hq
      exact (hf i (by simpa using hi)).1
end Go.Proofs.YtioeidhblbfgmaaGreat
