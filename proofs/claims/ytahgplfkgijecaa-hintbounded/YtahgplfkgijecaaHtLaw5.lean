/- The walk of HintTold, out of what the landed hints must answer. -/
import Derived.Test.YtahgplfkgijecaaHtLaw3
import Derived.Test.YtahgplfkgijecaaToldMath
namespace Go.Proofs.Ytahgplfkgijecaa
open Go.ChangeShapes Go.WideShapes Go.ChangeAt Go.RowKit
set_option linter.unusedVariables false
set_option linter.unusedSimpArgs false
set_option maxRecDepth 100000

theorem zeroD (w : World) : (zeroValue 66).run Try.prog w = .ok (.agg #[.int .u8 0, .string ⟨#[]⟩, .int .u64 0, .int .u32 0, .int .u8 0, .int .u8 0, .int .u32 0, .int .u64 0, .string ⟨#[]⟩]) w := by kernel_rfl
theorem cells9 {w : World} {X T : Nat} {a0 a1 a2 a3 a4 a5 a6 a7 a8 : Value} (h : At w X #[a0, a1, a2, a3, a4, a5, a6, a7, a8] T) : w.cell? ⟨X, 0, none⟩ = some a0 ∧ w.cell? ⟨X, 1, none⟩ = some a1 ∧ w.cell? ⟨X, 2, none⟩ = some a2 ∧ w.cell? ⟨X, 3, none⟩ = some a3 ∧ w.cell? ⟨X, 4, none⟩ = some a4 ∧ w.cell? ⟨X, 5, none⟩ = some a5 ∧ w.cell? ⟨X, 6, none⟩ = some a6 ∧ w.cell? ⟨X, 7, none⟩ = some a7 ∧ w.cell? ⟨X, 8, none⟩ = some a8 :=
  ⟨at_cell h 0, at_cell h 1, at_cell h 2, at_cell h 3, at_cell h 4, at_cell h 5, at_cell h 6, at_cell h 7, at_cell h 8⟩
def exa : ByteArray := ⟨#[97]⟩
set_option maxHeartbeats 12800000 in
theorem told_walk {T : Shape Hs} (hT : HintsIs T) (ops : List Opn) (v : Value) (up : List Int) (hu : U8 up) (uv : Value) (w : World) (hx : ∀ o ∈ ops, OpOk w o) (h : Rg encO 11 w v ops) (hur : Rg encU 1 w uv up) : Calls Try.prog 7 #[v, uv] w fun e w' => e = .returned (.bool true) ∧ Kept w w' := by
  have HT := hid hT
  have HF := hid (fun u => fixed_any hT u)
  have HR := hid h
  have HU := hid hur
  have HU8 := hid hu
  have HX := hid hx
  have HC := hid (fun u (ku : Kept w u) => cut_any ops v u (rg_kept encO_ok h ku))
  obtain ⟨a, cap, rfl, hc1, hc2, -, -⟩ := h
  obtain ⟨ua, ucap, rfl, -, -, -, -⟩ := hur
  unfold maxLen at hc2
  have HP : Hid (0 < ops.length → ∃ g o, a = some ⟨g, o, none⟩) := hid (fun hp => by
    obtain ⟨g, o, c, e⟩ := rg_pos HR.out hp
    injection e with e1
    exact ⟨g, o, e1⟩)
  have hN := ht_new (T := T) (W := w) (n := 64) hT (kept_refl w) (by decide) (by decide)
  have HG0 := hid (hg_nil (n := 64) (by decide) (by decide))
  have hz := zeroO
  have hzd := zeroD
  generalize hm : ops.length = m at *
  have HM := hid hm
  generalize hmu : up.length = mu at *
  have HMu := hid hmu
  clear hm hT hx hu hmu
  by_cases hb : 100 < mu
  · have hbz : (100 : Int) < (mu : Int) := by omega
    go_enter Try.func7, Try.ntmps7
    go_wp2_with fail
    refine hN.mono ?_
    rintro e w1 ⟨X, F, rfl, t1, -⟩
    have HT1 := hid t1
    clear t1 hN
    go_wp2_with fail
    refine (HF.out w1).mono ?_
    rintro e w2 ⟨rfl, k2⟩
    have HK2 := hid (kept_trans HT1.out.k k2)
    clear k2
    go_wp2_with fail
    refine (HF.out w2).mono ?_
    rintro e w3 ⟨rfl, k3⟩
    have HK3 := hid (kept_trans HK2.out k3)
    clear k3
    go_wp2_with fail
    go_ret
    exact ⟨rfl, HK3.out⟩
  have hbz : ¬ (100 : Int) < (mu : Int) := by omega
  have hbd : decide ((100 : Int) < (mu : Int)) = false := by simp; omega
  have HUl : Hid (up.length ≤ 100) := hid (by rw [HMu.out]; omega)
  go_enter Try.func7, Try.ntmps7
  go_wp2_with fail
  refine hN.mono ?_
  rintro e w1 ⟨X, F, rfl, t1, -⟩
  have HT1 := hid t1
  clear t1 hN
  go_wp2_with fail
  refine (HF.out w1).mono ?_
  rintro e w2 ⟨rfl, k2⟩
  have HT2 := hid (tt_kept HT.out.obj HT1.out k2)
  clear k2 HT1 HF
  go_wp2_with fail
  refine (HC.out w2 HT2.out.k).mono ?_
  rintro e w3 ⟨c, hc, hc81, hfin, ⟨a', n', cap', ev, rfl⟩, k3⟩
  injection ev with ev1 ev2 ev3
  subst ev1 ev2 ev3
  rw [HM.out] at hc
  have HT3 := hid (tt_kept HT.out.obj HT2.out k3)
  have HFi : Hid (∀ i, i < c → ∃ y, ops[i]? = some y ∧ OpOk w y ∧ Fine y) := hid (fun i hi => by
    have hil : i < ops.length := by rw [HM.out]; omega
    refine ⟨ops[i], List.getElem?_eq_getElem hil, HX.out _ (List.getElem_mem hil), hfin _ ?_⟩
    rw [List.mem_iff_getElem?]
    exact ⟨i, by rw [List.getElem?_take, if_pos hi]; exact List.getElem?_eq_getElem hil⟩)
  clear hfin k3 HT2 HC
  go_wp2_with fail
  go_loopw [35] (fun iv wr => ∃ (i : Nat) (l : List Ht) (F' : Nat → Prop), i ≤ c ∧ iv = .int .i64 (i : Int) ∧ Hid (Hg 64 l) ∧ Hid (TT T w X ⟨64, l⟩ F' wr)) (fun iv _ => c - (intOf iv).toNat)
  case atStart => exact ⟨0, [], F, by omega, rfl, HG0, HT3⟩
  case round =>
    obtain ⟨i, l, F', hi, rfl, HI, HTr⟩ := hrel
    clear HT3 HG0
    by_cases hlt : i < c
    · have hltz : (i : Int) < (c : Int) := by omega
      obtain ⟨y, hy, hyk, hyf⟩ := HFi.out i hlt
      obtain ⟨gg, oo, rfl⟩ := HP.out (by omega)
      obtain ⟨c0, c1, c2, c3, c4, c5, c6, c7, c8, c9, c10⟩ := rg_O (rg_kept encO_ok HR.out HTr.out.k) hy
      have HZ := hid (at_new wr #[.int .i64 y.kind, .string y.r.key, .int .u64 y.r.s.p, .int .u32 y.r.s.l, .int .u8 y.r.s.n, .int .u8 y.r.kind, .int .u32 y.r.flags, .int .u64 y.r.exp, .string y.r.body, .int .u8 y.node, .slice y.uv y.up.length y.uc] 38)
      have ka := kept_alloc (kept_refl wr) (.cells #[.int .i64 y.kind, .string y.r.key, .int .u64 y.r.s.p, .int .u32 y.r.s.l, .int .u8 y.r.s.n, .int .u8 y.r.kind, .int .u32 y.r.flags, .int .u64 y.r.exp, .string y.r.body, .int .u8 y.node, .slice y.uv y.up.length y.uc] 38)
      have hA := ht_add HT.out (tt_kept HT.out.obj HTr.out ka) HI.out hyk.1 ⟨hyf.1, hyf.2.1⟩
      have hK := ht_ack HT.out (tt_kept HT.out.obj HTr.out ka) HI.out hyf.1 hyk.1.2.1 hyk.2.1.1 hyk.2.1.2
      have HGa : Hid (Hg 64 (addL 64 l y.r)) := hid (hg_add HI.out hyk.1)
      have HGk : Hid (Hg 64 (ackL l y.r.key y.r.s y.node)) := hid (hg_ack HI.out _ _ _)
      obtain ⟨p0, p1, p2, p3, p4, p5, p6, p7, p8, p9, p10⟩ := cells11 HZ.out
      clear hy hyk hyf ka
      by_cases hk1 : y.kind = 1
      · rw [hk1] at c0 p0 hA hK
        simp only [hk1] at p1 p2 p3 p4 p5 p6 p7 p8 p9 p10
        clear hA
        go_wp2_with fail
        refine hK.mono ?_
        rintro e w4 ⟨F4, rfl, t4, -⟩
        have HT4 := hid t4
        clear t4 hK c0 c1 c2 c3 c4 c5 c6 c7 c8 c9 c10 p0 p1 p2 p3 p4 p5 p6 p7 p8 p9 p10 HZ
        go_wp2_with fail
        go_roundw
        case rel => exact ⟨i + 1, _, F4, by omega, by go_num, HGk, HT4⟩
        case measure => simp [intOf]; omega
      · have hkb : (y.kind == 1) = false := by rw [beq_eq_false_iff_ne]; exact hk1
        clear hK hk1
        go_wp2_with fail
        refine hA.mono ?_
        rintro e w4 ⟨F4, rfl, t4, -⟩
        have HT4 := hid t4
        clear t4 hA c0 c1 c2 c3 c4 c5 c6 c7 c8 c9 c10 p0 p1 p2 p3 p4 p5 p6 p7 p8 p9 p10 HZ
        go_wp2_with fail
        go_roundw
        case rel => exact ⟨i + 1, _, F4, by omega, by go_num, HGa, HT4⟩
        case measure => simp [intOf]; omega
    · have hltz : ¬ (i : Int) < (c : Int) := by omega
      have hMs := ht_missing HT.out HTr.out HI.out HU8.out HUl.out (rg_kept encU_ok HU.out HTr.out.k)
      have HS := hid (fun (j : Nat) (s : Snd) (hj : (missL l up)[j]? = some s) => told_step HI.out hj)
      clear HFi HP HX HR
      go_wp2_with fail
      refine hMs.mono ?_
      rintro e w4 ⟨r, F4, rfl, o4, n4, t4, -⟩
      have HT4 := hid t4
      have HO4 := hid o4
      have HN4 := hid n4
      obtain ⟨ra, rc, rfl, hq1, hq2⟩ := og_is encD_ok o4
      unfold maxLen at hq2
      have HE0 : Hid (accL l ((missL l up).take 0) = l) := hid (by rw [List.take_zero]; exact acc_nil l)
      clear o4 n4 t4 hMs HTr
      generalize hq : (missL l up).length = q at *
      have HQ := hid hq
      clear hq
      go_wp2_with fail
      go_loopw [61] (fun jv wr => ∃ (j : Nat) (F' : Nat → Prop), j ≤ q ∧ jv = .int .i64 (j : Int) ∧ Hid (Hg 64 (accL l ((missL l up).take j))) ∧ Hid (TT T w X ⟨64, accL l ((missL l up).take j)⟩ F' wr) ∧ Hid (Og encD 9 66 wr 0 (.slice ra q rc) (missL l up)) ∧ Hid (∀ g, (Value.slice ra q rc).ownBlock = some g → ¬ F' g)) (fun jv _ => q - (intOf jv).toNat)
      case atStart => exact ⟨0, F4, by omega, rfl, hid (by rw [HE0.out]; exact HI.out), hid (by rw [HE0.out]; exact HT4.out), HO4, HN4⟩
      case round =>
        obtain ⟨j, F5, hj, rfl, HI5, HT5, HO5, HN5⟩ := hrel
        clear HT4 HO4 HN4 HE0
        by_cases hjl : j < q
        · have hjz : (j : Int) < (q : Int) := by omega
          obtain ⟨x, hx⟩ : ∃ x, (missL l up)[j]? = some x := ⟨(missL l up)[j]'(by have := HQ.out; omega), List.getElem?_eq_getElem (by have := HQ.out; omega)⟩
          obtain ⟨s1, s2, s3, s4, s5, s6, s7⟩ := HS.out j x hx
          have HRg := hid (rg_own encD_ok HO5.out)
          obtain ⟨gq, oq, rfl⟩ : ∃ g o, ra = some ⟨g, o, none⟩ := by
            obtain ⟨g, o, c, e⟩ := rg_pos HRg.out (by have := HQ.out; omega)
            injection e with e1
            exact ⟨g, o, e1⟩
          obtain ⟨d0, d1, d2, d3, d4, d5, d6, d7, d8⟩ := rg_D HRg.out hx
          have HZ := hid (at_new wr #[.int .u8 x.to, .string x.r.key, .int .u64 x.r.s.p, .int .u32 x.r.s.l, .int .u8 x.r.s.n, .int .u8 x.r.kind, .int .u32 x.r.flags, .int .u64 x.r.exp, .string x.r.body] 66)
          have HKa := hid (kept_alloc (kept_refl wr) (.cells #[.int .u8 x.to, .string x.r.key, .int .u64 x.r.s.p, .int .u32 x.r.s.l, .int .u8 x.r.s.n, .int .u8 x.r.kind, .int .u32 x.r.flags, .int .u64 x.r.exp, .string x.r.body] 66))
          have hO := rowns_any x.r.key s4 up (by have := HUl.out; omega) x.to _ _ (rg_kept encU_ok HU.out (kept_trans HT5.out.k HKa.out))
          rw [s3] at hO
          obtain ⟨p0, p1, p2, p3, p4, p5, p6, p7, p8⟩ := cells9 HZ.out
          have HS2 := hid s2
          have HS1 := hid s1
          have HS5 : Hid (x.r.key.size ≤ 1000 ∧ x.r.s.ok ∧ 0 ≤ x.to ∧ x.to < 256) := hid ⟨s4, s5, s6, by omega⟩
          clear hx s1 s2 s3 s4 s5 s6 s7 HRg
          go_wp2_with fail
          refine hO.mono ?_
          rintro e w6 ⟨rfl, k6⟩
          have HT6 := hid (tt_kept HT.out.obj HT5.out (kept_trans HKa.out k6))
          have HO6 := hid (og_stays HO5.out (kept_trans HKa.out k6))
          have hK := ht_ack HT.out HT6.out HI5.out HS5.out.1 HS5.out.2.1 HS5.out.2.2.1 HS5.out.2.2.2
          rw [HS1.out, HS2.out] at hK
          have HI6 : Hid (Hg 64 (accL l ((missL l up).take (j + 1)))) := hid (by rw [← HS2.out]; exact hg_ack HI5.out _ _ _)
          obtain ⟨q0, q1', q2', q3, q4, q5, q6, q7, q8⟩ := cells9 (at_kept HZ.out k6)
          clear k6 hO d0 d1 d2 d3 d4 d5 d6 d7 d8 p0 p1 p2 p3 p4 p5 p6 p7 p8 HT5 HO5 HKa HZ HS1 HS2 HI5
          go_wp2_with fail
          refine hK.mono ?_
          rintro e w7 ⟨F7, rfl, t7, d7⟩
          have HT7 := hid t7
          have HO7 := hid (og_sd HO6.out HN5.out d7)
          have HN7 := hid (apart_sd HO6.out HN5.out d7)
          clear t7 d7 hK HT6 HO6 q0 q1' q2' q3 q4 q5 q6 q7 q8
          go_wp2_with fail
          go_roundw
          case rel => exact ⟨j + 1, F7, by omega, by go_num, HI6, HT7, HO7, HN7⟩
          case measure => simp [intOf]; omega
        · have hjz : ¬ (j : Int) < (q : Int) := by omega
          have HEj : Hid ((missL l up).take j = missL l up) := hid (List.take_of_length_le (by have := HQ.out; omega))
          rw [HEj.out] at HI5 HT5
          have HA2 := hid (told_miss l up)
          have HA3 := hid (fun (h : owners exa up ≠ []) => told_all (l := l) h)
          have HA4 := hid (fun (h : owners exa up = []) => told_none (l := accL l (missL l up)) h)
          generalize accL l (missL l up) = L at *
          have hL := ht_len HT.out HT5.out HI5.out
          clear HS HEj HQ HO5 HN5 HI hq1 hq2 hj
          go_wp2_with fail
          refine hL.mono ?_
          rintro e w6 ⟨rfl, t6, -⟩
          have HT6 := hid t6
          have hO := rowners_any exa (by decide) up (by have := HUl.out; omega) _ _ (rg_kept encU_ok HU.out HT6.out.k)
          clear t6 hL HT5
          go_wp2_with fail
          refine hO.mono ?_
          rintro e w7 ⟨v7, rfl, o7, -, k7⟩
          have HT7 := hid (tt_kept HT.out.obj HT6.out k7)
          obtain ⟨oa, oc, rfl, -, -⟩ := og_is encU_ok o7
          clear o7 k7 hO HT6
          by_cases ho : owners exa up = []
          · rw [ho]
            have hS := ht_settle HT.out HT7.out HI5.out HU8.out HUl.out (rg_kept encU_ok HU.out HT7.out.k) (far_old HT7.out encU_ok HU.out)
            rw [HA4.out ho] at hS
            rw [Nat.sub_self] at hS
            clear ho
            go_wp2_with fail
            refine hS.mono ?_
            rintro e w8 ⟨F8, rfl, t8, -⟩
            have hL := ht_len HT.out t8 HI5.out
            clear t8 hS
            go_wp2_with fail
            refine hL.mono ?_
            rintro e w9 ⟨rfl, t9, -⟩
            have HK9 := hid t9.k
            clear t9 hL
            go_wp2_with fail
            go_ret
            exact ⟨by simp, HK9.out⟩
          · have hol : ((((owners exa up).length : Nat) : Int) == 0) = false := by
              rw [beq_eq_false_iff_ne]
              have := List.length_pos_iff.2 ho
              omega
            have hoz : ((owners exa up).length == 0) = false := by
              rw [beq_eq_false_iff_ne]
              have := List.length_pos_iff.2 ho
              omega
            have hMs := ht_missing HT.out HT7.out HI5.out HU8.out HUl.out (rg_kept encU_ok HU.out HT7.out.k)
            rw [HA2.out] at hMs
            generalize (owners exa up).length = ol at *
            go_wp2_with fail
            refine hMs.mono ?_
            rintro e w8 ⟨r8, F8, rfl, o8, -, t8, -⟩
            obtain ⟨a8, c8, rfl, -, -⟩ := og_is encD_ok o8
            have hS := ht_settle HT.out t8 HI5.out HU8.out HUl.out (rg_kept encU_ok HU.out t8.k) (far_old t8 encU_ok HU.out)
            rw [HA3.out ho] at hS
            have HI8 : Hid (Hg 64 []) := hid (hg_nil (by decide) (by decide))
            simp only [List.length_nil, Nat.sub_zero] at hS ⊢
            clear o8 t8 hMs ho HA2 HA3 HA4
            go_wp2_with fail
            refine hS.mono ?_
            rintro e w9 ⟨F9, rfl, t9, -⟩
            have hL := ht_len HT.out t9 HI8.out
            clear t9 hS
            simp only [List.length_nil] at hL
            go_wp2_with fail
            refine hL.mono ?_
            rintro e w10 ⟨rfl, t10, -⟩
            have HK9 := hid t10.k
            clear t10 hL
            go_wp2_with fail
            go_ret
            exact ⟨by simp, HK9.out⟩
end Go.Proofs.Ytahgplfkgijecaa
