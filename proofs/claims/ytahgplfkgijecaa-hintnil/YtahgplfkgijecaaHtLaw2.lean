/- The walk of HintKept, out of what the landed hints must answer. -/
import Derived.Test.YtahgplfkgijecaaHtLaw5
import Derived.Test.YtahgplfkgijecaaKeptMath
import Derived.Test.YtahgplfkgijecaaHtCmp
import Derived.Test.YtahgplfkgijecaaHtDom
import Derived.Deep.CutBlock
import Derived.Deep.DeepCutAuto
namespace Go.Proofs.Ytahgplfkgijecaa
open Go.ChangeShapes Go.WideShapes Go.ChangeAt Go.RowKit
set_option linter.unusedVariables false
set_option linter.unusedSimpArgs false
set_option maxRecDepth 100000

theorem zeroHt (w : World) : (zeroValue 61).run Try.prog w = .ok (.agg #[.string ⟨#[]⟩, .int .u64 0, .int .u32 0, .int .u8 0, .int .u8 0, .int .u32 0, .int .u64 0, .string ⟨#[]⟩, .int .u64 0]) w := by kernel_rfl
def ofG (g : Int → Option Bool) : Nat → Bool := fun q => (g (q : Int)).getD false
theorem held_gone {l : List Ht} {r : R} {A : Nat → Bool} (h : Held l r A) : l.any (fun x => sameR x.r r) = true := by
  obtain ⟨x, hx, e, _⟩ := h
  exact List.any_eq_true.2 ⟨x, hx, (sameR_iff _ _).2 e⟩
theorem less_not {a b : R} (h : lessR a b = false) : ¬ cmpR a b < 0 := by
  unfold lessR at h
  have h1 := of_decide_eq_false h
  have := good_rec.one a b
  omega
theorem ofG_upd (g : Int → Option Bool) (x : Int) (hx : okU x) : (∀ q, ofG g q = true → ofG (upd g x true) q = true) ∧ ofG (upd g x true) x.toNat = true := by
  refine ⟨fun q h => ?_, ?_⟩
  · unfold ofG upd at *
    split
    · rfl
    · exact h
  · unfold ofG upd
    rw [if_pos (by have := hx.1; omega)]
    rfl
theorem allA_of (g : Int → Option Bool) (key : ByteArray) (up : List Int) : allA (ofG g) key up = (decide (0 < (owners key up).length) && (owners key up).all (fun o => (g o).getD false)) := by
  unfold allA
  congr 1
  rw [Bool.eq_iff_iff, List.all_eq_true, List.all_eq_true]
  have e : ∀ o ∈ owners key up, ofG g o.toNat = (g o).getD false := fun o ho => by
    unfold ofG
    have := (owners_in ho).1
    rw [show ((o.toNat : Nat) : Int) = o from by omega]
  exact ⟨fun h o ho => by rw [← e o ho]; exact h o ho, fun h o ho => by rw [e o ho]; exact h o ho⟩
theorem txt_eq {a b : ByteArray} (h : a = b) : (a.toList == b.toList) = true := by subst h; simp
theorem txt_ne {a b : ByteArray} (h : a ≠ b) : (a.toList == b.toList) = false := by
  have := bytes_ne h
  simpa using this
/- The hints, the map of those that have acked, and that the hint is there. -/
structure Kp (T : Shape Hs) (w0 : World) (X M : Nat) (r : R) (l : List Ht) (F : Nat → Prop) (g : Int → Option Bool) (wx : World) : Prop where
  t : TT T w0 X ⟨64, l⟩ F wx
  d : Gd' mapB wx M g
  o : Off wx F M
  hg : Hg 64 l
  hh : Held l r (ofG g)
set_option maxHeartbeats 25600000 in
theorem kept_walk {T : Shape Hs} (hT : HintsIs T) (r : R) (hr : r.ok) (ops : List Opn) (v : Value) (w : World) (hx : ∀ o ∈ ops, OpOk w o) (h : Rg encO 11 w v ops) : Calls Try.prog 4 #[.agg #[.string r.key, .int .u64 r.s.p, .int .u32 r.s.l, .int .u8 r.s.n, .int .u8 r.kind, .int .u32 r.flags, .int .u64 r.exp, .string r.body], v] w fun e w' => e = .returned (.bool true) ∧ Kept w w' := by
  have HT := hid hT
  have HF := hid (fun u => fixed_any hT u)
  have HR := hid h
  have HX := hid hx
  have HOk := hid hr
  have HC := hid (fun u (ku : Kept w u) => cut_any ops v u (rg_kept encO_ok h ku))
  obtain ⟨a, cap, rfl, hc1, hc2, -, -⟩ := h
  unfold maxLen at hc2
  have HP : Hid (0 < ops.length → ∃ g o, a = some ⟨g, o, none⟩) := hid (fun hp => by
    obtain ⟨g, o, c, e⟩ := rg_pos HR.out hp
    injection e with e1
    exact ⟨g, o, e1⟩)
  have hz := zeroO
  have hzr := zeroRv
  have hmm := @run_makeMap Try.prog
  generalize hm : ops.length = m at *
  have HM := hid hm
  have aZ := at_new w #[.string r.key, .int .u64 r.s.p, .int .u32 r.s.l, .int .u8 r.s.n, .int .u8 r.kind, .int .u32 r.flags, .int .u64 r.exp, .string r.body] 35
  have kZ := kept_alloc (kept_refl w) (.cells #[.string r.key, .int .u64 r.s.p, .int .u32 r.s.l, .int .u8 r.s.n, .int .u8 r.kind, .int .u32 r.flags, .int .u64 r.exp, .string r.body] 35)
  have HN := hid (fun (u : World) => ht_new (T := T) (W := u) (n := 64) hT (kept_refl u) (by decide) (by decide))
  clear hm hT hx hr
  go_enter Try.func4, Try.ntmps4
  go_wp2_with fail
  refine (HN.out _).mono ?_
  rintro e w1 ⟨X, F, rfl, t1, -⟩
  generalize hw0 : w.alloc (.cells #[.string r.key, .int .u64 r.s.p, .int .u32 r.s.l, .int .u8 r.s.n, .int .u8 r.kind, .int .u32 r.flags, .int .u64 r.exp, .string r.body] 35) = w0 at *
  generalize hZ : w.heap.size = Z at *
  have HZ := hid aZ
  have HK0 := hid kZ
  have HT1 := hid t1
  clear hw0 hZ aZ kZ t1 HN
  go_wp2_with fail
  refine (HF.out w1).mono ?_
  rintro e w2 ⟨rfl, k2⟩
  have HT2 := hid (tt_kept HT.out.obj HT1.out k2)
  have HK2 := hid (kept_trans HK0.out HT2.out.k)
  obtain ⟨z0, z1, z2, z3, z4, z5, z6, z7⟩ := at_cells8' (at_kept HZ.out HT2.out.k)
  clear k2 HT1 HF
  by_cases hb1 : 1000 < r.key.size
  · have d1 : (1000 : Int) < (r.key.size : Int) := by omega
    go_wp2_with fail
    go_ret
    exact ⟨rfl, HK2.out⟩
  have d1 : decide ((1000 : Int) < (r.key.size : Int)) = false := by simp; omega
  have e1 : ¬ (1000 : Int) < (r.key.size : Int) := by omega
  by_cases hb2 : 3000 < r.body.size
  · have d2 : (3000 : Int) < (r.body.size : Int) := by omega
    go_wp2_with fail
    go_ret
    exact ⟨rfl, HK2.out⟩
  have d2 : decide ((3000 : Int) < (r.body.size : Int)) = false := by simp; omega
  have e2 : ¬ (3000 : Int) < (r.body.size : Int) := by omega
  have HS : Hid (Sml r) := hid ⟨by omega, by omega⟩
  have hA := ht_add HT.out HT2.out (hg_nil (by decide) (by decide)) HOk.out HS.out
  have HG3 : Hid (Hg 64 (addL 64 [] r)) := hid (hg_add (hg_nil (by decide) (by decide)) HOk.out)
  clear hb1 hb2
  go_wp2_with fail
  refine hA.mono ?_
  rintro e w3 ⟨F3, rfl, t3, -⟩
  have HT3 := hid t3
  have HK3 := hid (kept_trans HK0.out t3.k)
  clear t3 hA z0 z1 z2 z3 z4 z5 z6 z7 HT2 HK2 d1 e1 d2 e2
  by_cases ha : addE 64 [] r = 0
  · rw [ha]
    have HH3 : Hid (Held (addL 64 [] r) r nob) := hid (held_first (by decide) ha)
    have HD4 := hid (gd_made (M := mapB) w3)
    have k4 := kept_alloc (kept_refl w3) (.map #[] 0)
    have HT4 := hid (tt_kept HT.out.obj HT3.out k4)
    have HO4 := hid (off_new HT.out.obj HT3.out (Nat.le_refl _) (gm_lt HD4.out))
    have HB4 : Hid (w0.heap.size ≤ w3.heap.size) := hid HT3.out.k.2
    have hC := HC.out (w3.alloc (.map #[] 0)) (kept_trans HK3.out k4)
    clear ha k4 HT3 HK3 HC
    go_wp2_with fail
    refine hC.mono ?_
    rintro e w5 ⟨c, hc, hc81, hfin, ⟨a', n', cap', ev, rfl⟩, k5⟩
    injection ev with ev1 ev2 ev3
    subst ev1 ev2 ev3
    generalize w3.alloc (.map #[] 0) = w4 at *
    generalize w3.heap.size = M at *
    rw [HM.out] at hc
    have HT5 := hid (tt_kept HT.out.obj HT4.out k5)
    have HD5 := hid (gd_kept HD4.out k5)
    have HO5 := hid (off_kept HO4.out k5)
    have HFi : Hid (∀ i, i < c → ∃ y, ops[i]? = some y ∧ OpOk w y ∧ Fine y) := hid (fun i hi => by
      have hil : i < ops.length := by rw [HM.out]; omega
      refine ⟨ops[i], List.getElem?_eq_getElem hil, HX.out _ (List.getElem_mem hil), hfin _ ?_⟩
      rw [List.mem_iff_getElem?]
      exact ⟨i, by rw [List.getElem?_take, if_pos hi]; exact List.getElem?_eq_getElem hil⟩)
    clear hfin k5 HT4 HD4 HO4 hC
    go_wp2_with fail
    go_loopw [47] (fun iv wr => ∃ (i : Nat) (l : List Ht) (F' : Nat → Prop) (g : Int → Option Bool), i ≤ c ∧ iv = .int .i64 (i : Int) ∧ Hid (Hg 64 l ∧ Held l r (ofG g)) ∧ Hid (TT T w0 X ⟨64, l⟩ F' wr) ∧ Hid (Gd' mapB wr M g) ∧ Hid (Off wr F' M)) (fun iv _ => c - (intOf iv).toNat)
    case atStart => exact ⟨0, _, F3, fun _ => none, by omega, rfl, hid ⟨HG3.out, HH3.out⟩, HT5, HD5, HO5⟩
    case round =>
      obtain ⟨i, l, F', g, hi, rfl, HI, HTr, HDr, HOr⟩ := hrel
      clear HT5 HD5 HO5 HG3 HH3
      by_cases hlt : i < c
      · have hltz : (i : Int) < (c : Int) := by omega
        obtain ⟨y, hy, hyk, hyf⟩ := HFi.out i hlt
        obtain ⟨gg, oo, rfl⟩ := HP.out (by omega)
        obtain ⟨c0, c1, c2, c3, c4, c5, c6, c7, c8, c9, c10⟩ := rg_O (rg_kept encO_ok HR.out (kept_trans HK0.out HTr.out.k)) hy
        have HY := hid (at_new wr #[.int .i64 y.kind, .string y.r.key, .int .u64 y.r.s.p, .int .u32 y.r.s.l, .int .u8 y.r.s.n, .int .u8 y.r.kind, .int .u32 y.r.flags, .int .u64 y.r.exp, .string y.r.body, .int .u8 y.node, .slice y.uv y.up.length y.uc] 38)
        have ka := kept_alloc (kept_refl wr) (.cells #[.int .i64 y.kind, .string y.r.key, .int .u64 y.r.s.p, .int .u32 y.r.s.l, .int .u8 y.r.s.n, .int .u8 y.r.kind, .int .u32 y.r.flags, .int .u64 y.r.exp, .string y.r.body, .int .u8 y.node, .slice y.uv y.up.length y.uc] 38)
        have HTa := hid (tt_kept HT.out.obj HTr.out ka)
        have HDa := hid (gd_kept HDr.out ka)
        have HOa := hid (off_kept HOr.out ka)
        have HYo := hid (off_new HT.out.obj HTr.out (Nat.le_refl _) (at_lt HY.out))
        have HYk := hid hyk
        have HYf := hid hyf
        have HYM : Hid (wr.heap.size ≠ M) := hid (by have := HOr.out.1; omega)
        obtain ⟨p0, p1, p2, p3, p4, p5, p6, p7, p8, p9, p10⟩ := cells11 HY.out
        clear hy hyk hyf ka HTr HDr HOr
        go_upto_block 2 with fail
        generalize hwa : wr.alloc (.cells #[.int .i64 y.kind, .string y.r.key, .int .u64 y.r.s.p, .int .u32 y.r.s.l, .int .u8 y.r.s.n, .int .u8 y.r.kind, .int .u32 y.r.flags, .int .u64 y.r.exp, .string y.r.body, .int .u8 y.node, .slice y.uv y.up.length y.uc] 38) = wa at *
        generalize hYb : wr.heap.size = Y at *
        clear hwa hYb c0 c1 c2 c3 c4 c5 c6 c7 c8 c9 c10
        have HUa : Hid (∀ u, Kept w0 u → Rg encU 1 u (.slice y.uv y.up.length y.uc) y.up) := hid (fun u ku => rg_kept encU_ok HYk.out.2.2.2 (kept_trans HK0.out ku))
        have HZa : Hid (∀ u, Kept w0 u → At u Z #[.string r.key, .int .u64 r.s.p, .int .u32 r.s.l, .int .u8 r.s.n, .int .u8 r.kind, .int .u32 r.flags, .int .u64 r.exp, .string r.body] 35) := hid (fun u ku => at_kept HZ.out ku)
        obtain ⟨z0, z1, z2, z3, z4, z5, z6, z7⟩ := at_cells8' (HZa.out wa HTa.out.k)
        go_cut [10, 11, 13] (fun _ _ _ wx => ∃ (l2 : List Ht) (F2 : Nat → Prop) (g2 : Int → Option Bool), Hid (Kp T w0 X M r l2 F2 g2 wx))
        case first =>
          by_cases hk0 : y.kind = 0
          · have hkb : (y.kind == 0) = true := by rw [hk0]; rfl
            have hA := ht_add HT.out HTa.out HI.out.1 HYk.out.1 ⟨HYf.out.1, HYf.out.2.1⟩
            by_cases ek : y.r.key = r.key
            · have hte := txt_eq ek
              cases hbd : badA y.r with
              | true =>
                have HH2 : Hid (Held (addL 64 l y.r) r (ofG g)) := hid (held_add HI.out.1 HI.out.2 y.r (fun _ hb => by rw [hbd] at hb; cases hb))
                have HG2 : Hid (Hg 64 (addL 64 l y.r)) := hid (hg_add HI.out.1 HYk.out.1)
                have HH3 : Hid (Held (addL 64 (addL 64 l y.r) y.r) r (ofG g)) := hid (held_add HG2.out HH2.out y.r (fun _ hb => by rw [hbd] at hb; cases hb))
                rw [add_bad hbd] at hA
                clear hbd ek hk0
                go_wp2_with fail
                refine hA.mono ?_
                rintro e w6 ⟨F6, rfl, t6, d6⟩
                have HT6 := hid t6
                have HD6 := hid (gd_sd HDa.out HOa.out d6)
                have HO6 := hid (off_sd HOa.out d6)
                have hA2 := ht_add HT.out t6 HG2.out HYk.out.1 ⟨HYf.out.1, HYf.out.2.1⟩
                obtain ⟨q0, q1, q2, q3, q4, q5, q6, q7, q8, q9, q10⟩ := cells11 (at_sd HY.out HYo.out d6)
                clear hA t6 d6 p0 p1 p2 p3 p4 p5 p6 p7 p8 p9 p10 z0 z1 z2 z3 z4 z5 z6 z7 HTa
                go_wp2_with fail
                refine hA2.mono ?_
                rintro e w7 ⟨F7, rfl, t7, d7⟩
                have HKp : Hid (Kp T w0 X M r (addL 64 (addL 64 l y.r) y.r) F7 g w7) := hid ⟨t7, gd_sd HD6.out HO6.out d7, off_sd HO6.out d7, hg_add HG2.out HYk.out.1, HH3.out⟩
                clear hA2 t7 d7
                go_wp2_with fail
                go_meet
                exact ⟨_, _, _, HKp⟩
              | false =>
                rw [add_ok HI.out.1 HI.out.2 ek hbd] at hA
                have HG2 : Hid (Hg 64 (addL 64 l y.r)) := hid (hg_add HI.out.1 HYk.out.1)
                have HHl : Hid (lessR r y.r = false → Held (addL 64 (addL 64 l y.r) y.r) r (ofG g)) := hid (fun hl => held_add HG2.out (held_add HI.out.1 HI.out.2 y.r (fun _ _ => less_not hl)) y.r (fun _ _ => less_not hl))
                clear hbd ek hk0
                go_wp2_with fail
                refine hA.mono ?_
                rintro e w6 ⟨F6, rfl, t6, d6⟩
                have HT6 := hid t6
                have HD6 := hid (gd_sd HDa.out HOa.out d6)
                have HO6 := hid (off_sd HOa.out d6)
                have HY6 := hid (at_sd HY.out HYo.out d6)
                have HYo6 := hid (off_sd HYo.out d6)
                have hL := refLess_any r y.r HOk.out.2.2.2.2.2 HYk.out.1.2.2.2.2.2 w6
                obtain ⟨q0, q1, q2, q3, q4, q5, q6, q7, q8, q9, q10⟩ := cells11 HY6.out
                clear hA d6 p0 p1 p2 p3 p4 p5 p6 p7 p8 p9 p10 z0 z1 z2 z3 z4 z5 z6 z7 HTa
                obtain ⟨z0, z1, z2, z3, z4, z5, z6, z7⟩ := at_cells8' (HZa.out w6 t6.k)
                clear t6
                go_wp2_with fail
                refine hL.mono ?_
                rintro e w7 ⟨rfl, k7⟩
                have HT7 := hid (tt_kept HT.out.obj HT6.out k7)
                have HD7 := hid (gd_kept HD6.out k7)
                have HO7 := hid (off_kept HO6.out k7)
                have HK7 := hid (kept_trans HK0.out HT7.out.k)
                clear q0 q1 q2 q3 q4 q5 q6 q7 q8 q9 q10 z0 z1 z2 z3 z4 z5 z6 z7
                obtain ⟨q0, q1, q2, q3, q4, q5, q6, q7, q8, q9, q10⟩ := cells11 (at_kept HY6.out k7)
                clear hL k7 HT6 HD6 HO6
                cases hl : lessR r y.r with
                | true =>
                  go_wp2_with fail
                  go_ret
                  exact ⟨rfl, HK7.out⟩
                | false =>
                  have HH3 := hid (HHl.out hl)
                  have hA2 := ht_add HT.out HT7.out HG2.out HYk.out.1 ⟨HYf.out.1, HYf.out.2.1⟩
                  clear hl
                  go_wp2_with fail
                  refine hA2.mono ?_
                  rintro e w8 ⟨F8, rfl, t8, d8⟩
                  have HKp : Hid (Kp T w0 X M r (addL 64 (addL 64 l y.r) y.r) F8 g w8) := hid ⟨t8, gd_sd HD7.out HO7.out d8, off_sd HO7.out d8, hg_add HG2.out HYk.out.1, HH3.out⟩
                  clear hA2 t8 d8
                  go_wp2_with fail
                  go_meet
                  exact ⟨_, _, _, HKp⟩
            · have hte := txt_ne ek
              have HH2 : Hid (Held (addL 64 l y.r) r (ofG g)) := hid (held_add HI.out.1 HI.out.2 y.r (fun h => absurd h ek))
              clear ek hk0
              go_wp2_with fail
              refine hA.mono ?_
              rintro e w7 ⟨F7, rfl, t7, d7⟩
              have HKp : Hid (Kp T w0 X M r (addL 64 l y.r) F7 g w7) := hid ⟨t7, gd_sd HDa.out HOa.out d7, off_sd HOa.out d7, hg_add HI.out.1 HYk.out.1, HH2.out⟩
              clear hA t7 d7
              go_wp2_with fail
              go_meet
              exact ⟨_, _, _, HKp⟩
          have hkb0 : (y.kind == 0) = false := by rw [beq_eq_false_iff_ne]; exact hk0
          by_cases hk1 : y.kind = 1
          · have hkb : (y.kind == 1) = true := by rw [hk1]; rfl
            have hA := ht_ack HT.out HTa.out HI.out.1 HYf.out.1 HYk.out.1.2.1 HYk.out.2.1.1 HYk.out.2.1.2
            have HG2 : Hid (Hg 64 (ackL l y.r.key y.r.s y.node)) := hid (hg_ack HI.out.1 _ _ _)
            have HHk := hid (fun B hAB hB => held_ack HI.out.1 HI.out.2 y.r.key y.r.s y.node B hAB hB)
            clear hk1 hk0
            go_upto_region 27 with fail
            all_goals skip
            refine hA.mono ?_
            rintro e w6 ⟨F6, rfl, t6, d6⟩
            have HT6 := hid t6
            have HD6 := hid (gd_sd HDa.out HOa.out d6)
            have HO6 := hid (off_sd HOa.out d6)
            have HY6 := hid (at_sd HY.out HYo.out d6)
            have HYo6 := hid (off_sd HYo.out d6)
            clear hA d6 p0 p1 p2 p3 p4 p5 p6 p7 p8 p9 p10 z0 z1 z2 z3 z4 z5 z6 z7 HTa
            obtain ⟨q0, q1, q2, q3, q4, q5, q6, q7, q8, q9, q10⟩ := cells11 HY6.out
            obtain ⟨z0, z1, z2, z3, z4, z5, z6, z7⟩ := at_cells8' (HZa.out w6 t6.k)
            clear t6
            by_cases ek : y.r.key = r.key
            · have hte := txt_eq ek
              have hL := less_any y.r.s r.s w6
              go_wp2_with fail
              refine hL.mono ?_
              rintro e w7 ⟨rfl, k7⟩
              have HT7 := hid (tt_kept HT.out.obj HT6.out k7)
              have HD7 := hid (gd_kept HD6.out k7)
              have HO7 := hid (off_kept HO6.out k7)
              clear q0 q1 q2 q3 q4 q5 q6 q7 q8 q9 q10 z0 z1 z2 z3 z4 z5 z6 z7
              obtain ⟨q0, q1, q2, q3, q4, q5, q6, q7, q8, q9, q10⟩ := cells11 (at_kept HY6.out k7)
              clear hL k7 HT6 HD6 HO6
              cases hl : lt y.r.s r.s with
              | true =>
                have HKp : Hid (Kp T w0 X M r (ackL l y.r.key y.r.s y.node) F6 g w7) := hid ⟨HT7.out, HD7.out, HO7.out, HG2.out, HHk.out _ (fun _ h => h) (fun _ h => by rw [hl] at h; cases h)⟩
                clear hl
                go_wp2_with fail
                go_meet
                exact ⟨_, _, _, HKp⟩
              | false =>
                by_cases hn : y.node < 64
                · have hnd : decide (y.node < 64) = true := by simpa using hn
                  obtain ⟨w8, hput, hd8, ht8⟩ := put_B HD7.out HYk.out.2.1
                  have HKp : Hid (Kp T w0 X M r (ackL l y.r.key y.r.s y.node) F6 (upd g y.node true) w8) := hid ⟨tt_turned HT.out.obj HT7.out HO7.out HB4.out ht8, hd8, off_turned HO7.out ht8, HG2.out, HHk.out _ (ofG_upd g _ HYk.out.2.1).1 (fun _ _ _ => (ofG_upd g _ HYk.out.2.1).2)⟩
                  clear hl hd8 ht8
                  go_wp2_with fail
                  go_meet
                  exact ⟨_, _, _, HKp⟩
                · have hnd : decide (y.node < 64) = false := by simpa using hn
                  have HKp : Hid (Kp T w0 X M r (ackL l y.r.key y.r.s y.node) F6 g w7) := hid ⟨HT7.out, HD7.out, HO7.out, HG2.out, HHk.out _ (fun _ h => h) (fun _ _ h => absurd h (by omega))⟩
                  clear hl
                  go_wp2_with fail
                  go_meet
                  exact ⟨_, _, _, HKp⟩
            · have hte := txt_ne ek
              have HKp : Hid (Kp T w0 X M r (ackL l y.r.key y.r.s y.node) F6 g w6) := hid ⟨HT6.out, HD6.out, HO6.out, HG2.out, HHk.out _ (fun _ h => h) (fun h => absurd h ek)⟩
              clear ek
              go_wp2_with fail
              go_meet
              exact ⟨_, _, _, HKp⟩
          have hkb1 : (y.kind == 1) = false := by rw [beq_eq_false_iff_ne]; exact hk1
          by_cases hk2 : y.kind = 2
          · have hkb : (y.kind == 2) = true := by rw [hk2]; rfl
            have hMs := ht_missing HT.out HTa.out HI.out.1 HYk.out.2.2.1 HYf.out.2.2 (HUa.out wa HTa.out.k)
            clear hk0 hk1 hk2
            go_wp2_with fail
            refine hMs.mono ?_
            rintro e w6 ⟨r6, F6, rfl, -, -, t6, d6⟩
            have HKp : Hid (Kp T w0 X M r l F6 g w6) := hid ⟨t6, gd_sd HDa.out HOa.out d6, off_sd HOa.out d6, HI.out.1, HI.out.2⟩
            clear hMs t6 d6
            go_wp2_with fail
            go_meet
            exact ⟨_, _, _, HKp⟩
          have hkb2 : (y.kind == 2) = false := by rw [beq_eq_false_iff_ne]; exact hk2
          have hS := ht_settle HT.out HTa.out HI.out.1 HYk.out.2.2.1 HYf.out.2.2 (HUa.out wa HTa.out.k) (far_old HTa.out encU_ok (HUa.out w0 (kept_refl w0)))
          have HHs := hid (fun (hn : allA (ofG g) r.key y.up = false) => held_set HI.out.2 hn)
          have HG2 : Hid (Hg 64 (setL l y.up)) := hid (hg_set HI.out.1 y.up)
          rw [allA_of] at HHs
          clear hk0 hk1 hk2
          go_wp2_with fail
          refine hS.mono ?_
          rintro e w6 ⟨F6, rfl, t6, d6⟩
          have HT6 := hid t6
          have HD6 := hid (gd_sd HDa.out HOa.out d6)
          have HO6 := hid (off_sd HOa.out d6)
          obtain ⟨q0, q1, q2, q3, q4, q5, q6, q7, q8, q9, q10⟩ := cells11 (at_sd HY.out HYo.out d6)
          clear hS d6 p0 p1 p2 p3 p4 p5 p6 p7 p8 p9 p10 z0 z1 z2 z3 z4 z5 z6 z7 HTa
          obtain ⟨z0, z1, z2, z3, z4, z5, z6, z7⟩ := at_cells8' (HZa.out w6 t6.k)
          have hO := rowners_any r.key HS.out.1 y.up (by have := HYf.out.2.2; omega) _ _ (HUa.out w6 t6.k)
          clear t6
          go_wp2_with fail
          refine hO.mono ?_
          rintro e w7 ⟨v7, rfl, o7, -, k7⟩
          have HT7 := hid (tt_kept HT.out.obj HT6.out k7)
          have HD7 := hid (gd_kept HD6.out k7)
          have HO7 := hid (off_kept HO6.out k7)
          have HK7 := hid (kept_trans HK0.out HT7.out.k)
          have HW7 := hid (rg_own encU_ok o7)
          have HOi : Hid (∀ o ∈ owners r.key y.up, okU o) := hid (fun o ho => ⟨(owners_in ho).1, by have := (owners_in ho).2.1; omega⟩)
          have hol : (owners r.key y.up).length ≤ 2 := owners_len _ _
          obtain ⟨oa, oc, rfl, -, -⟩ := og_is encU_ok o7
          clear hO o7 k7 HT6 HD6 HO6 q0 q1 q2 q3 q4 q5 q6 q7 q8 q9 q10 z0 z1 z2 z3 z4 z5 z6 z7
          generalize owners r.key y.up = os at *
          generalize hq : os.length = q at *
          have HQ := hid hq
          clear hq
          have hd0 : decide ((0 : Int) < (q : Int)) = decide (0 < q) := by simp
          go_wp2_with fail
          go_loopw [11, 67] (fun bv jv wx => ∃ j : Nat, j ≤ q ∧ jv = .int .i64 (j : Int) ∧ bv = .bool (decide (0 < q) && (os.take j).all (fun o => (g o).getD false)) ∧ wx = w7) (fun _ jv _ => q - (intOf jv).toNat)
          case atStart => exact ⟨0, by omega, rfl, by simp, rfl⟩
          case round =>
            obtain ⟨j, hj, rfl, rfl, rfl⟩ := hrel
            by_cases hjl : j < q
            · have hjz : (j : Int) < (q : Int) := by omega
              obtain ⟨x, hx⟩ : ∃ x, os[j]? = some x := ⟨os[j]'(by have := HQ.out; omega), List.getElem?_eq_getElem (by have := HQ.out; omega)⟩
              obtain ⟨gq, oq, rfl⟩ : ∃ g o, oa = some ⟨g, o, none⟩ := by
                obtain ⟨g, o, c, e⟩ := rg_pos HW7.out (by have := HQ.out; omega)
                injection e with e1
                exact ⟨g, o, e1⟩
              have c0 : wr.cell? ⟨gq, oq + j, none⟩ = some (.int .u8 x) := by simpa using rg_all HW7.out hx 0 _ rfl
              have hlk := look_B HD7.out (HOi.out x (List.mem_of_getElem? hx))
              have HTk : Hid (os.take (j + 1) = os.take j ++ [x]) := hid (by rw [List.take_add_one, hx]; rfl)
              clear hx
              cases hb : (decide (0 < q) && (os.take j).all (fun o => (g o).getD false)) with
              | true =>
                have HE : Hid (((g x).getD false) = (decide (0 < q) && (os.take (j + 1)).all (fun o => (g o).getD false))) := hid (by rw [HTk.out, List.all_append, ← Bool.and_assoc, hb]; simp)
                clear hb
                go_wp2_with fail
                go_roundw
                case rel => exact ⟨j + 1, by omega, by go_num, by rw [HE.out], by simp⟩
                case measure => simp [intOf]; omega
              | false =>
                have HE : Hid (false = (decide (0 < q) && (os.take (j + 1)).all (fun o => (g o).getD false))) := hid (by rw [HTk.out, List.all_append, ← Bool.and_assoc, hb]; simp)
                clear hb
                go_wp2_with fail
                go_roundw
                case rel => exact ⟨j + 1, by omega, by go_num, by rw [← HE.out], by simp⟩
                case measure => simp [intOf]; omega
            · have hjz : ¬ (j : Int) < (q : Int) := by omega
              rw [List.take_of_length_le (by have := HQ.out; omega : os.length ≤ j)]
              cases hb : (decide (0 < q) && os.all (fun o => (g o).getD false)) with
              | true =>
                go_wp2_with fail
                go_ret
                exact ⟨rfl, HK7.out⟩
              | false =>
                have HKp : Hid (Kp T w0 X M r (setL l y.up) F6 g wr) := hid ⟨HT7.out, HD7.out, HO7.out, HG2.out, HHs.out hb⟩
                clear hb
                go_wp2_with fail
                go_meet
                exact ⟨_, _, _, HKp⟩
        case rest =>
          obtain ⟨l2, F2, g2, HK2⟩ := hcut
          clear HTa HDa HOa HYo HYk HYf HYM HY HUa HI p0 p1 p2 p3 p4 p5 p6 p7 p8 p9 p10 z0 z1 z2 z3 z4 z5 z6 z7
          have hAl := ht_all HT.out HK2.out.t HK2.out.hg
          have HHa := hid (held_gone HK2.out.hh)
          go_wp2_with fail
          refine hAl.mono ?_
          rintro e w6 ⟨r6, F6, rfl, o6, -, -, t6, d6⟩
          have HKp : Hid (Kp T w0 X M r l2 F6 g2 w6) := hid ⟨t6, gd_sd HK2.out.d HK2.out.o d6, off_sd HK2.out.o d6, HK2.out.hg, HK2.out.hh⟩
          have HW6 := hid (rg_own encH_ok o6)
          have hll : l2.length ≤ 64 := HK2.out.hg.len
          obtain ⟨ra, rc, rfl, -, -⟩ := og_is encH_ok o6
          clear o6 t6 d6 hAl HK2
          generalize hq : l2.length = q at *
          have HQ := hid hq
          clear hq
          have hE := fun h : R => eq_rec h r
          have hzh := zeroHt
          go_wp2_with fail
          go_loopw [14, 148] (fun bv jv wx => ∃ j : Nat, j ≤ q ∧ jv = .int .i64 (j : Int) ∧ bv = .bool ((l2.take j).any (fun x => sameR x.r r)) ∧ Hid (Kept w6 wx)) (fun _ jv _ => q - (intOf jv).toNat)
          case atStart => exact ⟨0, by omega, rfl, by simp, hid (kept_refl w6)⟩
          case round =>
            obtain ⟨j, hj, rfl, rfl, HKj⟩ := hrel
            by_cases hjl : j < q
            · have hjz : (j : Int) < (q : Int) := by omega
              obtain ⟨x, hx⟩ : ∃ x, l2[j]? = some x := ⟨l2[j]'(by have := HQ.out; omega), List.getElem?_eq_getElem (by have := HQ.out; omega)⟩
              obtain ⟨gq, oq, rfl⟩ : ∃ g o, ra = some ⟨g, o, none⟩ := by
                obtain ⟨g, o, c, e⟩ := rg_pos HW6.out (by have := HQ.out; omega)
                injection e with e1
                exact ⟨g, o, e1⟩
              obtain ⟨d0, d1, d2, d3, d4, d5, d6, d7, d8⟩ := rg_H (rg_kept encH_ok HW6.out HKj.out) hx
              have HV := hid (at_new wr #[.string x.r.key, .int .u64 x.r.s.p, .int .u32 x.r.s.l, .int .u8 x.r.s.n, .int .u8 x.r.kind, .int .u32 x.r.flags, .int .u64 x.r.exp, .string x.r.body, .int .u64 (ackI x.has 64)] 61)
              have ka := kept_alloc (kept_refl wr) (.cells #[.string x.r.key, .int .u64 x.r.s.p, .int .u32 x.r.s.l, .int .u8 x.r.s.n, .int .u8 x.r.kind, .int .u32 x.r.flags, .int .u64 x.r.exp, .string x.r.body, .int .u64 (ackI x.has 64)] 61)
              have HK8 := hid (kept_trans HKj.out ka)
              obtain ⟨p0, p1, p2, p3, p4, p5, p6, p7, p8⟩ := cells9 HV.out
              obtain ⟨z0, z1, z2, z3, z4, z5, z6, z7⟩ := at_cells8' (HZa.out _ (kept_trans HKp.out.t.k HK8.out))
              have HTk : Hid (l2.take (j + 1) = l2.take j ++ [x]) := hid (by rw [List.take_add_one, hx]; rfl)
              clear hx ka
              cases hb : (l2.take j).any (fun x => sameR x.r r) with
              | true =>
                have HE : Hid ((l2.take (j + 1)).any (fun x => sameR x.r r) = true) := hid (by rw [HTk.out, List.any_append, hb]; rfl)
                clear hb
                go_wp2_with fail
                go_roundw
                case rel => exact ⟨j + 1, by omega, by go_num, by rw [HE.out], HK8⟩
                case measure => simp [intOf]; omega
              | false =>
                have HE : Hid ((l2.take (j + 1)).any (fun x => sameR x.r r) = sameR x.r r) := hid (by rw [HTk.out, List.any_append, hb]; simp)
                clear hb
                go_wp2_with fail
                go_roundw
                case rel => exact ⟨j + 1, by omega, by go_num, by rw [HE.out], HK8⟩
                case measure => simp [intOf]; omega
            · have hjz : ¬ (j : Int) < (q : Int) := by omega
              rw [List.take_of_length_le (by have := HQ.out; omega : l2.length ≤ j), HHa.out]
              have HKq : Hid (Kp T w0 X M r l2 F6 g2 wr) := hid ⟨tt_kept HT.out.obj HKp.out.t HKj.out, gd_kept HKp.out.d HKj.out, off_kept HKp.out.o HKj.out, HKp.out.hg, HKp.out.hh⟩
              go_wp2_with fail
              go_roundw
              case rel => exact ⟨i + 1, l2, F6, g2, by omega, by go_num, hid ⟨HKq.out.hg, HKq.out.hh⟩, hid HKq.out.t, hid HKq.out.d, hid HKq.out.o⟩
              case measure => simp [intOf]; omega
      · have hltz : ¬ (i : Int) < (c : Int) := by omega
        go_wp2_with fail
        go_ret
        exact ⟨rfl, kept_trans HK0.out HTr.out.k⟩
  · have hab : (addE 64 [] r != 0) = true := by simpa using ha
    generalize addE 64 [] r = ae at *
    go_wp2_with fail
    go_ret
    exact ⟨rfl, HK3.out⟩
end Go.Proofs.Ytahgplfkgijecaa
