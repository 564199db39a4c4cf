/- The chapter's example, out of what the landed probe must answer. -/
import Derived.Test.YtgmcjnhijgnadaaPrIs
namespace Go.Proofs.Ytgmcjnhijgnadaa
open Go.ChangeShapes Go.WideShapes Go.ChangeAt Go.RowKit
set_option linter.unusedVariables false
set_option linter.unusedSimpArgs false
set_option maxRecDepth 100000

section
variable {T : Shape Pb} {W w w' : World} {X : Nat} {p : Pb} {F F' : Nat → Prop}
theorem pt_new (hT : ProbeIs T) (kw : Kept W w) {self : Int} {n : Nat} (h1 : 1 ≤ n) (h2 : n ≤ 64) (h3 : 0 ≤ self) (h4 : self < n) : Calls Try.prog 8 #[.int .u8 self, .int .i64 (n : Int)] w fun e w' => ∃ X F, e = .returned (.tuple #[.pointer (some ⟨X, 0, none⟩), .int .i64 0]) ∧ TT T W X (newP self n) F w' ∧ Kept w w' :=
  (hT.new_ok self n w h1 h2 h3 h4).mono (by
    rintro e w' ⟨X, F, rfl, ht, kk, hf⟩
    exact ⟨X, F, rfl, ⟨ht, kept_trans kw kk, fun b hb => Nat.le_trans kw.2 (hf b hb)⟩, kk⟩)
theorem pt_tick (hT : ProbeIs T) (h : TT T W X p F w) (g : Gp p) (ht : p.ticks ≤ 1000) {x : Int} (hx : 0 ≤ x) (hx2 : x < 18446744073709551616) {hs : List Int} {hv : Value} (hu : U8 hs) (hl : hs.length ≤ 100) (hr : Rg encU 1 w hv hs) : Calls Try.prog 13 #[.pointer (some ⟨X, 0, none⟩), .int .u64 x, hv] w fun e w' => ∃ pv av fv F', e = .returned (.agg #[pv, av, fv]) ∧ Ro w' F' pv av fv (tickR p x hs) ∧ TT T W X (tickP p x) F' w' ∧ Sd F w F' w' :=
  (hT.tick X p F x hs hv w h.t g ht hx hx2 hu hl hr).mono (by
    rintro e w' ⟨pv, av, fv, F', rfl, hr, ht, s⟩
    exact ⟨pv, av, fv, F', rfl, hr, tt_sd h ht s, s⟩)
theorem pt_answer (hT : ProbeIs T) (h : TT T W X p F w) (g : Gp p) {a : Int} (h1 : 0 ≤ a) (h2 : a < 256) : Calls Try.prog 15 #[.pointer (some ⟨X, 0, none⟩), .int .u8 a] w fun e w' => ∃ F', e = .returned (.bool (isW p.waits a)) ∧ TT T W X (ansP p a) F' w' ∧ Sd F w F' w' :=
  (hT.answer X p F a w h.t g h1 h2).mono (by
    rintro e w' ⟨F', rfl, ht, s⟩
    exact ⟨F', rfl, tt_sd h ht s, s⟩)
theorem pt_waits (hT : ProbeIs T) (h : TT T W X p F w) (g : Gp p) : Calls Try.prog 17 #[.pointer (some ⟨X, 0, none⟩)] w fun e w' => ∃ r, e = .returned r ∧ Rg encU 1 w' r (nodW p) ∧ TT T W X p F w' ∧ Kept w w' :=
  (hT.waits X p F w h.t g).mono (by
    rintro e w' ⟨r, rfl, hr, kk⟩
    exact ⟨r, rfl, hr, tt_kept hT.obj h kk, kk⟩)
end
theorem one_round (v : Value) (h : v.oneCell' = true) (u : Value) (h2 : u.oneCell' = true) (x : Value) (h3 : x.oneCell' = true) : (#[v, u, x] : Array Value).all (·.oneCell') = true := by simp [h, h2, h3]
theorem infoR : (Try.prog.info? 39).map (·.size) = some 3 := by kernel_rfl
theorem storeR {w : World} {Z : Nat} {a0 a1 a2 : Value} (h : At w Z #[a0, a1, a2] 39) (v u x : Value) (h1 : v.oneCell' = true) (h2 : u.oneCell' = true) (h3 : x.oneCell' = true) : (storeVar 39 ⟨Z, 0, none⟩ (.agg #[v, u, x])).run Try.prog w = .ok () (w.setRow Z #[v, u, x]) :=
  run_storeVar_row _ _ 39 39 _ _ h infoR rfl (one_round v h1 u h2 x h3)
theorem wpList_storeR {ops : Array Oper} {rest : List Oper} {op : Oper} {act : Act} {w : World} {Q : Exit → Act → World → Prop} (hgd : op.guard = none) (x y : Operand) (ho : op.op = .store 39 x y) (Z : Nat) (hx : act.eval x = .pointer (some ⟨Z, 0, none⟩)) (cs : Array Value) (hy : act.eval y = .agg cs) (w2 : World)
    (hst : (storeVar 39 ⟨Z, 0, none⟩ (.agg cs)).run Try.prog w = .ok () w2) (h : wpList Try.prog ops Q rest (act.put op.dst undef) w2) : wpList Try.prog ops Q (op :: rest) act w :=
  wpList_plain hgd fun _ hK => by
    unfold Oper.wp execOp
    simp only [ho, hx, hy, Instr.storeAt, Instr.sureAddr, Sem.run_bind, Sem.run_pure, Result.andThen_ok, hst]
    exact hK _ _ h
theorem og_slice {α : Type} {enc : α → List Value} {c U B : Nat} {w : World} {v : Value} {xs : List α} (he : Enc enc c) (h : Og enc c U w B v xs) : v.oneCell' = true := by
  obtain ⟨a, cap, rfl, -, -⟩ := og_is he h
  rfl
/- The three ticks. -/
def q1 : Pb := ⟨0, 3, [1, 2], 1, [⟨1, 1⟩], 1⟩
def q2 : Pb := ⟨0, 3, [1, 2], 2, [⟨1, 1⟩, ⟨2, 2⟩], 2⟩
theorem tick1 : tickR (newP 0 3) 0 [1, 2] = ⟨[1], [], []⟩ ∧ tickP (newP 0 3) 0 = q1 := ⟨rfl, rfl⟩
theorem tick2 : tickR q1 0 [1, 2] = ⟨[2], [⟨2, 1⟩], []⟩ ∧ tickP q1 0 = q2 := ⟨rfl, rfl⟩
theorem tick3 : ∃ t, tickR q2 0 [] = ⟨[t], [], [1]⟩ := ⟨pingT q2 0, rfl⟩
theorem gq0 : Gp (newP 0 3) := gp_new (by decide) (by decide) (by decide) (by decide)
theorem gq1 : Gp q1 := by rw [← tick1.2]; exact gp_tick gq0 0
theorem gq2 : Gp q2 := by rw [← tick2.2]; exact gp_tick gq1 0
theorem built2 (w : World) (a b : Int) : Rg encU 1 (w.alloc (.cells #[.int .u8 a, .int .u8 b] 5)) (.slice (some ⟨w.heap.size, 0, none⟩) 2 2) [a, b] := rg_own encU_ok (og_built encU_ok 5 w _ (Nat.le_refl _) [a, b] (by simp))
theorem rg_alone1 (w : World) (a : Int) : Rg encU 1 (w.alloc (.cells #[.int .u8 a] 5)) (.slice (some ⟨w.heap.size, 0, none⟩) 1 1) [a] := rg_alone encU_ok (y := a) (at_new w #[.int .u8 a] 5)
set_option maxHeartbeats 6400000 in
theorem fixed_any {T : Shape Pb} (hT : ProbeIs T) (w : World) : Calls Try.prog 10 #[] w fun e w' => e = .returned (.bool true) ∧ Kept w w' := by
  have HT := hid hT
  have hN := pt_new (T := T) (W := w) (self := 0) (n := 3) hT (kept_refl w) (by decide) (by decide) (by decide) (by decide)
  clear hT
  go_enter Try.func10, Try.ntmps10
  go_wp2_with fail
  refine hN.mono ?_
  rintro e w1 ⟨X, F1, rfl, t1, -⟩
  have k1 := kept_alloc (kept_refl w1) (.cells #[.int .u8 1, .int .u8 2] 5)
  have hK := pt_tick HT.out (tt_kept HT.out.obj t1 k1) gq0 (by decide) (x := 0) (by decide) (by decide) (hs := [1, 2]) (by unfold U8; decide) (by decide) (built2 w1 1 2)
  rw [tick1.1, tick1.2] at hK
  clear hN t1 k1
  go_wp2_with fail
  refine hK.mono ?_
  rintro e w2 ⟨pa, aa, fa, F2, rfl, r2, t2, -⟩
  have k2 := kept_alloc (kept_refl w2) (.cells #[.int .u8 1, .int .u8 2] 5)
  have HR2 := hid (ro_kept r2 k2)
  have hK2 := pt_tick HT.out (tt_kept HT.out.obj t2 k2) gq1 (by decide) (x := 0) (by decide) (by decide) (hs := [1, 2]) (by unfold U8; decide) (by decide) (built2 w2 1 2)
  rw [tick2.1, tick2.2] at hK2
  clear hK t2 k2 r2
  go_wp2_with fail
  refine hK2.mono ?_
  rintro e w3 ⟨pb, ab, fb, F3, rfl, r3, t3, s3⟩
  have HA3 := hid (ro_sd HR2.out s3)
  have HB3 := hid r3
  obtain ⟨tt, ht3⟩ := tick3
  have hK3 := pt_tick HT.out t3 gq2 (by decide) (x := 0) (by decide) (by decide) (hs := []) (by unfold U8; simp) (by decide) (rg_nil encU 1 w3)
  rw [ht3] at hK3
  clear hK2 t3 r3 s3 HR2 ht3
  go_wp2_with fail
  refine hK3.mono ?_
  rintro e w4 ⟨pc, ac, fc, F4, rfl, r4, t4, s4⟩
  have HA4 := hid (ro_sd HA3.out s4)
  have HB4 := hid (ro_sd HB3.out s4)
  have HC4 := hid r4
  have HK4 := hid t4.k
  clear hK3 t4 r4 s4 HA3 HB3
  -- the boxes
  have z1 := at_new w4 #[.slice none 0 0, .slice none 0 0, .slice none 0 0] 39
  have k5 := kept_alloc (kept_refl w4) (.cells #[.slice none 0 0, .slice none 0 0, .slice none 0 0] 39)
  obtain ⟨w5, hw5⟩ : ∃ u, w4.alloc (.cells #[.slice none 0 0, .slice none 0 0, .slice none 0 0] 39) = u := ⟨_, rfl⟩
  obtain ⟨P, hP⟩ : ∃ u, w4.heap.size = u := ⟨_, rfl⟩
  rw [hw5] at z1 k5
  rw [hP] at z1
  have z2 := at_new w5 #[.slice none 0 0, .slice none 0 0, .slice none 0 0] 39
  have k6 := kept_alloc (kept_refl w5) (.cells #[.slice none 0 0, .slice none 0 0, .slice none 0 0] 39)
  obtain ⟨w6, hw6⟩ : ∃ u, w5.alloc (.cells #[.slice none 0 0, .slice none 0 0, .slice none 0 0] 39) = u := ⟨_, rfl⟩
  obtain ⟨Q, hQ⟩ : ∃ u, w5.heap.size = u := ⟨_, rfl⟩
  rw [hw6] at z2 k6
  rw [hQ] at z2
  have z3 := at_new w6 #[.slice none 0 0, .slice none 0 0, .slice none 0 0] 39
  have k7 := kept_alloc (kept_refl w6) (.cells #[.slice none 0 0, .slice none 0 0, .slice none 0 0] 39)
  obtain ⟨w7, hw7⟩ : ∃ u, w6.alloc (.cells #[.slice none 0 0, .slice none 0 0, .slice none 0 0] 39) = u := ⟨_, rfl⟩
  obtain ⟨R, hR⟩ : ∃ u, w6.heap.size = u := ⟨_, rfl⟩
  rw [hw7] at z3 k7
  rw [hR] at z3
  have hPQ : P < Q := by have := at_lt z1; omega
  have hQR : Q < R := by have := at_lt z2; omega
  have st1 := hid (storeR (at_kept z1 (kept_trans k6 k7)) pa aa fa (og_slice encU_ok HA4.out.p) (og_slice encA_ok HA4.out.a) (og_slice encU_ok HA4.out.f))
  have y1 := at_setRow (cs := #[pa, aa, fa]) (at_kept z1 (kept_trans k6 k7))
  have y2 : At (w7.setRow P #[pa, aa, fa]) Q _ 39 := (setRow_other (by omega)).trans (at_kept z2 k7)
  have y3 : At (w7.setRow P #[pa, aa, fa]) R _ 39 := (setRow_other (by omega)).trans z3
  have kk8 : Kept w4 (w7.setRow P #[pa, aa, fa]) := kept_setRow (kept_trans k5 (kept_trans k6 k7)) (by omega) _
  obtain ⟨w8, hw8⟩ : ∃ u, w7.setRow P #[pa, aa, fa] = u := ⟨_, rfl⟩
  rw [hw8] at st1 y1 y2 y3 kk8
  have st2 := hid (storeR y2 pb ab fb (og_slice encU_ok HB4.out.p) (og_slice encA_ok HB4.out.a) (og_slice encU_ok HB4.out.f))
  have x1 : At (w8.setRow Q #[pb, ab, fb]) P _ 39 := (setRow_other (by omega)).trans y1
  have x2 := at_setRow (cs := #[pb, ab, fb]) y2
  have x3 : At (w8.setRow Q #[pb, ab, fb]) R _ 39 := (setRow_other (by omega)).trans y3
  have kk9 : Kept w4 (w8.setRow Q #[pb, ab, fb]) := kept_setRow kk8 (by omega) _
  obtain ⟨w9, hw9⟩ : ∃ u, w8.setRow Q #[pb, ab, fb] = u := ⟨_, rfl⟩
  rw [hw9] at st2 x1 x2 x3 kk9
  have st3 := hid (storeR x3 pc ac fc (og_slice encU_ok HC4.out.p) (og_slice encA_ok HC4.out.a) (og_slice encU_ok HC4.out.f))
  have v1 : At (w9.setRow R #[pc, ac, fc]) P _ 39 := (setRow_other (by omega)).trans x1
  have v2 : At (w9.setRow R #[pc, ac, fc]) Q _ 39 := (setRow_other (by omega)).trans x2
  have v3 := at_setRow (cs := #[pc, ac, fc]) x3
  have kkA : Kept w4 (w9.setRow R #[pc, ac, fc]) := kept_setRow kk9 (by omega) _
  obtain ⟨w10, hw10⟩ : ∃ u, w9.setRow R #[pc, ac, fc] = u := ⟨_, rfl⟩
  rw [hw10] at st3 v1 v2 v3 kkA
  have HP := hid v1
  have HQ := hid v2
  have HR := hid v3
  have HKA := hid kkA
  clear z1 z2 z3 y1 y2 y3 x1 x2 x3 v1 v2 v3 k5 k6 k7 kk8 kk9 kkA hw8 hw9 hw10 hPQ hQR
  have hz := zeroR
  obtain ⟨p0, p1, p2⟩ := at_cells3' HP.out
  have k11 := kept_alloc (kept_refl w10) (.cells #[.int .u8 1] 5)
  have hS1 := sameU_any [1] (by decide) pa _ _ (rg_own encU_ok (og_stays HA4.out.p (kept_trans HKA.out k11))) (rg_alone1 w10 1)
  go_wp2_with (first | (refine wpList_storeR rfl _ _ rfl P rfl _ rfl _ st1.out ?_) | (refine wpList_storeR rfl _ _ rfl Q rfl _ rfl _ st2.out ?_) | (refine wpList_storeR rfl _ _ rfl R rfl _ rfl _ st3.out ?_))
  clear hw5 hw6 hw7 hP hQ hR st1 st2 st3 hz p0 p1 p2
  refine hS1.mono ?_
  rintro e w11 ⟨rfl, kB⟩
  have HK11 := hid (kept_trans k11 kB)
  clear hS1 k11 kB
  obtain ⟨q0, q1, q2⟩ := at_cells3' (at_kept HQ.out HK11.out)
  have k12 := kept_alloc HK11.out (.cells #[.int .u8 2] 5)
  have hS2 := sameU_any [2] (by decide) pb _ _ (rg_own encU_ok (og_stays HB4.out.p (kept_trans HKA.out k12))) (rg_alone1 w11 2)
  go_wp2_with fail
  refine hS2.mono ?_
  rintro e w12 ⟨rfl, kC⟩
  have HK12 := hid (kept_trans k12 kC)
  clear hS2 k12 kC q0 q1 q2 HK11
  obtain ⟨q0, q1, q2⟩ := at_cells3' (at_kept HQ.out HK12.out)
  obtain ⟨r0, r1, r2⟩ := at_cells3' (at_kept HR.out HK12.out)
  have HAb := hid (rg_own encA_ok (og_stays HB4.out.a (kept_trans HKA.out HK12.out)))
  obtain ⟨g, o, cp, rfl⟩ := rg_pos HAb.out (by simp)
  obtain ⟨d0, d1⟩ := rg_A HAb.out (i := 0) rfl
  rw [Nat.zero_mul, Nat.add_zero] at d0 d1
  simp only [List.length_singleton] at q1 HAb
  have heq := eq_self_A ⟨2, 1⟩
  have hzA := zeroA
  have k13 := kept_alloc HK12.out (.cells #[.int .u8 1] 5)
  have hS3 := sameU_any [1] (by decide) fc _ _ (rg_own encU_ok (og_stays HC4.out.f (kept_trans HKA.out k13))) (rg_alone1 w12 1)
  go_wp2_with fail
  refine hS3.mono ?_
  rintro e w13 ⟨rfl, kD⟩
  have HK13 := hid (kept_trans k13 kD)
  clear hS3 k13 kD q0 q1 q2 r0 r1 r2 HK12 d0 d1 heq hzA
  obtain ⟨r0, r1, r2⟩ := at_cells3' (at_kept HR.out HK13.out)
  obtain ⟨xa, xc, rfl, -, -⟩ := og_is encU_ok HC4.out.p
  simp only [List.length_singleton] at r0
  go_wp2_with fail
  go_ret
  exact ⟨rfl, kept_trans HK4.out (kept_trans HKA.out HK13.out)⟩
/- Nil ones. -/
set_option maxHeartbeats 3200000 in
theorem nil_walk {T : Shape Pb} {D : Shape Ds} (hT : ProbeIs T) (hD : DoubtsIs D) (x node inc : Int) (hx : 0 ≤ x) (hx2 : x < 18446744073709551616) (hn : 0 ≤ node) (hn2 : node < 256) (w : World) : Calls Try.prog 7 #[.int .u64 x, .int .u8 node, .int .u32 inc] w fun e w' => e = .returned (.bool true) ∧ Kept w w' := by
  have HF := hid (fixed_any hT w)
  have H1 := hid (fun u => hT.tick_nil x u hx hx2)
  have H2 := hid (fun u => hT.answer_nil node u hn hn2)
  have H3 := hid (fun u => hT.waits_nil u)
  have H4 := hid (fun u => hD.begin_nil node inc x u)
  have H5 := hid (fun u => hD.fin_nil node inc u)
  have H6 := hid (fun u => hD.over_nil x u)
  have hz := zeroR
  clear hT hD hx hx2 hn hn2
  go_enter Try.func7, Try.ntmps7
  go_wp2_with fail
  refine HF.out.mono ?_
  rintro e w1 ⟨rfl, k1⟩
  have HK1 := hid k1
  clear k1 HF
  go_wp2_with fail
  refine (H1.out w1).mono ?_
  rintro e w2 ⟨pv, av, fv, rfl, r2, k2⟩
  have hS := sameR_any ⟨[], [], []⟩ (by decide) (by unfold U8; simp) (by unfold U8; simp) pv av fv (.slice none 0 0) (.slice none 0 0) (.slice none 0 0) w2 r2 ⟨rg_nil _ _ _, rg_nil _ _ _, rg_nil _ _ _⟩
  have HK2 := hid (kept_trans HK1.out k2)
  clear r2 k2 HK1 H1
  go_wp2_with fail
  refine hS.mono ?_
  rintro e w3 ⟨rfl, k3⟩
  have HK3 := hid (kept_trans HK2.out k3)
  clear hS k3 HK2
  go_wp2_with fail
  refine (H2.out w3).mono ?_
  rintro e w4 ⟨rfl, k4⟩
  have HK4 := hid (kept_trans HK3.out k4)
  clear k4 HK3
  go_wp2_with fail
  refine (H3.out w4).mono ?_
  rintro e w5 ⟨a5, c5, rfl, k5⟩
  have HK5 := hid (kept_trans HK4.out k5)
  clear k5 HK4
  go_wp2_with fail
  refine (H4.out w5).mono ?_
  rintro e w6 ⟨rfl, k6⟩
  have HK6 := hid (kept_trans HK5.out k6)
  clear k6 HK5
  go_wp2_with fail
  refine (H5.out w6).mono ?_
  rintro e w7 ⟨rfl, k7⟩
  have HK7 := hid (kept_trans HK6.out k7)
  clear k7 HK6
  go_wp2_with fail
  refine (H6.out w7).mono ?_
  rintro e w8 ⟨a8, c8, rfl, k8⟩
  have HK8 := hid (kept_trans HK7.out k8)
  clear k8 HK7
  go_wp2_with fail
  go_ret
  exact ⟨rfl, HK8.out⟩
end Go.Proofs.Ytgmcjnhijgnadaa
