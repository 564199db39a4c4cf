/- The walk of TalkOften, out of what the landed talk must answer. -/
import Derived.Test.YtalcbahnhiibkaaOftMath
namespace Go.Proofs.Ytalcbahnhiibkaa
open Go.ChangeShapes Go.WideShapes Go.ChangeAt Go.RowKit
set_option linter.unusedVariables false
set_option linter.unusedSimpArgs false
set_option maxRecDepth 100000

theorem look_T {w : World} {S : Nat} {g : Int → Option Int} (h : Gd' mapT w S g) {x : Int} (hx : okU x) : (Instr.lookup 46 (.map (some S)) (.int .u8 x) false).run Try.prog w = .ok (.int .i64 ((g x).getD 0)) w := gm_look1 mapT_ok h (x := x) hx
theorem put_T {w : World} {S : Nat} {g : Int → Option Int} (h : Gd' mapT w S g) {x : Int} (hx : okU x) (y : Int) : ∃ w', (Instr.mapUpdate 46 (.map (some S)) (.int .u8 x) (.int .i64 y)).run Try.prog w = .ok () w' ∧ Gd' mapT w' S (upd g x y) ∧ w.mapTurned w' S := gd_put mapT_ok rfl h hx y
theorem gd_next {ε : Type} {M : MapD Int ε} {w w' : World} {m m1 r c1 cnt : Nat} {g : Int → Option ε} {g1 : Int → Option Nw} {left : Int → Bool} (h : Gd' M w m g) (hr : Gr Try.prog mapL w m1 r g1 c1 left cnt) (gb : w.grownBy w' (some r)) : Gd' M w' m g := by
  obtain ⟨es, clock, hm⟩ := gm_is h
  obtain ⟨a, b, s, d, hi⟩ := gr_iter hr
  refine gd_block h (gb.block m (gm_lt h) (fun e => ?_))
  injection e with e
  subst e
  rw [hm] at hi
  cases hi
theorem next_L {ops : Array Oper} {rest : List Oper} {o : Oper} {a : Act} {w : World} {Q : Exit → Act → World → Prop} {m c : Nat} {g : Int → Option Nw} (hg : o.guard = none) (s : Operand) (hop : o.op = Op.next s false) {r cnt : Nat} {left : Int → Bool} (hs : a.eval s = .pointer (some ⟨r, 0, none⟩)) (h : Gr Try.prog mapL w m r g c left cnt)
    (hDone : cnt = 0 → (∀ x, left x = false) → wpList Try.prog ops Q rest (a.put o.dst (.tuple #[.bool false])) w)
    (hMore : ∀ (x : Int) (y : Nw) (w' : World) (cnt' : Nat), okU x → left x = true → g x = some y → Gr Try.prog mapL w' m r g c (fun q => left q && !decide (q = x)) cnt' → cnt' < cnt → w.grownBy w' (some r) → w'.heap.size = w.heap.size →
      (Instr.entry (.pointer (some ⟨r, 0, none⟩))).run Try.prog w' = .ok (.tuple #[.int .u8 x, .agg #[.int .u8 y.node, .int .u8 y.st, .int .u32 y.inc]]) w' → wpList Try.prog ops Q rest (a.put o.dst (.tuple #[.bool true, .int .u8 x, .agg #[.int .u8 y.node, .int .u8 y.st, .int .u32 y.inc]])) w') : wpList Try.prog ops Q (o :: rest) a w :=
  wpList_gnext mapL_ok hg s hop hs h hDone (fun x y w' cnt' h0 h1 h2 h3 h4 h5 h6 h7 => hMore x y w' cnt' h0 h1 h2 h3 h4 h5 h6 h7)
section
variable {T : Shape} {W w w' : World} {X n k : Nat} {l : List Pc} {F F' : Nat → Prop}
theorem tt_grown (hT : TalkIs T) (h : TT T W X n k l F w) {r : Nat} (hr : Off w F r) (hw : W.heap.size ≤ r) (g : w.grownBy w' (some r)) : TT T W X n k l F w' :=
  ⟨hT.stay h.t (fun b hb => g.block b (hT.lt h.t hb) (fun e => by injection e with e; exact hr.2 (e ▸ hb))), h.g, kept_gr h.k g (fun j hj => by injection hj with hj; omega), h.f⟩
/- What stands side by side: the talk, the map of the last ones, the map of how often they were told. -/
structure Oz (T : Shape) (W : World) (X n k : Nat) (l : List Pc) (F : Nat → Prop) (m1 m2 : Nat) (L : Int → Option Nw) (D : Int → Option Int) (w : World) : Prop where
  t : TT T W X n k l F w
  d1 : Gd' mapL w m1 L
  d2 : Gd' mapT w m2 D
  o1 : Off w F m1
  o2 : Off w F m2
  b1 : W.heap.size ≤ m1
  b2 : W.heap.size ≤ m2
  ne : m1 ≠ m2
theorem oz_kept (hT : TalkIs T) {m1 m2 : Nat} {L : Int → Option Nw} {D : Int → Option Int} (h : Oz T W X n k l F m1 m2 L D w) (kk : Kept w w') : Oz T W X n k l F m1 m2 L D w' := ⟨tt_kept hT h.t kk, gd_kept h.d1 kk, gd_kept h.d2 kk, off_kept h.o1 kk, off_kept h.o2 kk, h.b1, h.b2, h.ne⟩
theorem oz_sd {l' : List Pc} {m1 m2 : Nat} {L : Int → Option Nw} {D : Int → Option Int} (h : Oz T W X n k l F m1 m2 L D w) (ht : TT T W X n k l' F' w') (s : Sd F w F' w') : Oz T W X n k l' F' m1 m2 L D w' := ⟨ht, gd_sd h.d1 h.o1 s, gd_sd h.d2 h.o2 s, off_sd h.o1 s, off_sd h.o2 s, h.b1, h.b2, h.ne⟩
theorem oz_told (hT : TalkIs T) {m1 m2 : Nat} {L : Int → Option Nw} {D D' : Int → Option Int} (h : Oz T W X n k l F m1 m2 L D w) (t : w.mapTurned w' m2) (d : Gd' mapT w' m2 D') : Oz T W X n k l F m1 m2 L D' w' := ⟨tt_turned hT h.t h.o2 h.b2 t, gd_turned h.d1 t h.ne, d, off_turned h.o1 t, off_turned h.o2 t, h.b1, h.b2, h.ne⟩
end
set_option maxHeartbeats 25600000 in
theorem often_walk {T : Shape} (hT : TalkIs T) (t8 m8 : Int) (ht8 : okU t8) (hm8 : okU m8) (xs : List Nw) (hx : ∀ x ∈ xs, NwOk x) (v : Value) (w : World) (h : Rg encN 3 w v xs) : Calls Try.prog 4 #[.int .u8 t8, .int .u8 m8, v] w fun e w' => e = .returned (.bool true) ∧ Kept w w' := by
  have HT := hid hT
  have HF := hid (fun u => fixed_any hT u)
  have HR := hid h
  have HX := hid hx
  obtain ⟨a, cap, rfl, hc1, hc2, -, -⟩ := h
  unfold maxLen at hc2
  have HG : Hid (∀ i, i < xs.length → ∃ y, xs[i]? = some y ∧ NwOk y) := hid (fun i hi => ⟨xs[i], List.getElem?_eq_getElem hi, HX.out _ (List.getElem_mem hi)⟩)
  have HP : Hid (0 < xs.length → ∃ g o, a = some ⟨g, o, none⟩) := hid (fun hp => by
    obtain ⟨g, o, c, e⟩ := rg_pos HR.out hp
    injection e with e1
    exact ⟨g, o, e1⟩)
  obtain ⟨n0, hn0⟩ : ∃ r : Nat, t8 % 8 = (r : Int) := ⟨(t8 % 8).toNat, by have := ht8.1; omega⟩
  obtain ⟨k0, hk0⟩ : ∃ r : Nat, m8 % 8 = (r : Int) := ⟨(m8 % 8).toNat, by have := hm8.1; omega⟩
  have HNK : Hid (n0 < 8 ∧ k0 < 8) := hid (by have := ht8.1; have := hm8.1; omega)
  have e1 : Int.tmod t8 8 = (n0 : Int) := by rw [Int.tmod_eq_emod_of_nonneg ht8.1, hn0]
  have e2 : Int.tmod m8 8 = (k0 : Int) := by rw [Int.tmod_eq_emod_of_nonneg hm8.1, hk0]
  have e3 : IntKind.i64.wrap t8 = t8 := IntWalk.i64_in _ (by have := ht8.1; have := ht8.2; omega)
  have e4 : IntKind.i64.wrap m8 = m8 := IntWalk.i64_in _ (by have := hm8.1; have := hm8.2; omega)
  have e5 : IntKind.i64.wrap (n0 : Int) = (n0 : Int) := IntWalk.i64_in _ (by have := HNK.out; omega)
  have e6 : IntKind.i64.wrap (k0 : Int) = (k0 : Int) := IntWalk.i64_in _ (by have := HNK.out; omega)
  have e7 : IntKind.i64.wrap (1 + (n0 : Int)) = ((1 + n0 : Nat) : Int) := by rw [IntWalk.i64_in _ (by have := HNK.out; omega)]; omega
  have e8 : IntKind.i64.wrap (1 + (k0 : Int)) = ((1 + k0 : Nat) : Int) := by rw [IntWalk.i64_in _ (by have := HNK.out; omega)]; omega
  generalize hn : 1 + n0 = n at *
  generalize hk : 1 + k0 = k at *
  have HNK2 : Hid (1 ≤ n ∧ n ≤ 8 ∧ 1 ≤ k ∧ k ≤ 8) := hid (by have := HNK.out; omega)
  have hN := tt_new (T := T) (W := w) (n := n) (k := k) hT (kept_refl w) HNK2.out.1 (by have := HNK2.out; omega) HNK2.out.2.2.1 (by have := HNK2.out; omega)
  have HTk : Hid (∀ (l : List Pc) (F : Nat → Prop) (X : Nat) (u : World), TT T w X n k l F u → Calls Try.prog 11 #[.pointer (some ⟨X, 0, none⟩)] u fun e w' => ∃ r F', e = .returned r ∧ Rg encN 3 w' r (takeT l k) ∧ TT T w X n k (takeR l n k) F' w' ∧ Sd F u F' w') := hid (fun l F X u ht => tt_take hT ht HNK2.out.1 (by have := HNK2.out; omega) HNK2.out.2.2.1 (by have := HNK2.out; omega))
  have HAd : Hid (∀ (l : List Pc) (F : Nat → Prop) (X : Nat) (u : World) (x : Nw), NwOk x → x.node < 64 → TT T w X n k l F u → Calls Try.prog 12 #[.pointer (some ⟨X, 0, none⟩), .agg #[.int .u8 x.node, .int .u8 x.st, .int .u32 x.inc]] u fun e w' => e = .returned (.int .i64 0) ∧ ∃ F', TT T w X n k (addP l x) F' w' ∧ Sd F u F' w') := hid (fun l F X u x hx hx2 ht => tt_add hT ht HNK2.out.1 (by have := HNK2.out; omega) hx hx2)
  have hz2 := zeroN
  have hmm := @run_makeMap Try.prog
  generalize hm : xs.length = m at *
  clear hm hT hx ht8 hm8 hn0 hk0 hn hk HNK
  by_cases hbig : 100 < m
  · have hd : decide ((100 : Int) < (m : Int)) = true := by simp; omega
    have hbigI : (100 : Int) < (m : Int) := by omega
    clear HTk HAd
    go_enter Try.func4, Try.ntmps4
    go_wp2_with fail
    refine hN.mono ?_
    rintro e w1 ⟨X, F, rfl, t1, -⟩
    have HT1 := hid t1
    clear t1 hN e1 e2 e3 e4 e5 e6 e7 e8
    go_wp2_with fail
    refine (HF.out w1).mono ?_
    rintro e w2 ⟨rfl, k2⟩
    have HK2 := hid (kept_trans HT1.out.k k2)
    clear k2 HT1
    go_wp2_with fail
    refine (HF.out w2).mono ?_
    rintro e w3 ⟨rfl, k3⟩
    have HK3 := hid (kept_trans HK2.out k3)
    clear k3 HK2
    go_wp2_with fail
    go_ret
    exact ⟨rfl, HK3.out⟩
  · have hd : decide ((100 : Int) < (m : Int)) = false := by simp; omega
    go_enter Try.func4, Try.ntmps4
    go_wp2_with fail
    refine hN.mono ?_
    rintro e w1 ⟨X, F, rfl, t1, -⟩
    have HT1 := hid t1
    clear t1 hN e1 e2 e3 e4 e5 e6 e7 e8
    go_wp2_with fail
    refine (HF.out w1).mono ?_
    rintro e w2 ⟨rfl, k2⟩
    have HT2 := hid (tt_kept HT.out HT1.out k2)
    clear k2 HT1 HF
    have HD2 := hid (gd_made (M := mapL) w2)
    have k3 := kept_alloc (kept_refl w2) (.map #[] 0)
    have HT3 := hid (tt_kept HT.out HT2.out k3)
    have HO3 := hid (off_new HT.out HT2.out (Nat.le_refl _) (gm_lt HD2.out))
    have HB3 : Hid (w.heap.size ≤ w2.heap.size) := hid HT2.out.k.2
    clear k3 HT2
    go_wp2_with fail
    generalize w2.alloc (.map #[] 0) = w3 at *
    generalize w2.heap.size = m1 at *
    go_loopw [51] (fun iv wr => ∃ (i : Nat) (l : List Pc) (F' : Nat → Prop) (L : Int → Option Nw), i ≤ m ∧ iv = .int .i64 (i : Int) ∧ Hid (TT T w X n k l F' wr) ∧ Hid (Gd' mapL wr m1 L) ∧ Hid (Off wr F' m1) ∧ Hid (Ad l L)) (fun iv _ => m - (intOf iv).toNat)
    case atStart => exact ⟨0, [], F, _, by omega, rfl, HT3, HD2, HO3, hid ad_nil⟩
    case round =>
      obtain ⟨i, l, F', L, hi, rfl, HTr, HDr, HOr, HAr⟩ := hrel
      clear HT3 HD2 HO3
      by_cases hlt : i < m
      · obtain ⟨y, hy, hyk⟩ := HG.out i hlt
        obtain ⟨g, o, rfl⟩ := HP.out (by omega)
        obtain ⟨c0, c1, c2⟩ := rg_N (rg_kept encN_ok HR.out HTr.out.k) hy
        have HY := hid hyk
        clear hy hyk
        have HZ := hid (at_new wr #[.int .u8 y.node, .int .u8 y.st, .int .u32 y.inc] 33)
        have ka := kept_alloc (kept_refl wr) (.cells #[.int .u8 y.node, .int .u8 y.st, .int .u32 y.inc] 33)
        have HTa := hid (tt_kept HT.out HTr.out ka)
        have HDa := hid (gd_kept HDr.out ka)
        have HOa := hid (off_kept HOr.out ka)
        have HOz := hid (off_new HT.out HTr.out (Nat.le_refl _) (at_lt HZ.out))
        obtain ⟨p0, p1, p2⟩ := at_cells3' HZ.out
        clear ka HTr HDr HOr
        by_cases hnode : y.node < 64
        · have hdn : decide (y.node < (64 : Int)) = true := by simpa using hnode
          have hK := HAd.out l F' X _ y HY.out hnode HTa.out
          go_wp2_with fail
          refine hK.mono ?_
          rintro e wb ⟨rfl, F2, tb, sb⟩
          have HZb : Hid (At wb wr.heap.size #[.int .u8 y.node, .int .u8 y.st, .int .u32 y.inc] 33) := hid ((off_same HOz.out sb).trans HZ.out)
          have HOb := hid (off_sd HOa.out sb)
          obtain ⟨wc, hput, dc, tc⟩ := put_L (gd_sd HDa.out HOa.out sb) y HY.out
          have HTc := hid (tt_turned HT.out tb HOb.out HB3.out tc)
          have HDc := hid dc
          have HOc := hid (off_turned HOb.out tc)
          have HAc := hid (ad_add HAr.out y)
          clear p0 p1 p2 c0 c1 c2 tb sb hK HTa HDa HOa HOz HZ dc tc HOb HAr
          obtain ⟨p0, p1, p2⟩ := at_cells3' HZb.out
          go_wp2_with fail
          go_roundw
          case rel => exact ⟨i + 1, _, _, _, by omega, by go_num, HTc, HDc, HOc, HAc⟩
          case measure => simp [intOf]; omega
        · have hdn : decide (y.node < (64 : Int)) = false := by simpa using hnode
          have hK := tt_bad HT.out HTa.out HY.out (by omega)
          go_wp2_with fail
          refine hK.mono ?_
          rintro e wb ⟨rfl, tb, kb⟩
          have HTc := hid tb
          have HDc := hid (gd_kept HDa.out kb)
          have HOc := hid (off_kept HOa.out kb)
          clear p0 p1 p2 c0 c1 c2 tb kb hK HTa HDa HOa HOz HZ
          go_wp2_with fail
          go_roundw
          case rel => exact ⟨i + 1, _, _, _, by omega, by go_num, HTc, HDc, HOc, HAr⟩
          case measure => simp [intOf]; omega
      · have he : i = m := by omega
        subst he
        have HDt := hid (gd_made (M := mapT) wr)
        have k4 := kept_alloc (kept_refl wr) (.map #[] 0)
        have HZ0 : Hid (Oz T w X n k l F' m1 wr.heap.size L (fun _ => none) (wr.alloc (.map #[] 0))) := hid ⟨tt_kept HT.out HTr.out k4, gd_kept HDr.out k4, HDt.out, off_kept HOr.out k4, off_new HT.out HTr.out (Nat.le_refl _) (gm_lt HDt.out), HB3.out, HTr.out.k.2, by have := gm_lt HDr.out; omega⟩
        have HF0 := hid (of_start (n := n) HAr.out)
        have HL0 := hid (lf_start HTr.out.g)
        have hw1 : IntKind.i64.wrap (64 * (n : Int)) = ((64 * n : Nat) : Int) := by rw [IntWalk.i64_in _ (by have := HNK2.out; omega)]; omega
        have hw2 : IntKind.i64.wrap (((64 * n : Nat) : Int) + 1) = ((64 * n + 1 : Nat) : Int) := by rw [IntWalk.i64_in _ (by have := HNK2.out; omega)]; omega
        clear k4 HDt HTr HDr HOr HAr
        generalize hN64 : 64 * n = q at *
        have hq8 : q ≤ 512 := by have := HNK2.out; omega
        go_wp2_with fail
        clear hw1 hw2 hmm
        generalize wr.alloc (.map #[] 0) = w4 at *
        generalize wr.heap.size = m2 at *
        go_loopw [68] (fun rv wq => ∃ (r : Nat) (l' : List Pc) (F2 : Nat → Prop) (D : Int → Option Int), r ≤ q + 1 ∧ rv = .int .i64 (r : Int) ∧ Hid (Oz T w X n k l' F2 m1 m2 L D wq) ∧ Hid (Of n l' L D) ∧ Hid (Lf n l' r)) (fun rv _ => q + 1 - (intOf rv).toNat)
        case atStart => exact ⟨0, l, F', _, by omega, rfl, HZ0, HF0, HL0⟩
        case round =>
          obtain ⟨r, l', F2, D, hr, rfl, HZr, HFr, HLr⟩ := hrel
          clear HZ0 HF0 HL0
          by_cases hrq : r < q + 1
          · have hrI : (r : Int) < (q : Int) + 1 := by omega
            have hrI2 : (r : Int) < ((q + 1 : Nat) : Int) := by omega
            have hK := HTk.out l' F2 X _ HZr.out.t
            go_wp2_with fail
            refine hK.mono ?_
            rintro e wc ⟨rv, F3, rfl, rr, tc, sc⟩
            have HZc := hid (oz_sd HZr.out tc sc)
            have HRc := hid rr
            have HFc := hid (of_take HFr.out HZr.out.t.g k)
            have HLc := hid (lf_next HZr.out.t.g HLr.out HNK2.out.2.2.1)
            have HTo : Hid (∀ x ∈ takeT l' k, L x.node = some x ∧ NwOk x) := hid (fun x hx => ⟨la_told HFr.out.a hx, told_ok HZr.out.t.g hx⟩)
            have HLow : Hid (∀ j x, (takeT l' k)[j]? = some x → ∃ c : Nat, c < n ∧ (tellD D ((takeT l' k).take j) x.node).getD 0 = (c : Int)) := hid (fun j x hx => told_low HFr.out HZr.out.t.g hx)
            have HTl : Hid ((takeT l' k).length ≤ 8) := hid (by have := take_len l' k; have := HNK2.out; omega)
            clear tc sc rr hK HZr HFr HLr
            generalize takeT l' k = tl at *
            generalize takeR l' n k = l2 at *
            obtain ⟨ra, rc, rfl, -, -, -, -⟩ := HRc.out
            have HGt : Hid (∀ j, j < tl.length → ∃ x, tl[j]? = some x) := hid (fun j hj => ⟨tl[j], List.getElem?_eq_getElem hj⟩)
            have HPt : Hid (0 < tl.length → ∃ g o, ra = some ⟨g, o, none⟩) := hid (fun hp => by
              obtain ⟨g, o, c, e⟩ := rg_pos HRc.out hp
              injection e with e1
              exact ⟨g, o, e1⟩)
            have HTT : Hid (tl.take tl.length = tl) := hid List.take_length
            have hq3 : tl.length ≤ 8 := HTl.out
            generalize hql : tl.length = z at *
            clear hql
            go_wp2_with fail
            go_loopw [73] (fun jv wq => ∃ j : Nat, j ≤ z ∧ jv = .int .i64 (j : Int) ∧ Hid (Oz T w X n k l2 F3 m1 m2 L (tellD D (tl.take j)) wq) ∧ Hid (Rg encN 3 wq (.slice ra z rc) tl)) (fun jv _ => z - (intOf jv).toNat)
            case atStart => exact ⟨0, Nat.zero_le _, rfl, HZc, HRc⟩
            case round =>
              obtain ⟨j, hj, rfl, HZq, HRq⟩ := hrel
              clear HZc HRc
              by_cases hjz : j < z
              · obtain ⟨x, hx⟩ := HGt.out j hjz
                obtain ⟨g2, o2, rfl⟩ := HPt.out (by omega)
                obtain ⟨c0, c1, c2⟩ := rg_N HRq.out hx
                obtain ⟨hLx, hxk⟩ := HTo.out x (List.mem_of_getElem? hx)
                obtain ⟨c, hcn, hce⟩ := HLow.out j x hx
                have kq := kept_alloc (kept_refl wr) (.cells #[.int .u8 x.node, .int .u8 x.st, .int .u32 x.inc] 33)
                have HZ3 := hid (oz_kept HT.out HZq.out kq)
                have HR3 := hid (rg_kept encN_ok HRq.out kq)
                obtain ⟨p0, p1, p2⟩ := at_cells3' (at_new wr #[.int .u8 x.node, .int .u8 x.st, .int .u32 x.inc] 33)
                have hl1 := look_L HZ3.out.d1 (x := x.node) hxk.1 hLx
                have hl2 := look_T HZ3.out.d2 (x := x.node) hxk.1
                rw [hce] at hl2
                have heq := eq_self_N x
                have hwc : IntKind.i64.wrap ((c : Int) + 1) = (c : Int) + 1 := IntWalk.i64_in _ (by have := HNK2.out; omega)
                obtain ⟨wz, hput, dz, tz⟩ := put_T HZ3.out.d2 (x := x.node) hxk.1 ((c : Int) + 1)
                have HZ4 : Hid (Oz T w X n k l2 F3 m1 m2 L (tellD D (tl.take (j + 1))) wz) := hid (by
                  refine oz_told HT.out HZ3.out tz ?_
                  rw [take_next hx, tellD_more, hce]
                  exact dz)
                have HR4 := hid (rg_turned HR3.out tz)
                clear hx hLx hxk kq dz tz HZ3 HR3 HZq HRq hce hcn
                go_wp2_with fail
                go_roundw
                case rel => exact ⟨j + 1, by omega, by go_num, HZ4, HR4⟩
                case measure => simp [intOf]; omega
              · have he : j = z := by omega
                subst he
                rw [HTT.out] at HZq
                go_wp2_with fail
                go_roundw
                case rel => exact ⟨r + 1, l2, F3, _, by omega, by go_num, HZq, HFc, HLc⟩
                case measure => simp [intOf]; omega
          · have he : r = q + 1 := by omega
            subst he
            have hq1 : decide (((q + 1 : Nat) : Int) < (q : Int) + 1) = false := by simp
            have hq2 : decide (((q + 1 : Nat) : Int) < ((q + 1 : Nat) : Int)) = false := by simp
            have hnil : l' = [] := by
              have := HLr.out
              rw [← hN64] at this
              exact lf_end this
            subst hnil
            go_wp2_with (at_range; go_must (refine wpList_grange mapL_ok rfl (.tmp 90) rfl rfl HZr.out.d1 ?_; intro w5 hr5 hk5))
            have HG5 := hid hr5
            have HT5 := hid (tt_kept HT.out HZr.out.t hk5)
            have HD5 := hid (gd_kept HZr.out.d2 hk5)
            have HO5 := hid (off_new HT.out HZr.out.t (Nat.le_refl _) (gr_lt hr5))
            have HB5 : Hid (w.heap.size ≤ wr.heap.size) := hid HZr.out.t.k.2
            clear hr5 hk5 HZr HLr hq1 hq2
            go_frame
            generalize wr.heap.size = rb at *
            go_loopw [92] (fun nv wq => ∃ (left : Int → Bool) (cnt : Nat), Hid (Gr Try.prog mapL wq m1 rb L (dom L) left cnt) ∧ Hid (TT T w X n k [] F2 wq) ∧ Hid (Gd' mapT wq m2 D) ∧ Hid (Off wq F2 rb)) (fun _ wq => wq.rangeLeft m1 rb)
            case atStart => exact ⟨_, _, HG5, HT5, HD5, HO5⟩
            case round =>
              obtain ⟨left, cnt, HG, HTq, HDq, HOq⟩ := hrel
              clear HG5 HT5 HD5 HO5
              go_wp2_with (at_next; go_must (refine next_L rfl (.tmp 91) rfl rfl HG.out ?_ ?_))
              · intro _ _
                have hL := tt_len HT.out HTq.out
                go_wp2_with fail
                refine hL.mono ?_
                rintro e w7 ⟨rfl, t7, k7⟩
                have HK7 := hid t7.k
                have hl1 : (Builtin.len_ #[46] 3 #[.map (some m2)]).run Try.prog w7 = .ok (.int .i64 (dom D : Int)) w7 := gm_len mapT_ok (gd_kept HDq.out k7) 3
                have hl2 : (Builtin.len_ #[45] 3 #[.map (some m1)]).run Try.prog w7 = .ok (.int .i64 (dom L : Int)) w7 := gm_len mapL_ok (gm_kept (gr_map HG.out) k7) 3
                rw [of_dom HFr.out] at hl1
                generalize dom L = dd at *
                have hee : ((dd : Int) == (dd : Int)) = true := by simp
                clear hL t7 k7 HG HTq HDq HOq
                simp only [List.length_nil]
                go_wp2_with fail
                go_ret
                exact ⟨rfl, HK7.out⟩
              · intro x y w6 cnt6 hxk hlx hgx hgr6 hlt6 hgb6 hsz6 hen6
                have HG6 := hid hgr6
                have HT6 := hid (tt_grown HT.out HTq.out HOq.out HB5.out hgb6)
                have HD6 := hid (gd_next HDq.out HG.out hgb6)
                have HO6 : Hid (Off w6 F2 rb) := hid ⟨by have := HOq.out.1; omega, HOq.out.2⟩
                have HMe : Hid (cnt6 < wr.rangeLeft m1 rb) := hid (by rw [gr_left HG.out]; exact hlt6)
                have hl2 := look_T HD6.out (x := x) hxk
                rw [of_end HFr.out (by rw [hgx]; rfl)] at hl2
                have hl3 : (Instr.lookup 46 (.map (some m2)) (.int .u8 x) false).run Try.prog w6 = .ok (.int .i64 (n : Int)) w6 := hl2
                have hne : ((n : Int) != (n : Int)) = false := by simp
                clear hl2 hgr6 hgb6 hlt6 hsz6 hlx hgx HG HTq HDq HOq
                go_wp2_with fail
                refine ⟨?_, by rw [gr_left HG6.out]; exact HMe.out⟩
                exact ⟨_, _, _, _, _, _, _, _, _, _, _, ⟨_, cnt6, HG6, HT6, HD6, HO6⟩, rfl⟩
end Go.Proofs.Ytalcbahnhiibkaa
