/- The walk of ProbeFails, out of what the landed probe must answer. -/
import Derived.Test.YtgmcjnhijgnadaaPrFixed
import Derived.Test.YtgmcjnhijgnadaaFailMath
import Derived.Handy
namespace Go.Proofs.Ytgmcjnhijgnadaa
open Go.ChangeShapes Go.WideShapes Go.ChangeAt Go.RowKit
set_option linter.unusedVariables false
set_option linter.unusedSimpArgs false
set_option maxRecDepth 100000

theorem cells4o {w : World} {X T : Nat} {a0 a1 a2 a3 : Value} (h : At w X #[a0, a1, a2, a3] T) : w.cell? ⟨X, 0, none⟩ = some a0 ∧ w.cell? ⟨X, 1, none⟩ = some a1 ∧ w.cell? ⟨X, 2, none⟩ = some a2 ∧ w.cell? ⟨X, 3, none⟩ = some a3 := ⟨at_cell h 0, at_cell h 1, at_cell h 2, at_cell h 3⟩
/- A call as it is handed in. -/
def OpOk (w : World) (o : Opn) : Prop := (0 ≤ o.x ∧ o.x < 18446744073709551616) ∧ okU o.node ∧ U8 o.hs ∧ Rg encU 1 w (.slice o.hv o.hs.length o.hc) o.hs
theorem next_T {ops : Array Oper} {rest : List Oper} {o : Oper} {a : Act} {w : World} {Q : Exit → Act → World → Prop} {m c : Nat} {g : Int → Option Int} (hg : o.guard = none) (s : Operand) (hop : o.op = Op.next s false) {r cnt : Nat} {left : Int → Bool} (hs : a.eval s = .pointer (some ⟨r, 0, none⟩)) (h : Gr Try.prog mapT w m r g c left cnt)
    (hDone : cnt = 0 → (∀ x, left x = false) → wpList Try.prog ops Q rest (a.put o.dst (.tuple #[.bool false])) w)
    (hMore : ∀ (x : Int) (y : Int) (w' : World) (cnt' : Nat), okU x → left x = true → g x = some y → Gr Try.prog mapT w' m r g c (fun q => left q && !decide (q = x)) cnt' → cnt' < cnt → w.grownBy w' (some r) → w'.heap.size = w.heap.size →
      (Instr.entry (.pointer (some ⟨r, 0, none⟩))).run Try.prog w' = .ok (.tuple #[.int .u8 x, .int .i64 y]) w' → wpList Try.prog ops Q rest (a.put o.dst (.tuple #[.bool true, .int .u8 x, .int .i64 y])) w') : wpList Try.prog ops Q (o :: rest) a w :=
  wpList_gnext mapT_ok hg s hop hs h hDone (fun x y w' cnt' h0 h1 h2 h3 h4 h5 h6 h7 => hMore x y w' cnt' h0 h1 h2 h3 h4 h5 h6 h7)
/- What stands side by side: the probe, the map of whom one waits for. -/
structure Fl (T : Shape Pb) (W : World) (X : Nat) (p : Pb) (F : Nat → Prop) (m : Nat) (S : Int → Option Int) (w : World) : Prop where
  t : TT T W X p F w
  d : Gd' mapT w m S
  o : Off w F m
  b : W.heap.size ≤ m
section
variable {T : Shape Pb} {W w w' : World} {X m : Nat} {p p' : Pb} {F F' : Nat → Prop} {S S' : Int → Option Int}
theorem fl_kept (hT : ProbeIs T) (h : Fl T W X p F m S w) (k : Kept w w') : Fl T W X p F m S w' := ⟨tt_kept hT.obj h.t k, gd_kept h.d k, off_kept h.o k, h.b⟩
theorem fl_sd (h : Fl T W X p F m S w) (t : TT T W X p' F' w') (d : Sd F w F' w') : Fl T W X p' F' m S w' := ⟨t, gd_block h.d (off_same h.o d), off_sd h.o d, h.b⟩
theorem fl_turned (hT : ProbeIs T) (h : Fl T W X p F m S w) (t : w.mapTurned w' m) (d : Gd' mapT w' m S') : Fl T W X p F m S' w' := ⟨tt_turned hT.obj h.t h.o h.b t, d, off_turned h.o t, h.b⟩
end
theorem at_turn' {w w' : World} {Z U m : Nat} {cs : Array Value} (h : At w Z cs U) (t : w.mapTurned w' m) : At w' Z cs U := at_turned h t
theorem rg_next {α : Type} {enc : α → List Value} {c : Nat} {w w' : World} {v : Value} {xs : List α} {m1 r c1 cnt : Nat} {g1 : Int → Option Int} {left : Int → Bool} (h : Rg enc c w v xs) (hr : Gr Try.prog mapT w m1 r g1 c1 left cnt) (gb : w.grownBy w' (some r)) : Rg enc c w' v xs := by
  obtain ⟨a, cap, rfl, h1, h2, h3, h4⟩ := h
  refine ⟨a, cap, rfl, h1, h2, h3, fun hp => ?_⟩
  obtain ⟨g, o, rfl, hc⟩ := h4 hp
  refine ⟨g, o, rfl, fun i x j u hx hu => ?_⟩
  have h5 := hc i x j u hx hu
  obtain ⟨b1, b2, b3, b4, hi⟩ := gr_iter hr
  have hne : g ≠ r := by
    rintro rfl
    unfold World.cell? at h5
    simp [hi] at h5
  exact (World.cell?_of_block (w := w) (gb.block g (gcell_lt h5) (fun e => hne (Option.some.inj e)))).trans h5
theorem at_next {w w' : World} {Z U : Nat} {cs : Array Value} {m1 r c1 cnt : Nat} {g1 : Int → Option Int} {left : Int → Bool} (h : At w Z cs U) (hr : Gr Try.prog mapT w m1 r g1 c1 left cnt) (gb : w.grownBy w' (some r)) : At w' Z cs U := by
  obtain ⟨b1, b2, b3, b4, hi⟩ := gr_iter hr
  have hne : Z ≠ r := by
    rintro rfl
    unfold At at h
    rw [h] at hi
    cases hi
  exact (gb.block Z (at_lt h) (fun e => hne (Option.some.inj e))).trans h
set_option maxHeartbeats 51200000 in
theorem fails_walk {T : Shape Pb} (hT : ProbeIs T) (s8 n8 : Int) (hs8 : okU s8) (hn8 : okU n8) (ops : List Opn) (v : Value) (w : World) (hx : ∀ o ∈ ops, OpOk w o) (h : Rg encO 4 w v ops) : Calls Try.prog 5 #[.int .u8 s8, .int .u8 n8, v] w fun e w' => e = .returned (.bool true) ∧ Kept w w' := by
  have HT := hid hT
  have HF := hid (fun u => fixed_any hT u)
  have HR := hid h
  have HX := hid hx
  obtain ⟨a, cap, rfl, hc1, hc2, -, -⟩ := h
  unfold maxLen at hc2
  have HG : Hid (∀ i, i < ops.length → ∃ y, ops[i]? = some y ∧ OpOk w y) := hid (fun i hi => ⟨ops[i], List.getElem?_eq_getElem hi, HX.out _ (List.getElem_mem hi)⟩)
  have HP : Hid (0 < ops.length → ∃ g o, a = some ⟨g, o, none⟩) := hid (fun hp => by
    obtain ⟨g, o, c, e⟩ := rg_pos HR.out hp
    injection e with e1
    exact ⟨g, o, e1⟩)
  obtain ⟨k0, hk0⟩ : ∃ r : Nat, n8 % 10 = (r : Int) := ⟨(n8 % 10).toNat, by have := hn8.1; omega⟩
  have e1 : Int.tmod n8 10 = (k0 : Int) := by rw [Int.tmod_eq_emod_of_nonneg hn8.1, hk0]
  have e2 : IntKind.i64.wrap n8 = n8 := IntWalk.i64_in _ (by have := hn8.1; have := hn8.2; omega)
  have e3 : IntKind.i64.wrap (k0 : Int) = (k0 : Int) := IntWalk.i64_in _ (by omega)
  have e4 : IntKind.i64.wrap (2 + (k0 : Int)) = ((2 + k0 : Nat) : Int) := by rw [IntWalk.i64_in _ (by omega)]; omega
  have hk10 : k0 < 10 := by omega
  generalize hk : 2 + k0 = k at *
  have hk2 : 2 ≤ k ∧ k ≤ 11 := by omega
  obtain ⟨s0, hs0⟩ : ∃ r : Nat, s8 % (k : Int) = (r : Int) := ⟨(s8 % (k : Int)).toNat, by have := Int.emod_nonneg s8 (show (k : Int) ≠ 0 by omega); omega⟩
  have hsk : s0 < k := by have := Int.emod_lt_of_pos s8 (show (0 : Int) < (k : Int) by omega); omega
  have e5 : IntKind.u8.wrap (k : Int) = (k : Int) := by rw [IntKind.wrap_u8]; omega
  have e6 : Int.tmod s8 (k : Int) = (s0 : Int) := by rw [Int.tmod_eq_emod_of_nonneg hs8.1, hs0]
  have e7 : IntKind.u8.wrap (s0 : Int) = (s0 : Int) := by rw [IntKind.wrap_u8]; omega
  have e8 : ((k : Int) == 0) = false := by simp; omega
  have e9 : ¬ ((k : Int) = 0) := by omega
  have hN := pt_new (T := T) (W := w) (self := (s0 : Int)) (n := k) hT (kept_refl w) (by omega) (by omega) (by omega) (by omega)
  have HG0 := hid (gp_new (self := (s0 : Int)) (n := k) (by omega) (by omega) (by omega) (by omega))
  have HK2 : Hid (2 ≤ k ∧ k ≤ 11) := hid hk2
  have hz := zeroO
  have hzR := zeroR
  have hmm := @run_makeMap Try.prog
  generalize hm : ops.length = m at *
  clear hm hT hx hs8 hn8 hk0 hk10 hk hk2 hs0 hsk
  go_enter Try.func5, Try.ntmps5
  go_wp2_with fail
  refine hN.mono ?_
  rintro e w1 ⟨X, F, rfl, t1, -⟩
  have HT1 := hid t1
  clear t1 hN e1 e2 e3 e4 e5 e6 e7 e8 e9
  go_wp2_with fail
  refine (HF.out w1).mono ?_
  rintro e w2 ⟨rfl, k2⟩
  have HT2 := hid (tt_kept HT.out.obj HT1.out k2)
  clear k2 HT1 HF
  have HD2 := hid (gd_made (M := mapT) w2)
  have k3 := kept_alloc (kept_refl w2) (.map #[] 0)
  have HFl : Hid (Fl T w X (newP (s0 : Int) k) F w2.heap.size (wl (newP (s0 : Int) k).waits) (w2.alloc (.map #[] 0))) := hid ⟨tt_kept HT.out.obj HT2.out k3, HD2.out, off_new HT.out.obj HT2.out (Nat.le_refl _) (gm_lt HD2.out), HT2.out.k.2⟩
  clear k3 HD2
  go_wp2_with fail
  generalize w2.alloc (.map #[] 0) = w3 at *
  generalize w2.heap.size = mb at *
  clear HT2
  go_loopw [11, 49] (fun tv iv wr => ∃ (i : Nat) (p : Pb) (F' : Nat → Prop), i ≤ m ∧ iv = .int .i64 (i : Int) ∧ tv = .int .i64 (p.ticks : Int) ∧ Hid (p.ticks ≤ i ∧ p.ticks ≤ 151 ∧ p.n = k) ∧ Hid (Gp p) ∧ Hid (Fl T w X p F' mb (wl p.waits) wr)) (fun _ iv _ => m - (intOf iv).toNat)
  case atStart => exact ⟨0, _, F, by omega, rfl, rfl, hid ⟨Nat.le_refl _, Nat.zero_le _, rfl⟩, HG0, HFl⟩
  case round =>
    obtain ⟨i, p, F', hi, rfl, rfl, HI, HGp, HFr⟩ := hrel
    clear HFl
    by_cases hlt : i < m
    · obtain ⟨y, hy, hyk⟩ := HG.out i hlt
      obtain ⟨gg, oo, rfl⟩ := HP.out (by omega)
      obtain ⟨c0, c1, c2, c3⟩ := rg_O (rg_kept encO_ok HR.out HFr.out.t.k) hy
      have HY := hid hyk
      clear hy hyk
      have HZ := hid (at_new wr #[.int .i64 y.kind, .int .u64 y.x, .slice y.hv y.hs.length y.hc, .int .u8 y.node] 36)
      have ka := kept_alloc (kept_refl wr) (.cells #[.int .i64 y.kind, .int .u64 y.x, .slice y.hv y.hs.length y.hc, .int .u8 y.node] 36)
      have HFa := hid (fl_kept HT.out HFr.out ka)
      have HOa := hid (off_new HT.out.obj HFr.out.t (Nat.le_refl _) (at_lt HZ.out))
      obtain ⟨p0, p1, p2, p3⟩ := cells4o HZ.out
      clear ka HFr
      by_cases hbig : 150 < i
      · have hbigI : (150 : Int) < (i : Int) := by omega
        have hW := pt_waits HT.out HFa.out.t HGp.out
        go_wp2_with fail
        refine hW.mono ?_
        rintro e wz ⟨rz, rfl, rr, tz, kz⟩
        obtain ⟨za, zc, rfl, -, -, -, -⟩ := rr
        have hl := len_T (gd_kept HFa.out.d kz)
        rw [gp_dom HGp.out] at hl
        have HKz := hid tz.k
        clear hW tz kz
        generalize (nodW p).length = ln at *
        have hee : ((ln : Int) == (ln : Int)) = true := by simp
        go_wp2_with fail
        go_ret
        exact ⟨rfl, HKz.out⟩
      · have hd : decide ((150 : Int) < (i : Int)) = false := by simp; omega
        by_cases hlong : 100 < y.hs.length
        · have hd2 : decide ((100 : Int) < (y.hs.length : Int)) = true := by simp; omega
          have hd3 : (100 : Int) < (y.hs.length : Int) := by omega
          have hW := pt_waits HT.out HFa.out.t HGp.out
          go_wp2_with fail
          refine hW.mono ?_
          rintro e wz ⟨rz, rfl, rr, tz, kz⟩
          obtain ⟨za, zc, rfl, -, -, -, -⟩ := rr
          have hl := len_T (gd_kept HFa.out.d kz)
          rw [gp_dom HGp.out] at hl
          have HKz := hid tz.k
          clear hW tz kz
          generalize (nodW p).length = ln at *
          have hee : ((ln : Int) == (ln : Int)) = true := by simp
          go_wp2_with fail
          go_ret
          exact ⟨rfl, HKz.out⟩
        · have hd2 : decide ((100 : Int) < (y.hs.length : Int)) = false := by simp; omega
          obtain ⟨wa, hwa⟩ : ∃ wa, wr.alloc (.cells #[.int .i64 y.kind, .int .u64 y.x, .slice y.hv y.hs.length y.hc, .int .u8 y.node] 36) = wa := ⟨_, rfl⟩
          obtain ⟨Z, hZ⟩ : ∃ Z, wr.heap.size = Z := ⟨_, rfl⟩
          rw [hwa, hZ] at HZ p0 p1 p2 p3
          rw [hwa] at HFa
          rw [hwa, hZ] at HOa
          by_cases hk0 : y.kind = 0
          · have hb0 : (y.kind != 0) = false := by simpa using hk0
            clear hk0
            have hw1 : IntKind.i64.wrap ((p.ticks : Int) + 1) = ((p.ticks + 1 : Nat) : Int) := by have := HI.out; rw [IntWalk.i64_in _ (by omega)]; omega
            have hK := pt_tick HT.out HFa.out.t HGp.out (by have := HI.out; omega) HY.out.1.1 HY.out.1.2 HY.out.2.2.1 (by omega) (rg_kept encU_ok HY.out.2.2.2 HFa.out.t.k)
            have HTR : Hid (tickR p y.x y.hs = ⟨[pingT p y.x], asksW p.self p.n y.x y.hs (p.ticks + 1) p.waits, failW (p.ticks + 1) p.waits⟩) := hid (by
              unfold tickR
              rw [if_neg (by have := HI.out; have := HK2.out; omega)])
            have HTP : Hid ((tickP p y.x).waits = waitT (leftW (p.ticks + 1) p.waits) (pingT p y.x) (p.ticks + 1) ∧ (tickP p y.x).ticks = p.ticks + 1 ∧ (tickP p y.x).n = k) := hid (by
              unfold tickP
              rw [if_neg (by have := HI.out; have := HK2.out; omega)]
              exact ⟨rfl, rfl, HI.out.2.2⟩)
            have HPo : Hid (okU (pingT p y.x)) := hid (by
              have h1 := others_mem.1 (pingT_mem HGp.out y.x (by have := HI.out; have := HK2.out; omega))
              have h2 := HGp.out.n2
              exact ⟨h1.1, by omega⟩)
            have HGt := hid (gp_tick HGp.out y.x)
            have HFo := hid (fail_once HGp.out (p.ticks + 1))
            have HF2 : Hid (∀ x ∈ failW (p.ticks + 1) p.waits, ∃ s : Nat, wl p.waits x = some (s : Int) ∧ s + 2 = p.ticks + 1 ∧ okU x) := hid (fun x hx => fail_two HGp.out hx)
            have HWL := hid (wl_left (t := p.ticks + 1) HGp.out.once)
            have HL2 : Hid (∀ x s, wl (leftW (p.ticks + 1) p.waits) x = some s → ((p.ticks + 1 : Nat) : Int) < s + 2 ∧ 0 ≤ s ∧ s ≤ ((p.ticks + 1 : Nat) : Int)) := hid (fun x s h => left_three HGp.out h)
            have HWW := hid (wl_wait (leftW (p.ticks + 1) p.waits) (pingT p y.x) (p.ticks + 1))
            have HWs := hid (wl_some (leftW (p.ticks + 1) p.waits) (pingT p y.x))
            have HIt : Hid (p.ticks + 1 ≤ i + 1 ∧ p.ticks + 1 ≤ 151) := hid (by have := HI.out; omega)
            rw [HTR.out] at hK
            generalize p.ticks + 1 = tk at *
            go_wp2_with fail
            refine hK.mono ?_
            rintro e wb ⟨pv, av, fv, F2, rfl, rb, tb, sb⟩
            obtain ⟨xa, xc, rfl, -, -⟩ := og_is encA_ok rb.a
            generalize (Rd.asks ⟨[pingT p y.x], asksW p.self p.n y.x y.hs tk p.waits, failW tk p.waits⟩).length = la at *
            have HFb := hid (fl_sd HFa.out tb sb)
            have kb := kept_alloc (kept_refl wb) (.cells #[pv, .slice xa la xc, fv] 39)
            have HZc := hid (at_new wb #[pv, .slice xa la xc, fv] 39)
            have HFc := hid (fl_kept HT.out HFb.out kb)
            have HPv := hid (rg_kept encU_ok (rg_own encU_ok rb.p) kb)
            have HFv := hid (rg_kept encU_ok (rg_own encU_ok rb.f) kb)
            clear tb sb rb kb hK HFa HFb HOa HZ p0 p1 p2 p3 c0 c1 c2 c3 hwa hZ hw1 HTR
            rw [← delI_nil (wl p.waits)] at HFc
            generalize hwb : wb.alloc (.cells #[pv, .slice xa la xc, fv] 39) = wc at *
            generalize hZr : wb.heap.size = Zr at *
            obtain ⟨fa, fc, rfl, hb1, hb2, -, -⟩ := HFv.out
            unfold maxLen at hb2
            obtain ⟨pa, pc, rfl, -, -, -, -⟩ := HPv.out
            replace HPv : Hid (Rg encU 1 wc (.slice pa 1 pc) [pingT p y.x]) := HPv
            replace HZc : Hid (At wc Zr #[.slice pa 1 pc, .slice xa la xc, .slice fa (failW tk p.waits).length fc] 39) := HZc
            replace hwb : wb.alloc (.cells #[.slice pa 1 pc, .slice xa la xc, .slice fa (failW tk p.waits).length fc] 39) = wc := hwb
            obtain ⟨q0, q1, q2⟩ := at_cells3' HZc.out
            have hq3 : (failW tk p.waits).length ≤ 9223372036854775807 := by
              have : (failW tk p.waits).length ≤ fc := hb1
              omega
            clear hb1 hb2
            generalize tickP p y.x = p' at *
            generalize pingT p y.x = pg at *
            generalize failW tk p.waits = fl at *
            generalize leftW tk p.waits = lf at *
            generalize wl p.waits = S0 at *
            have HGf : Hid (∀ j, j < fl.length → ∃ x, fl[j]? = some x) := hid (fun j hj => ⟨fl[j], List.getElem?_eq_getElem hj⟩)
            have HPf : Hid (0 < fl.length → ∃ g o, fa = some ⟨g, o, none⟩) := hid (fun hp => by
              obtain ⟨g, o, c, e⟩ := rg_pos HFv.out hp
              injection e with e1
              exact ⟨g, o, e1⟩)
            have HTT : Hid (fl.take fl.length = fl) := hid List.take_length
            generalize hql : fl.length = q at *
            clear hql
            go_wp2_with fail
            clear hwb hZr q0 q1 q2
            go_loopw [92] (fun jv wq => ∃ j : Nat, j ≤ q ∧ jv = .int .i64 (j : Int) ∧ Hid (Fl T w X p' F2 mb (delI S0 (fl.take j)) wq) ∧ Hid (Rg encU 1 wq (.slice fa q fc) fl) ∧ Hid (Rg encU 1 wq (.slice pa 1 pc) [pg]) ∧ Hid (At wq Zr #[.slice pa 1 pc, .slice xa la xc, .slice fa q fc] 39)) (fun jv _ => q - (intOf jv).toNat)
            case atStart => exact ⟨0, Nat.zero_le _, rfl, HFc, HFv, HPv, HZc⟩
            case round =>
              obtain ⟨j, hj, rfl, HFq, HFw, HPw, HZw⟩ := hrel
              clear HFc HFv HPv HZc
              by_cases hjq : j < q
              · obtain ⟨x, hx⟩ := HGf.out j hjq
                obtain ⟨g3, o3, rfl⟩ := HPf.out (by omega)
                have c0 := rg_U HFw.out hx
                obtain ⟨s, hs1, hs2, hxk⟩ := HF2.out x (List.mem_of_getElem? hx)
                have hno : delI S0 (fl.take j) x = some (s : Int) := by unfold delI; rw [if_neg (once_at HFo.out hx)]; exact hs1
                have hl1 := look2_T HFq.out.d hxk
                rw [hno] at hl1
                have hl2 : (Instr.lookup 53 (.map (some mb)) (.int .u8 x) true).run Try.prog wr = .ok (.tuple #[.int .i64 (s : Int), .bool true]) wr := hl1
                have hsb : IntKind.i64.wrap ((tk : Int) - (s : Int)) = (tk : Int) - (s : Int) := by have := HIt.out; rw [IntWalk.i64_in _ (by omega)]
                have hsc : (((tk : Int) - (s : Int)) != 2) = false := by
                  have : (tk : Int) - (s : Int) = 2 := by omega
                  simpa using this
                obtain ⟨w7, hdel, dz, tz⟩ := del_T HFq.out.d hxk 0
                have HF7 : Hid (Fl T w X p' F2 mb (delI S0 (fl.take (j + 1))) w7) := hid (fl_turned HT.out HFq.out tz (by rw [take_next hx, delI_more]; exact dz))
                have HFv7 := hid (rg_turned HFw.out tz)
                have HPv7 := hid (rg_turned HPw.out tz)
                have HZ7 := hid (at_turned HZw.out tz)
                clear hx hs1 hs2 hno hl1 dz tz HFq HFw HPw HZw hxk
                go_wp2_with fail
                go_roundw
                case rel => exact ⟨j + 1, by omega, by go_num, HF7, HFv7, HPv7, HZ7⟩
                case measure => simp [intOf]; omega
              · have he : j = q := by omega
                subst he
                rw [HTT.out, HWL.out] at HFq
                go_wp2_with (at_range; go_must (refine wpList_grange mapT_ok rfl (.tmp 113) rfl rfl HFq.out.d ?_; intro w5 hr5 hk5))
                have HG5 := hid hr5
                have HT5 := hid (tt_kept HT.out.obj HFq.out.t hk5)
                have HO5 := hid (off_new HT.out.obj HFq.out.t (Nat.le_refl _) (gr_lt hr5))
                have HOm5 := hid (off_kept HFq.out.o hk5)
                have HB5 : Hid (w.heap.size ≤ wr.heap.size ∧ w.heap.size ≤ mb) := hid ⟨HFq.out.t.k.2, HFq.out.b⟩
                have HP5 := hid (rg_kept encU_ok HPw.out hk5)
                have HZ5 := hid (at_kept HZw.out hk5)
                clear hr5 hk5 HFq HFw HPw HZw
                go_frame
                generalize wr.heap.size = rb at *
                go_loopw [115] (fun nv wq => ∃ (left : Int → Bool) (cnt : Nat), Hid (Gr Try.prog mapT wq mb rb (wl lf) (dom (wl lf)) left cnt) ∧ Hid (TT T w X p' F2 wq) ∧ Hid (Off wq F2 rb) ∧ Hid (Off wq F2 mb) ∧ Hid (Rg encU 1 wq (.slice pa 1 pc) [pg]) ∧ Hid (At wq Zr #[.slice pa 1 pc, .slice xa la xc, .slice fa j fc] 39)) (fun _ wq => wq.rangeLeft mb rb)
                case atStart => exact ⟨_, _, HG5, HT5, HO5, HOm5, HP5, HZ5⟩
                case round =>
                  obtain ⟨left, cnt, HGq, HTq, HOq, HOm, HPw, HZw⟩ := hrel
                  clear HG5 HT5 HO5 HOm5 HP5 HZ5
                  go_wp2_with (at_next; go_must (refine next_T rfl (.tmp 114) rfl rfl HGq.out ?_ ?_))
                  · intro _ _
                    have HFq : Hid (Fl T w X p' F2 mb (wl lf) wr) := hid ⟨HTq.out, gr_map HGq.out, HOm.out, HB5.out.2⟩
                    obtain ⟨q0, q1, q2⟩ := at_cells3' HZw.out
                    obtain ⟨g4, o4, rfl⟩ : ∃ g o, pa = some ⟨g, o, none⟩ := by
                      obtain ⟨g4, o4, c4, e4⟩ := rg_pos HPw.out (by simp)
                      injection e4 with e4
                      exact ⟨g4, o4, e4⟩
                    have d0 := rg_U HPw.out (i := 0) rfl
                    rw [Nat.add_zero] at d0
                    have HSw : Hid (wl p'.waits = if isW lf pg = true then wl lf else upd (wl lf) pg (tk : Int)) := hid (by rw [HTP.out.1]; exact HWW.out)
                    clear HGq HTq HOq HOm d0 HWW HWL
                    go_wp2_with fail
                    clear q0 q1 q2
                    go_loopw [128] (fun jv wq => ∃ z : Nat, z ≤ 1 ∧ jv = .int .i64 (z : Int) ∧ Hid (Fl T w X p' F2 mb (if z = 0 then wl lf else wl p'.waits) wq) ∧ Hid (Rg encU 1 wq (.slice (some ⟨g4, o4, none⟩) 1 pc) [pg])) (fun jv _ => 1 - (intOf jv).toNat)
                    case atStart => exact ⟨0, by omega, rfl, HFq, HPw⟩
                    case round =>
                      obtain ⟨z, hz1, rfl, HFz, HPz⟩ := hrel
                      clear HFq HPw HZw
                      by_cases hzz : z < 1
                      · have he : z = 0 := by omega
                        subst he
                        rw [if_pos rfl] at HFz
                        have d0 := rg_U HPz.out (i := 0) rfl
                        rw [Nat.add_zero] at d0
                        have hl1 := look2_T HFz.out.d HPo.out
                        rw [HWs.out] at hl1
                        cases hbb : isW lf pg with
                        | true =>
                          rw [hbb] at hl1
                          rw [hbb, if_pos rfl] at HSw
                          generalize (wl lf pg).getD 0 = vv at *
                          clear hbb
                          go_wp2_with fail
                          go_roundw
                          case rel => exact ⟨1, by omega, rfl, hid (by rw [if_neg (by omega), HSw.out]; exact HFz.out), HPz⟩
                          case measure => simp [intOf]
                        | false =>
                          rw [hbb] at hl1
                          rw [hbb, if_neg (by simp)] at HSw
                          obtain ⟨w8, hput, d8, t8⟩ := put_T HFz.out.d HPo.out (tk : Int)
                          have HF8 : Hid (Fl T w X p' F2 mb (wl p'.waits) w8) := hid (fl_turned HT.out HFz.out t8 (by rw [HSw.out]; exact d8))
                          have HP8 := hid (rg_turned HPz.out t8)
                          generalize (wl lf pg).getD 0 = vv at *
                          clear hbb d8 t8
                          go_wp2_with fail
                          go_roundw
                          case rel => exact ⟨1, by omega, rfl, hid (by rw [if_neg (by omega)]; exact HF8.out), HP8⟩
                          case measure => simp [intOf]
                      · have he : z = 1 := by omega
                        subst he
                        rw [if_neg (by omega)] at HFz
                        go_wp2_with fail
                        go_roundw
                        case rel => exact ⟨i + 1, p', F2, by omega, by go_num, by rw [HTP.out.2.1], hid ⟨by rw [HTP.out.2.1]; exact HIt.out.1, by rw [HTP.out.2.1]; exact HIt.out.2, HTP.out.2.2⟩, HGt, HFz⟩
                        case measure => simp [intOf]; omega
                  · intro x s w6 cnt6 hxk hlx hgx hgr6 hlt6 hgb6 hsz6 hen6
                    obtain ⟨hs1, hs2, hs3⟩ := HL2.out x s hgx
                    have HG6 := hid hgr6
                    have HT6 := hid (tt_grown HT.out.obj HTq.out (r := some rb) (fun q hq => by injection hq with hq; subst hq; exact ⟨HOq.out, HB5.out.1⟩) hgb6)
                    have HO6 := hid (off_grown HOq.out hgb6)
                    have HOm6 := hid (off_grown HOm.out hgb6)
                    have HP6 := hid (rg_next HPw.out HGq.out hgb6)
                    have HZ6 := hid (at_next HZw.out HGq.out hgb6)
                    have HMe : Hid (cnt6 < wr.rangeLeft mb rb) := hid (by rw [gr_left HGq.out]; exact hlt6)
                    have hsb : IntKind.i64.wrap ((tk : Int) - s) = (tk : Int) - s := IntWalk.i64_in _ (by have := HIt.out; omega)
                    have hdd : decide ((2 : Int) ≤ (tk : Int) - s) = false := by simp; omega
                    clear hgr6 hgb6 hlt6 hsz6 hlx hgx HGq HTq HOq HOm HPw HZw hs1 hs2 hs3
                    go_wp2_with fail
                    refine ⟨?_, by rw [gr_left HG6.out]; exact HMe.out⟩
                    exact ⟨_, cnt6, HG6, HT6, HO6, HOm6, HP6, HZ6⟩
          · have hb0 : (y.kind != 0) = true := by simpa using hk0
            clear hk0
            have hl1 := look2_T HFa.out.d HY.out.2.1
            rw [wl_some] at hl1
            have hK := pt_answer HT.out HFa.out.t HGp.out HY.out.2.1.1 HY.out.2.1.2
            generalize hvv : (wl p.waits y.node).getD 0 = vv at *
            generalize hbb : isW p.waits y.node = bb at *
            have hne : (bb != bb) = false := by simp
            clear hvv hbb
            go_wp2_with fail
            refine hK.mono ?_
            rintro e wb ⟨F2, rfl, tb, sb⟩
            have HFb := hid (fl_sd HFa.out tb sb)
            have HZb := hid (at_sd HZ.out HOa.out sb)
            obtain ⟨wc, hdel, dc, tc⟩ := del_T HFb.out.d HY.out.2.1 0
            rw [← wl_less] at dc
            have HFc : Hid (Fl T w X (ansP p y.node) F2 mb (wl (ansP p y.node).waits) wc) := hid (fl_turned HT.out HFb.out tc dc)
            have HGc := hid (gp_ans HGp.out y.node)
            have HIc : Hid ((ansP p y.node).ticks ≤ i + 1 ∧ (ansP p y.node).ticks ≤ 151 ∧ (ansP p y.node).n = k) := hid (by have := HI.out; exact ⟨by show p.ticks ≤ i + 1; omega, this.2.1, this.2.2⟩)
            clear tb sb hK HFa HFb HOa HZ p0 p1 p2 p3 c0 c1 c2 c3 hwa hZ hl1 dc tc
            obtain ⟨p0, p1, p2, p3⟩ := cells4o HZb.out
            go_wp2_with fail
            go_roundw
            case rel => exact ⟨i + 1, ansP p y.node, _, by omega, by go_num, rfl, HIc, HGc, HFc⟩
            case measure => simp [intOf]; omega
    · have he : i = m := by omega
      subst he
      have hW := pt_waits HT.out HFr.out.t HGp.out
      go_wp2_with fail
      refine hW.mono ?_
      rintro e wz ⟨rz, rfl, rr, tz, kz⟩
      obtain ⟨za, zc, rfl, -, -, -, -⟩ := rr
      have hl := len_T (gd_kept HFr.out.d kz)
      rw [gp_dom HGp.out] at hl
      have HKz := hid tz.k
      clear hW tz kz
      generalize (nodW p).length = ln at *
      have hee : ((ln : Int) == (ln : Int)) = true := by simp
      go_wp2_with fail
      go_ret
      exact ⟨rfl, HKz.out⟩
end Go.Proofs.Ytgmcjnhijgnadaa
