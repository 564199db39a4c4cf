/- The walk of ProbeTurns, out of what the landed probe must answer. -/
import Derived.Test.YtgmcjnhijgnadaaPrFixed
import Derived.Test.YtgmcjnhijgnadaaTurnMath
import Derived.Test.YtgmcjnhijgnadaaGLand
import Derived.Deep.CutBlock
import Derived.Deep.DeepCutAuto
namespace Go.Proofs.Ytgmcjnhijgnadaa
open Go.ChangeShapes Go.WideShapes Go.ChangeAt Go.RowKit
set_option linter.unusedVariables false
set_option linter.unusedSimpArgs false
set_option maxRecDepth 100000

def encX (x : Int) : List Value := [.int .u64 x]
theorem encX_ok : Enc encX 1 := ⟨by decide, fun _ => rfl, fun x v hv => by
  simp only [encX, List.mem_cons, List.not_mem_nil, or_false] at hv
  rcases hv with rfl
  rfl⟩
theorem rg_X {w : World} {g o n cap : Nat} {xs : List Int} (h : Rg encX 1 w (.slice (some ⟨g, o, none⟩) n cap) xs) {i : Nat} {x : Int} (hx : xs[i]? = some x) : w.cell? ⟨g, o + i, none⟩ = some (.int .u64 x) := by
  have := rg_all h hx 0 _ rfl
  rwa [Nat.mul_one, Nat.add_zero] at this
/- What is known once all is pinged. -/
structure Pg (w : World) (k : Nat) (sf : Int) (pl : List Int) (pv : Value) (u : World) : Prop where
  o : Og encU 1 5 u w.heap.size pv pl
  kk : Kept w u
  l : pl.length ≤ 121
  b : ∀ b, b * (k - 1) + (k - 1) ≤ pl.length → ∀ x, x ∈ (pl.drop (b * (k - 1))).take (k - 1) ↔ x ∈ others sf k
  c : ∀ f, f + (2 * (k - 1) - 1) ≤ pl.length → ∀ x, x ∈ (pl.drop f).take (2 * (k - 1) - 1) ↔ x ∈ others sf k
theorem pg_kept {w u u' : World} {k : Nat} {sf : Int} {pl : List Int} {pv : Value} (h : Pg w k sf pl pv u) (kk : Kept u u') : Pg w k sf pl pv u' := ⟨og_stays h.o kk, kept_trans h.kk kk, h.l, h.b, h.c⟩
theorem pg_turned {w u u' : World} {k S : Nat} {sf : Int} {pl : List Int} {pv : Value} (h : Pg w k sf pl pv u) (hS : w.heap.size ≤ S) (t : u.mapTurned u' S) : Pg w k sf pl pv u' := ⟨og_turned h.o t, kept_turned h.kk hS t, h.l, h.b, h.c⟩
theorem seen_self' {s : Int} {k : Nat} {xs : List Int} (h : ∀ x, x ∈ xs ↔ x ∈ others s k) : snI xs s = none := by
  unfold snI
  rw [if_neg]
  intro hx
  exact (others_mem.1 ((h _).1 hx)).2.2 rfl
theorem seen_all' {s k : Nat} (hk : 2 ≤ k ∧ k ≤ 21 ∧ s < k) {xs : List Int} (h : ∀ x, x ∈ xs ↔ x ∈ others (s : Int) k) : dom (snI xs) = k - 1 :=
  seen_all (p := newP (s : Int) k) (gp_new (by omega) (by omega) (by omega) (by omega)) h
theorem og_at_lt' {α : Type} {enc : α → List Value} {c U B : Nat} {w : World} {v : Value} {xs : List α} (h : Og enc c U w B v xs) {g : Nat} (hg : v.ownBlock = some g) : g < w.heap.size := (World.ownsRow.lt h g hg).2
set_option maxHeartbeats 51200000 in
theorem turns_walk {T : Shape Pb} (hT : ProbeIs T) (s8 n8 : Int) (hs8 : okU s8) (hn8 : okU n8) (xs : List Int) (hx : ∀ x ∈ xs, 0 ≤ x ∧ x < 18446744073709551616) (v : Value) (w : World) (h : Rg encX 1 w v xs) : Calls Try.prog 4 #[.int .u8 s8, .int .u8 n8, v] w fun e w' => e = .returned (.bool true) ∧ Kept w w' := by
  have HT := hid hT
  have HF := hid (fun u => fixed_any hT u)
  have HR := hid h
  have HX := hid hx
  obtain ⟨a, cap, rfl, hc1, hc2, -, -⟩ := h
  unfold maxLen at hc2
  have HG : Hid (∀ i, i < xs.length → ∃ y, xs[i]? = some y ∧ 0 ≤ y ∧ y < 18446744073709551616) := hid (fun i hi => ⟨xs[i], List.getElem?_eq_getElem hi, HX.out _ (List.getElem_mem hi)⟩)
  have HP : Hid (0 < xs.length → ∃ g o, a = some ⟨g, o, none⟩) := hid (fun hp => by
    obtain ⟨g, o, c, e⟩ := rg_pos HR.out hp
    injection e with e1
    exact ⟨g, o, e1⟩)
  obtain ⟨k0, hk0⟩ : ∃ r : Nat, n8 % 20 = (r : Int) := ⟨(n8 % 20).toNat, by have := hn8.1; omega⟩
  have e1 : Int.tmod n8 20 = (k0 : Int) := by rw [Int.tmod_eq_emod_of_nonneg hn8.1, hk0]
  have e2 : IntKind.i64.wrap n8 = n8 := IntWalk.i64_in _ (by have := hn8.1; have := hn8.2; omega)
  have e3 : IntKind.i64.wrap (k0 : Int) = (k0 : Int) := IntWalk.i64_in _ (by omega)
  have e4 : IntKind.i64.wrap (2 + (k0 : Int)) = ((2 + k0 : Nat) : Int) := by rw [IntWalk.i64_in _ (by omega)]; omega
  have hk10 : k0 < 20 := by omega
  generalize hk : 2 + k0 = k at *
  have hk2 : 2 ≤ k ∧ k ≤ 21 := by omega
  obtain ⟨s0, hs0⟩ : ∃ r : Nat, s8 % (k : Int) = (r : Int) := ⟨(s8 % (k : Int)).toNat, by have := Int.emod_nonneg s8 (show (k : Int) ≠ 0 by omega); omega⟩
  have hsk : s0 < k := by have := Int.emod_lt_of_pos s8 (show (0 : Int) < (k : Int) by omega); omega
  have e5 : IntKind.u8.wrap (k : Int) = (k : Int) := by rw [IntKind.wrap_u8]; omega
  have e6 : Int.tmod s8 (k : Int) = (s0 : Int) := by rw [Int.tmod_eq_emod_of_nonneg hs8.1, hs0]
  have e7 : IntKind.u8.wrap (s0 : Int) = (s0 : Int) := by rw [IntKind.wrap_u8]; omega
  have e8 : ((k : Int) == 0) = false := by simp; omega
  have e9 : ¬ ((k : Int) = 0) := by omega
  have hN := pt_new (T := T) (W := w) (self := (s0 : Int)) (n := k) hT (kept_refl w) (by omega) (by omega) (by omega) (by omega)
  have HG0 := hid (gp_new (self := (s0 : Int)) (n := k) (by omega) (by omega) (by omega) (by omega))
  have HK2 : Hid (2 ≤ k ∧ k ≤ 21 ∧ s0 < k) := hid ⟨hk2.1, hk2.2, hsk⟩
  have HE := hid (And.intro e5 (And.intro e6 (And.intro e7 (And.intro e8 e9))))
  have hzR := zeroR
  have hmm := @run_makeMap Try.prog
  generalize hm : xs.length = m at *
  clear hm hT hx hs8 hn8 hk0 hk10 hk hk2 hs0 hsk
  go_enter Try.func4, Try.ntmps4
  go_wp2_with fail
  refine hN.mono ?_
  rintro e w1 ⟨X, F, rfl, t1, -⟩
  have HT1 := hid t1
  clear t1 hN e1 e2 e3 e4 e5 e6 e7 e8 e9
  go_wp2_with fail
  refine (HF.out w1).mono ?_
  rintro e w2 ⟨rfl, k2⟩
  have HT2 := hid (tt_kept HT.out.obj HT1.out k2)
  clear k2 HT1 HF
  go_upto_block 0 with fail
  go_cut [10] (fun pv wx => ∃ pl : List Int, Hid (Pg w k (s0 : Int) pl pv wx))
  case first =>
    go_wp2_with fail
    go_loopw [10, 43] (fun pv iv wr => ∃ (i : Nat) (p : Pb) (F' : Nat → Prop) (pl : List Int), i ≤ m ∧ iv = .int .i64 (i : Int) ∧ Hid (p.ticks = i ∧ i ≤ 121 ∧ p.n = k ∧ p.self = (s0 : Int) ∧ pl.length = i) ∧ Hid (Gp p ∧ Tu p pl) ∧ Hid (TT T w X p F' wr) ∧ Hid (Og encU 1 5 wr w.heap.size pv pl ∧ ∀ g, pv.ownBlock = some g → ¬ F' g)) (fun _ iv _ => m - (intOf iv).toNat)
    case atStart => exact ⟨0, _, F, [], by omega, rfl, hid ⟨rfl, by omega, rfl, rfl, rfl⟩, hid ⟨HG0.out, tu_new _ _⟩, HT2, hid ⟨og_nil _ _ _ _ _, fun g hg => by cases hg⟩⟩
    case round =>
      obtain ⟨i, p, F', pl, hi, rfl, HI, HGp, HTr, HOr⟩ := hrel
      clear HT2
      have HPg : Hid (∀ pv u, Og encU 1 5 u w.heap.size pv pl → Kept w u → Pg w k (s0 : Int) pl pv u) := hid (fun pv u ho kk => ⟨ho, kk, by have := HI.out; omega, fun b hb x => by
        obtain ⟨h1, h2, h3, h4, h5⟩ := HI.out
        rw [← h3, ← h4]
        rw [← h3] at hb
        exact (tu_block HGp.out.2 HGp.out.1 (by rw [h3]; exact HK2.out.1) hb).mem_iff, fun f hf x => by
        obtain ⟨h1, h2, h3, h4, h5⟩ := HI.out
        rw [← h3, ← h4]
        rw [← h3] at hf
        exact tu_window HGp.out.2 HGp.out.1 (by rw [h3]; exact HK2.out.1) hf⟩)
      by_cases hlt : i < m
      · obtain ⟨y, hy, hy1, hy2⟩ := HG.out i hlt
        obtain ⟨gg, oo, rfl⟩ := HP.out (by omega)
        have c0 := rg_X (rg_kept encX_ok HR.out HTr.out.k) hy
        by_cases hbig : 120 < i
        · have hbigI : (120 : Int) < (i : Int) := by omega
          clear hy hy1 hy2
          go_wp2_with fail
          go_meet
          case rel => exact ⟨pl, hid (HPg.out _ _ HOr.out.1 HTr.out.k)⟩
        · have hd : decide ((120 : Int) < (i : Int)) = false := by simp; omega
          have hK := pt_tick HT.out HTr.out HGp.out.1 (by have := HI.out; omega) hy1 hy2 (hs := []) (by unfold U8; simp) (by simp) (rg_nil encU 1 wr)
          have HTR : Hid ((tickR p y []).pings = [pingT p y]) := hid (by
            unfold tickR
            rw [if_neg (by have := HI.out; have := HK2.out; omega)])
          have HTn := hid (tick_n (p := p) y)
          have HGt := hid (gp_tick HGp.out.1 y)
          have HTu := hid (tu_tick HGp.out.2 HGp.out.1 (by have := HI.out; have := HK2.out; omega) y)
          clear hy hy1 hy2
          go_wp2_with fail
          refine hK.mono ?_
          rintro e wb ⟨pv, av, fv, F2, rfl, rb, tb, sb⟩
          have HOb := hid (og_sd HOr.out.1 HOr.out.2 sb)
          have HAb := hid (apart_sd HOr.out.1 HOr.out.2 sb)
          have HTb := hid tb
          have rp := rb.p
          rw [HTR.out] at rp
          obtain ⟨xa, xc, rfl, -, -⟩ := og_is encA_ok rb.a
          obtain ⟨ya, yc, rfl, -, -⟩ := og_is encU_ok rb.f
          generalize (tickR p y []).asks.length = la at *
          generalize (tickR p y []).failed.length = lf at *
          have HPv := hid (rg_own encU_ok rp)
          clear rb tb sb rp hK c0 HTr HOr HTR
          generalize pingT p y = pg at *
          generalize tickP p y = p' at *
          obtain ⟨pa, pc, rfl, -, -, -, -⟩ := HPv.out
          replace HPv : Hid (Rg encU 1 wb (.slice pa 1 pc) [pg]) := HPv
          obtain ⟨g4, o4, rfl⟩ : ∃ g o, pa = some ⟨g, o, none⟩ := by
            obtain ⟨g4, o4, c4, e4⟩ := rg_pos HPv.out (by simp)
            injection e4 with e4
            exact ⟨g4, o4, e4⟩
          show _
          have kc := kept_alloc (kept_refl wb) (.cells #[.slice (some ⟨g4, o4, none⟩) 1 pc, .slice xa la xc, .slice ya lf yc] 39)
          have d0 := rg_U (rg_kept encU_ok HPv.out kc) (i := 0) rfl
          rw [Nat.add_zero] at d0
          obtain ⟨q0, q1, q2⟩ := at_cells3' (at_new wb #[.slice (some ⟨g4, o4, none⟩) 1 pc, .slice xa la xc, .slice ya lf yc] 39)
          obtain ⟨wc, hwc⟩ : ∃ u, wb.alloc (.cells #[.slice (some ⟨g4, o4, none⟩) 1 pc, .slice xa la xc, .slice ya lf yc] 39) = u := ⟨_, rfl⟩
          obtain ⟨Zr, hZr⟩ : ∃ u, wb.heap.size = u := ⟨_, rfl⟩
          rw [hwc] at kc d0 q0 q1 q2
          rw [hZr] at q0 q1 q2
          have kd := kept_alloc kc (.cells #[.int .u8 pg] 5)
          have HOd := hid (og_stays HOb.out kd)
          have HTd := hid (tt_kept HT.out.obj HTb.out kd)
          have HAl : Hid (Rg encU 1 (wc.alloc (.cells #[.int .u8 pg] 5)) (.slice (some ⟨wc.heap.size, 0, none⟩) [pg].length 1) [pg]) := hid (rg_alone1 wc pg)
          have HBd : Hid (w.heap.size ≤ (wc.alloc (.cells #[.int .u8 pg] 5)).heap.size) := hid HTd.out.k.2
          have HLp : Hid (pl.length ≤ 121) := hid (by have := HI.out; omega)
          clear kc kd HPv HOb HTb
          simp only [List.length_singleton]
          go_wp2_with (at_builtin; go_must (refine wpList_gappL rfl (.tmp 57) (.tmp 62) rfl encU_ok tyU (by decide) w.heap.size _ _ _ _ _ rfl HOd.out rfl (by simp) HAl.out (by have := HLp.out; simp; omega) HBd.out ?_; intro v3 w5 hown3 hgrow3 hland3))
          have HT5 := hid (tt_grown HT.out.obj HTd.out (r := u10.ownBlock) (fun q hq => ⟨⟨og_at_lt' HOd.out hq, HAb.out q hq⟩, og_lt HOd.out hq⟩) hgrow3)
          have HO5 : Hid (Og encU 1 5 w5 w.heap.size v3 (pl ++ [pg]) ∧ ∀ g, v3.ownBlock = some g → ¬ F2 g) := hid ⟨hown3, fun g hg => (hland3 g hg).elim (HAb.out g) (fun e hf => by have := HT.out.obj.lt HTd.out.t hf; omega)⟩
          have HI5 : Hid (p'.ticks = i + 1 ∧ i + 1 ≤ 121 ∧ p'.n = k ∧ p'.self = (s0 : Int) ∧ (pl ++ [pg]).length = i + 1) := hid (by
            obtain ⟨h1, h2, h3, h4, h5⟩ := HI.out
            obtain ⟨g1, g2, g3⟩ := HTn.out
            exact ⟨by rw [g3, h1], by omega, by rw [g1, h3], by rw [g2, h4], by rw [List.length_append, h5]; rfl⟩)
          go_roundw
          case rel => exact ⟨i + 1, p', F2, pl ++ [pg], by omega, by go_num, HI5, hid ⟨HGt.out, HTu.out⟩, HT5, HO5⟩
          case measure => simp [intOf]; omega
      · have he : i = m := by omega
        subst he
        go_wp2_with fail
        go_meet
        case rel => exact ⟨pl, hid (HPg.out _ _ HOr.out.1 HTr.out.k)⟩
  case rest =>
    rename World => wx
    obtain ⟨pl, HPl⟩ := hcut
    clear HT2 HX HG HP HR HT HG0
    obtain ⟨xa, xc, hpv, hl1, hl2⟩ := og_is encU_ok HPl.out.o
    subst hpv
    have hlen : pl.length ≤ 121 := HPl.out.l
    have hk2 : 2 ≤ k ∧ k ≤ 21 := ⟨HK2.out.1, HK2.out.2.1⟩
    have HBk := hid HPl.out.b
    have HCk := hid HPl.out.c
    have HPx : Hid (0 < pl.length → ∃ g, xa = some ⟨g, 0, none⟩) := hid (fun hp => by
      rcases HPl.out.o.2 with ⟨h1, h2⟩ | ⟨g, cap, cur, h1, _⟩
      · omega
      · injection h1 with h1
        exact ⟨g, h1⟩)
    unfold maxLen at hl2
    have hwm : IntKind.i64.wrap ((k : Int) - 1) = ((k - 1 : Nat) : Int) := by rw [IntWalk.i64_in _ (by omega)]; omega
    go_wp2_with fail
    go_loopw [14] (fun fv wr => ∃ b f : Nat, f = b * (k - 1) ∧ f ≤ 200 ∧ fv = .int .i64 (f : Int) ∧ Hid (Pg w k (s0 : Int) pl (.slice xa pl.length xc) wr)) (fun fv _ => 200 - (intOf fv).toNat)
    case atStart => exact ⟨0, 0, by simp, by omega, rfl, HPl⟩
    case round =>
      obtain ⟨b, f, hf, hf2, rfl, HPr⟩ := hrel
      clear HPl
      have hw1 : IntKind.i64.wrap ((f : Int) + (k : Int)) = ((f + k : Nat) : Int) := by rw [IntWalk.i64_in _ (by omega)]; omega
      have hw2 : IntKind.i64.wrap (((f + k : Nat) : Int) - 1) = ((f + (k - 1) : Nat) : Int) := by rw [IntWalk.i64_in _ (by omega)]; omega
      have hw3 : IntKind.i64.wrap ((f : Int) + ((k - 1 : Nat) : Int)) = ((f + (k - 1) : Nat) : Int) := by rw [IntWalk.i64_in _ (by omega)]; omega
      by_cases hin : f + (k - 1) ≤ pl.length
      · have hin2 : decide (((f + (k - 1) : Nat) : Int) ≤ (pl.length : Int)) = true := by simp; omega
        have HWin : Hid (∀ x, x ∈ (pl.drop f).take (k - 1) ↔ x ∈ others (s0 : Int) k) := hid (by rw [hf]; exact HBk.out b (by rw [← hf]; exact hin))
        obtain ⟨g, rfl⟩ := HPx.out (by omega)
        have HSb := hid (gd_made (M := mapB) wr)
        have kb := kept_alloc (kept_refl wr) (.map #[] 0)
        have HPb := hid (pg_kept HPr.out kb)
        rw [← snI_nil] at HSb
        have HSm : Hid (w.heap.size ≤ wr.heap.size) := hid HPr.out.kk.2
        have HF0 := hid hf
        have hw4 := hw2
        clear kb hf HPr
        have hz : f + k - 1 - f = k - 1 := by omega
        go_wp2_with fail
        rw [hz]
        clear hz hw1 hw2 hw4
        generalize wr.alloc (.map #[] 0) = wb at *
        generalize wr.heap.size = S at *
        obtain ⟨q, hq⟩ : ∃ q : Nat, k - 1 = q := ⟨_, rfl⟩
        have HQ := hid hq
        rw [hq]
        rw [hq] at hin HWin
        have hq2 : q ≤ 41 := by omega
        clear hq
        go_loopw [85] (fun jv wq => ∃ j : Nat, j ≤ q ∧ jv = .int .i64 (j : Int) ∧ Hid (Pg w k (s0 : Int) pl (.slice (some ⟨g, 0, none⟩) pl.length xc) wq) ∧ Hid (Gd' mapB wq S (snI ((pl.drop f).take j)))) (fun jv _ => q - (intOf jv).toNat)
        case atStart => exact ⟨0, Nat.zero_le _, rfl, HPb, HSb⟩
        case round =>
          obtain ⟨j, hj, rfl, HPq, HSq⟩ := hrel
          clear HPb HSb
          by_cases hjq : j < q
          · have hx := List.getElem?_eq_getElem (l := pl) (i := f + j) (by omega)
            generalize pl[f + j]'(by omega) = x at *
            have hx2 : (pl.drop f)[j]? = some x := by rw [List.getElem?_drop]; exact hx
            have hxk : okU x := by
              have : x ∈ (pl.drop f).take q := List.mem_iff_getElem?.2 ⟨j, by rw [List.getElem?_take, if_pos hjq]; exact hx2⟩
              have h1 := others_mem.1 ((HWin.out x).1 this)
              exact ⟨h1.1, by omega⟩
            have c0 := rg_U (rg_own encU_ok HPq.out.o) hx
            rw [Nat.zero_add] at c0
            obtain ⟨wz, hput, dz, tz⟩ := put_B HSq.out hxk
            have HSz : Hid (Gd' mapB wz S (snI ((pl.drop f).take (j + 1)))) := hid (by rw [take_next hx2, snI_more]; exact dz)
            have HPz := hid (pg_turned HPq.out HSm.out tz)
            clear hx hx2 hxk dz tz HPq HSq
            go_wp2_with fail
            go_roundw
            case rel => exact ⟨j + 1, by omega, by go_num, HPz, HSz⟩
            case measure => simp [intOf]; omega
          · have he : j = q := by omega
            subst he
            have hl := len_B HSq.out
            have hlk := look_B HSq.out (x := (s0 : Int)) ⟨by omega, by have := HK2.out; omega⟩
            rw [seen_self' HWin.out] at hlk
            rw [seen_all' HK2.out HWin.out, HQ.out] at hl
            obtain ⟨e5, e6, e7, e8, e9⟩ := HE.out
            rw [HQ.out] at hwm hw3
            have hne : ((j : Int) != (j : Int)) = false := by simp
            have HQ2 := hid HQ.out
            clear HSq
            go_wp2_with fail
            go_roundw
            case rel => exact ⟨b + 1, f + j, by rw [HF0.out, HQ2.out, Nat.add_mul, Nat.one_mul], by omega, by go_num, HPq⟩
            case measure => have := HQ2.out; simp [intOf]; omega
      · have hin2 : decide (((f + (k - 1) : Nat) : Int) ≤ (pl.length : Int)) = false := by simp; omega
        clear HBk
        go_wp2_with fail
        clear hw1 hw2 hw3 hin hin2 hf hf2
        go_loopw [18] (fun fv wr => ∃ f : Nat, f ≤ 200 ∧ fv = .int .i64 (f : Int) ∧ Hid (Pg w k (s0 : Int) pl (.slice xa pl.length xc) wr)) (fun fv _ => 200 - (intOf fv).toNat)
        case atStart => exact ⟨0, by omega, rfl, HPr⟩
        case round =>
          obtain ⟨f, hf2, rfl, HPr⟩ := hrel
          have hw0 : IntKind.i64.wrap (2 * (k : Int)) = ((2 * k : Nat) : Int) := by rw [IntWalk.i64_in _ (by omega)]; omega
          have hw1 : IntKind.i64.wrap ((f : Int) + ((2 * k : Nat) : Int)) = ((f + 2 * k : Nat) : Int) := by rw [IntWalk.i64_in _ (by omega)]; omega
          have hw2 : IntKind.i64.wrap (((f + 2 * k : Nat) : Int) - 3) = ((f + (2 * k - 3) : Nat) : Int) := by rw [IntWalk.i64_in _ (by omega)]; omega
          by_cases hin : f + (2 * k - 3) ≤ pl.length
          · have hin2 : decide (((f + (2 * k - 3) : Nat) : Int) ≤ (pl.length : Int)) = true := by simp; omega
            have HWin : Hid (∀ x, x ∈ (pl.drop f).take (2 * k - 3) ↔ x ∈ others (s0 : Int) k) := hid (by
              have e : 2 * k - 3 = 2 * (k - 1) - 1 := by omega
              rw [e]
              exact HCk.out f (by omega))
            obtain ⟨g, rfl⟩ := HPx.out (by omega)
            have HSb := hid (gd_made (M := mapB) wr)
            have kb := kept_alloc (kept_refl wr) (.map #[] 0)
            have HPb := hid (pg_kept HPr.out kb)
            rw [← snI_nil] at HSb
            have HSm : Hid (w.heap.size ≤ wr.heap.size) := hid HPr.out.kk.2
            clear kb HPr
            have hz : f + 2 * k - 3 - f = 2 * k - 3 := by omega
            go_wp2_with fail
            rw [hz]
            clear hz hw1 hw2 hw0
            generalize wr.alloc (.map #[] 0) = wb at *
            generalize wr.heap.size = S at *
            obtain ⟨q, hq⟩ : ∃ q : Nat, 2 * k - 3 = q := ⟨_, rfl⟩
            have HQ := hid hq
            rw [hq]
            rw [hq] at hin HWin
            have hq2 : q ≤ 41 := by omega
            clear hq
            go_loopw [125] (fun jv wq => ∃ j : Nat, j ≤ q ∧ jv = .int .i64 (j : Int) ∧ Hid (Pg w k (s0 : Int) pl (.slice (some ⟨g, 0, none⟩) pl.length xc) wq) ∧ Hid (Gd' mapB wq S (snI ((pl.drop f).take j)))) (fun jv _ => q - (intOf jv).toNat)
            case atStart => exact ⟨0, Nat.zero_le _, rfl, HPb, HSb⟩
            case round =>
              obtain ⟨j, hj, rfl, HPq, HSq⟩ := hrel
              clear HPb HSb
              by_cases hjq : j < q
              · have hx := List.getElem?_eq_getElem (l := pl) (i := f + j) (by omega)
                generalize pl[f + j]'(by omega) = x at *
                have hx2 : (pl.drop f)[j]? = some x := by rw [List.getElem?_drop]; exact hx
                have hxk : okU x := by
                  have : x ∈ (pl.drop f).take q := List.mem_iff_getElem?.2 ⟨j, by rw [List.getElem?_take, if_pos hjq]; exact hx2⟩
                  have h1 := others_mem.1 ((HWin.out x).1 this)
                  exact ⟨h1.1, by omega⟩
                have c0 := rg_U (rg_own encU_ok HPq.out.o) hx
                rw [Nat.zero_add] at c0
                obtain ⟨wz, hput, dz, tz⟩ := put_B HSq.out hxk
                have HSz : Hid (Gd' mapB wz S (snI ((pl.drop f).take (j + 1)))) := hid (by rw [take_next hx2, snI_more]; exact dz)
                have HPz := hid (pg_turned HPq.out HSm.out tz)
                clear hx hx2 hxk dz tz HPq HSq
                go_wp2_with fail
                go_roundw
                case rel => exact ⟨j + 1, by omega, by go_num, HPz, HSz⟩
                case measure => simp [intOf]; omega
              · have he : j = q := by omega
                subst he
                have hl := len_B HSq.out
                rw [seen_all' HK2.out HWin.out] at hl
                have hne : (((k - 1 : Nat) : Int) != ((k - 1 : Nat) : Int)) = false := by simp
                clear HSq
                go_wp2_with fail
                go_roundw
                case rel => exact ⟨f + 1, by omega, by go_num, HPq⟩
                case measure => simp [intOf]; omega
          · have hin2 : decide (((f + (2 * k - 3) : Nat) : Int) ≤ (pl.length : Int)) = false := by simp; omega
            go_wp2_with fail
            go_ret
            exact ⟨rfl, HPr.out.kk⟩
end Go.Proofs.Ytgmcjnhijgnadaa
