/- The walk of ProbePlays, out of what the landed probe must answer: the probe and the reference side by side. -/
import Derived.Test.YtgmcjnhijgnadaaPrRef6
import Derived.Test.YtgmcjnhijgnadaaPrLaw3
import Derived.Test.YtgmcjnhijgnadaaTurnMath
import Derived.Deep.CutBlock
import Derived.Deep.DeepCutAuto
namespace Go.Proofs.Ytgmcjnhijgnadaa
open Go.ChangeShapes Go.WideShapes Go.ChangeAt Go.RowKit
set_option linter.unusedVariables false
set_option linter.unusedSimpArgs false
set_option maxRecDepth 100000

/- Rows apart from an object. -/
theorem rg_sd {α : Type} {enc : α → List Value} {c : Nat} {w w' : World} {v : Value} {xs : List α} {F F' : Nat → Prop} (h : Rg enc c w v xs) (hF : ∀ g, v.ownBlock = some g → Off w F g) (d : Sd F w F' w') : Rg enc c w' v xs := by
  obtain ⟨a, cap, rfl, h1, h2, h3, h4⟩ := h
  refine ⟨a, cap, rfl, h1, h2, h3, fun hp => ?_⟩
  obtain ⟨g, o, rfl, hc⟩ := h4 hp
  refine ⟨g, o, rfl, fun i x j u hx hu => ?_⟩
  exact (World.cell?_of_block (w := w) (off_same (hF g rfl) d)).trans (hc i x j u hx hu)
theorem rg_set {α : Type} {enc : α → List Value} {c : Nat} {w : World} {v : Value} {xs : List α} {Z : Nat} (h : Rg enc c w v xs) (hn : ∀ g, v.ownBlock = some g → g ≠ Z) (k : Nat) (y : Value) : Rg enc c (w.setCell ⟨Z, k, none⟩ y) v xs := by
  obtain ⟨a, cap, rfl, h1, h2, h3, h4⟩ := h
  refine ⟨a, cap, rfl, h1, h2, h3, fun hp => ?_⟩
  obtain ⟨g, o, rfl, hc⟩ := h4 hp
  refine ⟨g, o, rfl, fun i x j u hx hu => ?_⟩
  exact (World.cell?_of_block (w := w) (Below.heap_setCell _ _ _ _ (hn g rfl))).trans (hc i x j u hx hu)
theorem off_set {w : World} {F : Nat → Prop} {b Z : Nat} (h : Off w F b) (k : Nat) (y : Value) : Off (w.setCell ⟨Z, k, none⟩ y) F b := ⟨by rw [World.size_setCell]; exact h.1, h.2⟩
theorem tt_set {T : Shape Pb} (hT : ProbeIs T) {W w : World} {X : Nat} {p : Pb} {F : Nat → Prop} (h : TT T W X p F w) {Z : Nat} (hZ : ¬ F Z) (hW : W.heap.size ≤ Z) (k : Nat) (y : Value) : TT T W X p F (w.setCell ⟨Z, k, none⟩ y) :=
  ⟨hT.obj.stay h.t (fun b hb => Below.heap_setCell _ _ _ _ (by show b ≠ Z; rintro rfl; exact hZ hb)), kept_set h.k hW k y, h.f⟩
/- The probe p, and the reference q in a variable M. -/
structure Sy (T : Shape Pb) (W : World) (X M : Nat) (p : Pb) (F : Nat → Prop) (q : Pb) (rv wv : Value) (w : World) : Prop where
  t : TT T W X p F w
  m : At w M (cellsP q rv wv) 30
  o : Off w F M
  b : W.heap.size ≤ M
  r : Rp w q rv wv
  kr : ∀ g, rv.ownBlock = some g → Off w F g ∧ g ≠ M
  kw : ∀ g, wv.ownBlock = some g → Off w F g ∧ g ≠ M
section
variable {T : Shape Pb} {W w w' : World} {X M : Nat} {p p' q q' : Pb} {F F' : Nat → Prop} {rv wv rv' wv' : Value}
theorem sy_kept (hT : ProbeIs T) (h : Sy T W X M p F q rv wv w) (k : Kept w w') : Sy T W X M p F q rv wv w' := ⟨tt_kept hT.obj h.t k, at_kept h.m k, off_kept h.o k, h.b, rp_kept h.r k, fun g hg => ⟨off_kept (h.kr g hg).1 k, (h.kr g hg).2⟩, fun g hg => ⟨off_kept (h.kw g hg).1 k, (h.kw g hg).2⟩⟩
theorem sy_sd (h : Sy T W X M p F q rv wv w) (t : TT T W X p' F' w') (d : Sd F w F' w') : Sy T W X M p' F' q rv wv w' := ⟨t, at_sd h.m h.o d, off_sd h.o d, h.b, ⟨rg_sd h.r.r (fun g hg => (h.kr g hg).1) d, rg_sd h.r.w (fun g hg => (h.kw g hg).1) d⟩, fun g hg => ⟨off_sd (h.kr g hg).1 d, (h.kr g hg).2⟩, fun g hg => ⟨off_sd (h.kw g hg).1 d, (h.kw g hg).2⟩⟩
theorem sy_set (hT : ProbeIs T) (h : Sy T W X M p F q rv wv w) {Z : Nat} (hZ : ¬ F Z) (hW : W.heap.size ≤ Z) (hM : Z ≠ M) (n1 : ∀ g, rv.ownBlock = some g → g ≠ Z) (n2 : ∀ g, wv.ownBlock = some g → g ≠ Z) (k : Nat) (y : Value) : Sy T W X M p F q rv wv (w.setCell ⟨Z, k, none⟩ y) :=
  ⟨tt_set hT h.t hZ hW k y, at_other h.m (Ne.symm hM) k y, off_set h.o k y, h.b, ⟨rg_set h.r.r n1 k y, rg_set h.r.w n2 k y⟩, fun g hg => ⟨off_set (h.kr g hg).1 k y, (h.kr g hg).2⟩, fun g hg => ⟨off_set (h.kw g hg).1 k y, (h.kw g hg).2⟩⟩
theorem sy_put (hT : ProbeIs T) (h : Sy T W X M p F q rv wv w) (hr : Rp w q' rv' wv') (kr : ∀ g, rv'.ownBlock = some g → Off w F g ∧ g ≠ M) (kw : ∀ g, wv'.ownBlock = some g → Off w F g ∧ g ≠ M) : Sy T W X M p F q' rv' wv' (set6 w M (.int .u8 q'.self) (.int .i64 (q'.n : Int)) rv' (.int .i64 (q'.place : Int)) wv' (.int .i64 (q'.ticks : Int))) := by
  have nM := h.o.2
  have s6 : ∀ {α : Type} {enc : α → List Value} {c : Nat} {v : Value} {xs : List α}, Rg enc c w v xs → (∀ g, v.ownBlock = some g → g ≠ M) → ∀ a0 a1 a2 a3 a4 a5, Rg enc c (set6 w M a0 a1 a2 a3 a4 a5) v xs := fun hh hn a0 a1 a2 a3 a4 a5 => rg_set (rg_set (rg_set (rg_set (rg_set (rg_set hh hn 0 a0) hn 1 a1) hn 2 a2) hn 3 a3) hn 4 a4) hn 5 a5
  have o6 : ∀ {g : Nat}, Off w F g → ∀ a0 a1 a2 a3 a4 a5, Off (set6 w M a0 a1 a2 a3 a4 a5) F g := fun hh a0 a1 a2 a3 a4 a5 => off_set (off_set (off_set (off_set (off_set (off_set hh 0 a0) 1 a1) 2 a2) 3 a3) 4 a4) 5 a5
  exact ⟨tt_set hT (tt_set hT (tt_set hT (tt_set hT (tt_set hT (tt_set hT h.t nM h.b _ _) nM h.b _ _) nM h.b _ _) nM h.b _ _) nM h.b _ _) nM h.b _ _, at_set6 h.m _ _ _ _ _ _, o6 h.o _ _ _ _ _ _, h.b, ⟨s6 hr.r (fun g hg => (kr g hg).2) _ _ _ _ _ _, s6 hr.w (fun g hg => (kw g hg).2) _ _ _ _ _ _⟩, fun g hg => ⟨o6 (kr g hg).1 _ _ _ _ _ _, (kr g hg).2⟩, fun g hg => ⟨o6 (kw g hg).1 _ _ _ _ _ _, (kw g hg).2⟩⟩
theorem sy_new (hT : ProbeIs T) (h : TT T W X p F w) {α : Type} {enc : α → List Value} {c U B : Nat} {v : Value} {xs : List α} (ho : Og enc c U w' B v xs) (hB : w.heap.size ≤ B) : ∀ g, v.ownBlock = some g → Off w' F g := fun g hg => ⟨(World.ownsRow.lt ho g hg).2, fun hf => by have := hT.obj.lt h.t hf; have := og_lt ho hg; omega⟩
end
theorem waits_len {p : Pb} (g : Gp p) : p.waits.length ≤ 256 := by
  have h1 := wl_dom g.once (gp_ok g)
  have h2 := dom_le (wl p.waits)
  omega
theorem round_ok {p : Pb} (g : Gp p) (x : Int) (hs : List Int) : (tickR p x hs).asks.length ≤ 4096 ∧ U8 (tickR p x hs).pings ∧ U8 (tickR p x hs).failed := by
  refine ⟨?_, fun y hy => ?_, fun y hy => ?_⟩
  · have h1 := asks_len p.self p.n x hs (p.ticks + 1) p.waits
    have h2 := waits_len g
    show (asksW p.self p.n x hs (p.ticks + 1) p.waits).length ≤ 4096
    omega
  · have hy2 : y ∈ (if p.n = 1 then [] else [pingT p x]) := hy
    by_cases h1 : p.n = 1
    · rw [if_pos h1] at hy2; simp at hy2
    · rw [if_neg h1] at hy2
      simp at hy2
      subst hy2
      have h2 := others_mem.1 (pingT_mem g x h1)
      have h3 := g.n2
      omega
  · have hy2 : y ∈ (p.waits.filter (late (p.ticks + 1))).map Wt.node := hy
    obtain ⟨w, hw, rfl⟩ := List.mem_map.1 hy2
    have := (g.wait w (List.mem_filter.1 hw).1).1
    omega
set_option maxHeartbeats 3200000 in
theorem plays_no {T : Shape Pb} (hT : ProbeIs T) (self n : Int) (h1 : 0 ≤ self) (h2 : self < 256) (hn : -9223372036854775808 ≤ n ∧ n ≤ 9223372036854775807) (v : Value) (w : World) (hb : ¬ (1 ≤ n ∧ n ≤ 64 ∧ self < n)) : Calls Try.prog 3 #[.int .u8 self, .int .i64 n, v] w fun e w' => e = .returned (.bool true) ∧ Kept w w' := by
  have hN := hT.new_bad self n w h1 h2 hb
  have hR := fun u => rnew_bad self n h1 h2 hn hb u
  have HF := hid (fun u => fixed_any hT u)
  have hz := zeroP
  clear hT h1 h2 hn hb
  go_enter Try.func3, Try.ntmps3
  go_wp2_with fail
  refine hN.mono ?_
  rintro e w1 ⟨rfl, k1⟩
  have HK1 := hid k1
  clear k1 hN
  go_wp2_with fail
  refine (hR w1).mono ?_
  rintro e w2 ⟨cs, rfl, rfl, k2⟩
  have HK2 := hid (kept_alloc (kept_trans HK1.out k2) (.cells #[.int .u8 0, .int .i64 0, .slice none 0 0, .int .i64 0, .slice none 0 0, .int .i64 0] 30))
  clear k2 hR HK1
  go_wp2_with fail
  refine (HF.out _).mono ?_
  rintro e w3 ⟨rfl, k3⟩
  have HK3 := hid (kept_trans HK2.out k3)
  clear k3 HK2 HF
  go_wp2_with fail
  go_ret
  exact ⟨rfl, HK3.out⟩
set_option maxHeartbeats 12800000 in
theorem plays_yes {T : Shape Pb} (hT : ProbeIs T) (self : Int) (n : Nat) (h1 : 1 ≤ n) (h2 : n ≤ 64) (h3 : 0 ≤ self) (h4 : self < n) (ops : List Opn) (v : Value) (w : World) (hx : ∀ o ∈ ops, OpOk w o) (h : Rg encO 4 w v ops) : Calls Try.prog 3 #[.int .u8 self, .int .i64 (n : Int), v] w fun e w' => e = .returned (.bool true) ∧ Kept w w' := by
  have HT := hid hT
  have HF := hid (fun u => fixed_any hT u)
  have HR := hid h
  have HX := hid hx
  obtain ⟨a, cap, rfl, hc1, hc2, -, -⟩ := h
  unfold maxLen at hc2
  have HG : Hid (∀ i, i < ops.length → ∃ y, ops[i]? = some y ∧ OpOk w y) := hid (fun i hi => ⟨ops[i], List.getElem?_eq_getElem hi, HX.out _ (List.getElem_mem hi)⟩)
  have HP : Hid (0 < ops.length → ∃ g o, a = some ⟨g, o, none⟩) := hid (fun hp => by
    obtain ⟨g, o, c, e⟩ := rg_pos HR.out hp
    injection e with e1
    exact ⟨g, o, e1⟩)
  have hN := pt_new (T := T) (W := w) (self := self) (n := n) hT (kept_refl w) h1 h2 h3 h4
  have hRN := fun u => rnew_ok self n h1 h2 h3 h4 u
  have HG0 := hid (gp_new (self := self) (n := n) h1 h2 h3 h4)
  have hz := zeroP
  have hzO := zeroO
  have hzR := zeroR
  generalize hm : ops.length = m at *
  clear hm hT hx h1 h2 h3 h4
  go_enter Try.func3, Try.ntmps3
  go_wp2_with fail
  refine hN.mono ?_
  rintro e w1 ⟨X, F, rfl, t1, -⟩
  have HT1 := hid t1
  clear t1 hN
  go_wp2_with fail
  refine (hRN w1).mono ?_
  rintro e w2 ⟨rv, rfl, o2, k2⟩
  obtain ⟨ra, rc, rfl, -, -⟩ := og_is encU_ok o2
  have HSy : Hid (Sy T w X w2.heap.size (newP self n) F (newP self n) (.slice ra (others self n).length rc) (.slice none 0 0) (w2.alloc (.cells (cellsP (newP self n) (.slice ra (others self n).length rc) (.slice none 0 0)) 30))) := hid (by
    have ka := kept_alloc (kept_refl w2) (.cells (cellsP (newP self n) (.slice ra (others self n).length rc) (.slice none 0 0)) 30)
    have t2 := tt_kept HT.out.obj HT1.out k2
    refine ⟨tt_kept HT.out.obj t2 ka, at_new w2 _ 30, off_new HT.out.obj t2 (Nat.le_refl _) (at_lt (at_new w2 _ 30)), t2.k.2, ⟨rg_kept encU_ok (rg_own encU_ok o2) ka, rg_nil encW 2 _⟩, fun g hg => ⟨off_kept (sy_new HT.out HT1.out o2 (Nat.le_refl _) g hg) ka, ?_⟩, fun g hg => by cases hg⟩
    have := (World.ownsRow.lt o2 g hg).2
    omega)
  clear o2 k2 hRN HT1
  unfold cellsP newP
  simp only
  go_wp2_with fail
  refine (HF.out _).mono ?_
  rintro e w3 ⟨rfl, k3⟩
  have HS3 := hid (sy_kept HT.out HSy.out k3)
  clear k3 HSy HF
  go_wp2_with fail
  generalize w2.heap.size = M at *
  generalize (Value.slice ra (others self n).length rc) = rv0 at HS3
  clear hz
  go_loopw [45] (fun iv wr => ∃ (i : Nat) (p : Pb) (F' : Nat → Prop) (rv wv : Value), i ≤ m ∧ iv = .int .i64 (i : Int) ∧ Hid (p.ticks ≤ i ∧ Gp p) ∧ Hid (Sy T w X M p F' p rv wv wr)) (fun iv _ => m - (intOf iv).toNat)
  case atStart => exact ⟨0, _, F, _, _, by omega, rfl, hid ⟨Nat.le_refl _, HG0.out⟩, HS3⟩
  case round =>
    obtain ⟨i, p, F', rv, wv, hi, rfl, HI, HSr⟩ := hrel
    clear HS3 HG0
    by_cases hlt : i < m
    · obtain ⟨y, hy, hyk⟩ := HG.out i hlt
      obtain ⟨gg, oo, rfl⟩ := HP.out (by omega)
      obtain ⟨c0, c1, c2, c3⟩ := rg_O (rg_kept encO_ok HR.out HSr.out.t.k) hy
      have HY := hid hyk
      clear hy hyk
      have HZ := hid (at_new wr #[.int .i64 y.kind, .int .u64 y.x, .slice y.hv y.hs.length y.hc, .int .u8 y.node] 36)
      have ka := kept_alloc (kept_refl wr) (.cells #[.int .i64 y.kind, .int .u64 y.x, .slice y.hv y.hs.length y.hc, .int .u8 y.node] 36)
      have HSa := hid (sy_kept HT.out HSr.out ka)
      have HOa := hid (off_new HT.out.obj HSr.out.t (Nat.le_refl _) (at_lt HZ.out))
      have HMa : Hid (wr.heap.size ≠ M ∧ (∀ g, rv.ownBlock = some g → g ≠ wr.heap.size) ∧ (∀ g, wv.ownBlock = some g → g ≠ wr.heap.size) ∧ w.heap.size ≤ wr.heap.size) := hid ⟨by have := HSr.out.o.1; omega, fun g hg => by have := (HSr.out.kr g hg).1.1; omega, fun g hg => by have := (HSr.out.kw g hg).1.1; omega, HSr.out.t.k.2⟩
      obtain ⟨p0, p1, p2, p3⟩ := cells4o HZ.out
      clear ka HSr
      by_cases hbig : 150 < i
      · have hbigI : (150 : Int) < (i : Int) := by omega
        go_wp2_with fail
        go_ret
        exact ⟨rfl, HSa.out.t.k⟩
      · have hd : decide ((150 : Int) < (i : Int)) = false := by simp; omega
        by_cases hlong : 100 < y.hs.length
        · have hd2 : decide ((100 : Int) < (y.hs.length : Int)) = true := by simp; omega
          have hd3 : (100 : Int) < (y.hs.length : Int) := by omega
          go_wp2_with fail
          go_ret
          exact ⟨rfl, HSa.out.t.k⟩
        · have hd2 : decide ((100 : Int) < (y.hs.length : Int)) = false := by simp; omega
          have hd3 : ¬ (100 : Int) < (y.hs.length : Int) := by omega
          have HHl : Hid (y.hs.length ≤ 100 ∧ i ≤ 150) := hid (by omega)
          go_upto_if 60 with fail
          clear c0 c1 c2 c3 p0 p1 p2 p3 hzO
          generalize hwa : wr.alloc (.cells #[.int .i64 y.kind, .int .u64 y.x, .slice y.hv y.hs.length y.hc, .int .u8 y.node] 36) = wa at *
          generalize hZo : wr.heap.size = Zo at *
          clear hwa hZo
          go_cut [13, 14] (fun _ _ wx => ∃ (p2 : Pb) (F2 : Nat → Prop) (rv2 wv2 : Value), Hid (p2.ticks ≤ i + 1 ∧ Gp p2) ∧ Hid (Sy T w X M p2 F2 p2 rv2 wv2 wx))
          case first =>
            by_cases hk : y.kind = 0
            · have hkb : (y.kind == 0) = true := by rw [hk]; rfl
              -- the round that is wanted
              have HWz := hid (at_new wa #[.slice none 0 0, .slice none 0 0, .slice none 0 0] 39)
              have kb := kept_alloc (kept_refl wa) (.cells #[.slice none 0 0, .slice none 0 0, .slice none 0 0] 39)
              have HSb := hid (sy_kept HT.out HSa.out kb)
              have HZb := hid (at_kept HZ.out kb)
              have HOb := hid (off_new HT.out.obj HSa.out.t (Nat.le_refl _) (at_lt HWz.out))
              have HMb : Hid (wa.heap.size ≠ M ∧ (∀ g, rv.ownBlock = some g → g ≠ wa.heap.size) ∧ (∀ g, wv.ownBlock = some g → g ≠ wa.heap.size) ∧ w.heap.size ≤ wa.heap.size ∧ Zo ≠ wa.heap.size) := hid ⟨by have := HSa.out.o.1; omega, fun g hg => by have := (HSa.out.kr g hg).1.1; omega, fun g hg => by have := (HSa.out.kw g hg).1.1; omega, HSa.out.t.k.2, by have := at_lt HZ.out; omega⟩
              obtain ⟨ra, rc, rfl, -, -⟩ := rg_is HSb.out.r.r
              obtain ⟨la, lc, rfl, -, -⟩ := rg_is HSb.out.r.w
              obtain ⟨m0, m1, m2, m3, m4, m5⟩ := at_cells6 HSb.out.m
              obtain ⟨p0, p1, p2, p3⟩ := cells4o HZb.out
              clear HSa kb
              have hRT := rtick_any (A := fun v => ∀ g, v.ownBlock = some g → Off (wa.alloc (.cells #[.slice none 0 0, .slice none 0 0, .slice none 0 0] 39)) F' g ∧ g ≠ M ∧ g ≠ wa.heap.size) p HI.out.2 (by have := HI.out.1; have := HHl.out; omega) _ _ y.x HY.out.1.1 HY.out.1.2 y.hs HY.out.2.2.1 HHl.out.1 _ _ HSb.out.r (fun g hg => ⟨(HSb.out.kr g hg).1, (HSb.out.kr g hg).2, HMb.out.2.1 g hg⟩) (rg_kept encU_ok HY.out.2.2.2 HSb.out.t.k)
              unfold cellsP at hRT
              go_wp2_with fail
              refine hRT.mono ?_
              rintro e w4 ⟨pv, av, fv, rv', wv', rfl, op, oa, ofl, rr, rap, ow, k4⟩
              generalize hwb : wa.alloc (.cells #[.slice none 0 0, .slice none 0 0, .slice none 0 0] 39) = wb at *
              generalize hZw : wa.heap.size = Zw at *
              clear hwb hZw hRT
              have hZl : Zw < wb.heap.size := at_lt HWz.out
              have hMl : M < wb.heap.size := at_lt HSb.out.m
              obtain ⟨nZM, nrZ, nwZ, hWZ, nZo⟩ := HMb.out
              have nMZ : M ≠ Zw := Ne.symm nZM
              have nZoM : Zo ≠ M := HMa.out.1
              obtain ⟨pa, pc, rfl, -, -⟩ := og_is encU_ok op
              obtain ⟨aa, ac, rfl, -, -⟩ := og_is encA_ok oa
              obtain ⟨fa, fc, rfl, -, -⟩ := og_is encU_ok ofl
              obtain ⟨rb, rd, rfl, -, -⟩ := rg_is rr
              obtain ⟨lb, ld, rfl, -, -⟩ := og_is encW_ok ow
              have hR := round_ok HI.out.2 y.x y.hs
              have hTi2 : (tickP p y.x).ticks ≤ i + 1 ∧ Gp (tickP p y.x) := ⟨by rw [(tick_n (p := p) y.x).2.2]; have := HI.out.1; omega, gp_tick HI.out.2 y.x⟩
              have HTi2 := hid hTi2
              obtain ⟨q, hq⟩ : ∃ q, tickP p y.x = q := ⟨_, rfl⟩
              obtain ⟨R, hRe⟩ : ∃ R, tickR p y.x y.hs = R := ⟨_, rfl⟩
              have hTk0 : ∀ u, TT T w X p F' u → Rg encU 1 u (.slice y.hv y.hs.length y.hc) y.hs → Calls Try.prog 13 #[.pointer (some ⟨X, 0, none⟩), .int .u64 y.x, .slice y.hv y.hs.length y.hc] u fun e w' => ∃ pv av fv F5, e = .returned (.agg #[pv, av, fv]) ∧ Ro w' F5 pv av fv (tickR p y.x y.hs) ∧ TT T w X (tickP p y.x) F5 w' ∧ Sd F' u F5 w' := fun u hu hr => pt_tick HT.out hu HI.out.2 (by have := HI.out.1; have := HHl.out; omega) HY.out.1.1 HY.out.1.2 HY.out.2.2.1 HHl.out.1 hr
              rw [hq] at rr rap ow HTi2 hTk0 ⊢
              rw [hRe] at op oa ofl hR hTk0 ⊢
              have s4 := sy_kept HT.out HSb.out k4
              have nrZ' : ∀ g, (Value.slice rb q.row.length rd).ownBlock = some g → Off w4 F' g ∧ g ≠ M ∧ g ≠ Zw := fun g hg => by
                rcases rap with hA | hO
                · exact ⟨off_kept (hA g hg).1 k4, (hA g hg).2⟩
                · have h1 := og_lt hO hg
                  exact ⟨sy_new HT.out HSb.out.t hO (Nat.le_refl _) g hg, by omega, by omega⟩
              have nwZ' : ∀ g, (Value.slice lb q.waits.length ld).ownBlock = some g → Off w4 F' g ∧ g ≠ M ∧ g ≠ Zw := fun g hg => by
                have h1 := og_lt ow hg
                exact ⟨sy_new HT.out HSb.out.t ow (Nat.le_refl _) g hg, by omega, by omega⟩
              have s5 : Sy T w X M p F' p _ _ (set3 w4 Zw (.slice pa R.pings.length pc) (.slice aa R.asks.length ac) (.slice fa R.failed.length fc)) := sy_set HT.out (sy_set HT.out (sy_set HT.out s4 HOb.out.2 hWZ nZM nrZ nwZ 0 _) HOb.out.2 hWZ nZM nrZ nwZ 1 _) HOb.out.2 hWZ nZM nrZ nwZ 2 _
              have s6 := sy_put (q' := q) HT.out s5 ⟨rg_set (rg_set (rg_set rr (fun g hg => (nrZ' g hg).2.2) 0 _) (fun g hg => (nrZ' g hg).2.2) 1 _) (fun g hg => (nrZ' g hg).2.2) 2 _, rg_set (rg_set (rg_set (rg_own encW_ok ow) (fun g hg => (nwZ' g hg).2.2) 0 _) (fun g hg => (nwZ' g hg).2.2) 1 _) (fun g hg => (nwZ' g hg).2.2) 2 _⟩ (fun g hg => ⟨off_set (off_set (off_set (nrZ' g hg).1 0 _) 1 _) 2 _, (nrZ' g hg).2.1⟩) (fun g hg => ⟨off_set (off_set (off_set (nwZ' g hg).1 0 _) 1 _) 2 _, (nwZ' g hg).2.1⟩)
              have hZ4 := at_kept HWz.out k4
              have hO4 := at_kept HZb.out k4
              have hZ6 : At (set6 (set3 w4 Zw (.slice pa R.pings.length pc) (.slice aa R.asks.length ac) (.slice fa R.failed.length fc)) M (.int .u8 q.self) (.int .i64 (q.n : Int)) (.slice rb q.row.length rd) (.int .i64 (q.place : Int)) (.slice lb q.waits.length ld) (.int .i64 (q.ticks : Int))) Zw #[.slice pa R.pings.length pc, .slice aa R.asks.length ac, .slice fa R.failed.length fc] 39 := at_other6 (at_set (at_set (at_set hZ4 0 _) 1 _) 2 _) nZM _ _ _ _ _ _
              have hO6 : At (set6 (set3 w4 Zw (.slice pa R.pings.length pc) (.slice aa R.asks.length ac) (.slice fa R.failed.length fc)) M (.int .u8 q.self) (.int .i64 (q.n : Int)) (.slice rb q.row.length rd) (.int .i64 (q.place : Int)) (.slice lb q.waits.length ld) (.int .i64 (q.ticks : Int))) Zo #[.int .i64 y.kind, .int .u64 y.x, .slice y.hv y.hs.length y.hc, .int .u8 y.node] 36 := at_other6 (at_other (at_other (at_other hO4 nZo 0 _) nZo 1 _) nZo 2 _) nZoM _ _ _ _ _ _
              have ap : ∀ {α : Type} {enc : α → List Value} {c U : Nat} {v : Value} {xs : List α}, Og enc c U w4 wb.heap.size v xs → ∀ g, v.ownBlock = some g → ¬ F' g := fun ho g hg hf => by
                have h1 := HT.out.obj.lt HSb.out.t.t hf
                have h2 := og_lt ho hg
                omega
              have r6 : Ro (set6 (set3 w4 Zw (.slice pa R.pings.length pc) (.slice aa R.asks.length ac) (.slice fa R.failed.length fc)) M (.int .u8 q.self) (.int .i64 (q.n : Int)) (.slice rb q.row.length rd) (.int .i64 (q.place : Int)) (.slice lb q.waits.length ld) (.int .i64 (q.ticks : Int))) F' (.slice pa R.pings.length pc) (.slice aa R.asks.length ac) (.slice fa R.failed.length fc) R := ⟨og_low (og_set6 (og_set (og_set (og_set op hZl 0 _) hZl 1 _) hZl 2 _) hMl _ _ _ _ _ _) (Nat.zero_le _), og_low (og_set6 (og_set (og_set (og_set oa hZl 0 _) hZl 1 _) hZl 2 _) hMl _ _ _ _ _ _) (Nat.zero_le _), og_low (og_set6 (og_set (og_set (og_set ofl hZl 0 _) hZl 1 _) hZl 2 _) hMl _ _ _ _ _ _) (Nat.zero_le _), ap op, ap oa, ap ofl⟩
              obtain ⟨z0, z1, z2⟩ := at_cells3' hZ4
              have zf := at_frozen hZ4
              clear m0 m1 m2 m3 m4 m5 p0 p1 p2 p3
              obtain ⟨m0, m1, m2, m3, m4, m5⟩ := at_cells6 s4.m
              have mf := at_frozen s4.m
              obtain ⟨wq, hwq⟩ : ∃ wq, (set6 (set3 w4 Zw (.slice pa R.pings.length pc) (.slice aa R.asks.length ac) (.slice fa R.failed.length fc)) M (.int .u8 q.self) (.int .i64 (q.n : Int)) (.slice rb q.row.length rd) (.int .i64 (q.place : Int)) (.slice lb q.waits.length ld) (.int .i64 (q.ticks : Int))) = wq := ⟨_, rfl⟩
              rw [hwq] at s6 hZ6 hO6 r6
              simp only [set6, set3] at hwq
              have kd : Kept wq wq.drew := kept_drew (kept_refl wq)
              have hTk := hTk0 wq.drew (tt_kept HT.out.obj s6.t kd) (rg_kept encU_ok HY.out.2.2.2 (kept_trans s6.t.k kd))
              have HN5 : Hid (∀ pv5 av5 fv5 F5 w5, Ro w5 F5 pv5 av5 fv5 R → TT T w X q F5 w5 → Sd F' wq.drew F5 w5 → (∀ w6, Kept w5 w6 → Sy T w X M q F5 q (.slice rb q.row.length rd) (.slice lb q.waits.length ld) w6 ∧ (w6.cell? ⟨Zo, 1, none⟩ = some (.int .u64 y.x) ∧ w6.cell? ⟨Zo, 2, none⟩ = some (.slice y.hv y.hs.length y.hc) ∧ w6.cell? ⟨Zw, 0, none⟩ = some (.slice pa R.pings.length pc) ∧ w6.cell? ⟨Zw, 1, none⟩ = some (.slice aa R.asks.length ac) ∧ w6.cell? ⟨Zw, 2, none⟩ = some (.slice fa R.failed.length fc))) ∧ (w5.cell? ⟨Zo, 1, none⟩ = some (.int .u64 y.x) ∧ w5.cell? ⟨Zo, 2, none⟩ = some (.slice y.hv y.hs.length y.hc) ∧ w5.cell? ⟨Zw, 0, none⟩ = some (.slice pa R.pings.length pc) ∧ w5.cell? ⟨Zw, 1, none⟩ = some (.slice aa R.asks.length ac) ∧ w5.cell? ⟨Zw, 2, none⟩ = some (.slice fa R.failed.length fc)) ∧ Calls Try.prog 12 #[.agg #[pv5, av5, fv5], .agg #[.slice pa R.pings.length pc, .slice aa R.asks.length ac, .slice fa R.failed.length fc]] w5 fun e w6 => e = .returned (.bool true) ∧ Kept w5 w6) := hid (fun pv5 av5 fv5 F5 w5 r5 t5 d5 => by
                have hO7 := at_sd (at_drew hO6) (F := F') ⟨at_lt hO6, HOa.out.2⟩ d5
                have hZ7 := at_sd (at_drew hZ6) (F := F') ⟨at_lt hZ6, HOb.out.2⟩ d5
                have s7 := sy_sd (sy_kept HT.out s6 kd) t5 d5
                have cellsS : ∀ u, At u Zo #[.int .i64 y.kind, .int .u64 y.x, .slice y.hv y.hs.length y.hc, .int .u8 y.node] 36 → At u Zw #[.slice pa R.pings.length pc, .slice aa R.asks.length ac, .slice fa R.failed.length fc] 39 → (u.cell? ⟨Zo, 1, none⟩ = some (.int .u64 y.x) ∧ u.cell? ⟨Zo, 2, none⟩ = some (.slice y.hv y.hs.length y.hc) ∧ u.cell? ⟨Zw, 0, none⟩ = some (.slice pa R.pings.length pc) ∧ u.cell? ⟨Zw, 1, none⟩ = some (.slice aa R.asks.length ac) ∧ u.cell? ⟨Zw, 2, none⟩ = some (.slice fa R.failed.length fc)) := fun u h1 h2 => ⟨at_cell h1 1, at_cell h1 2, at_cell h2 0, at_cell h2 1, at_cell h2 2⟩
                exact ⟨fun w6 k6 => ⟨sy_kept HT.out s7 k6, cellsS w6 (at_kept hO7 k6) (at_kept hZ7 k6)⟩, cellsS w5 hO7 hZ7, sameR_any R hR.1 hR.2.1 hR.2.2 _ _ _ _ _ _ w5 (ro_rw r5) (ro_rw (ro_sd (ro_kept r6 kd) d5))⟩)
              have HS0 : Hid ((wq.cell? ⟨Zo, 1, none⟩ = some (.int .u64 y.x) ∧ wq.cell? ⟨Zo, 2, none⟩ = some (.slice y.hv y.hs.length y.hc) ∧ wq.cell? ⟨Zw, 0, none⟩ = some (.slice pa R.pings.length pc) ∧ wq.cell? ⟨Zw, 1, none⟩ = some (.slice aa R.asks.length ac) ∧ wq.cell? ⟨Zw, 2, none⟩ = some (.slice fa R.failed.length fc))) := hid ⟨at_cell hO6 1, at_cell hO6 2, at_cell hZ6 0, at_cell hZ6 1, at_cell hZ6 2⟩
              have HS1 : Hid ((wq.drew.cell? ⟨Zo, 1, none⟩ = some (.int .u64 y.x) ∧ wq.drew.cell? ⟨Zo, 2, none⟩ = some (.slice y.hv y.hs.length y.hc) ∧ wq.drew.cell? ⟨Zw, 0, none⟩ = some (.slice pa R.pings.length pc) ∧ wq.drew.cell? ⟨Zw, 1, none⟩ = some (.slice aa R.asks.length ac) ∧ wq.drew.cell? ⟨Zw, 2, none⟩ = some (.slice fa R.failed.length fc))) := hid ⟨at_cell hO6 1, at_cell hO6 2, at_cell hZ6 0, at_cell hZ6 1, at_cell hZ6 2⟩
              clear op oa ofl rr rap ow k4 hR hTk0 s4 nrZ' nwZ' s5 s6 hZ4 hO4 hZ6 hO6 r6 ap kd hTi2 hq hRe HSb HWz HZb HOb HMb nrZ nwZ hZl hMl HZ HOa HMa
              generalize R.pings.length = pl at *
              generalize R.asks.length = al at *
              generalize R.failed.length = fl at *
              unfold cellsP
              go_wp2_with fail
              clear hwq z0 z1 z2 zf m0 m1 m2 m3 m4 m5 mf
              have hS0 := HS0.out
              have hS := HS1.out
              refine wp_region_noPanic ?_
              refine wp_region_held_drew (S := (fun w' => (w'.cell? ⟨Zo, 1, none⟩ = some (.int .u64 y.x)) ∧ (w'.cell? ⟨Zo, 2, none⟩ = some (.slice y.hv y.hs.length y.hc)) ∧ (w'.cell? ⟨Zw, 0, none⟩ = some (.slice pa pl pc)) ∧ (w'.cell? ⟨Zw, 1, none⟩ = some (.slice aa al ac)) ∧ (w'.cell? ⟨Zw, 2, none⟩ = some (.slice fa fl fc)))) (by kernel_rfl) (by assumption) (fun hHeld => ?_)
              generalize wq.drew = wd at *
              refine wpAnyH_take (i := 0) (v := .pointer (some ⟨X, 0, none⟩)) rfl (by kernel_rfl) (by kernel_rfl) (by kernel_rfl) (fun _ _ _ h => h) (Or.inl ⟨by rfl, fun w hSw => by (try dsimp only at hSw); go_simp⟩) (by assumption) ?_
              try simp only [List.getElem_toArray, List.getElem_cons_zero, List.getElem_cons_succ, Act.put, List.setIfInBounds_toArray, List.set_cons_zero, List.set_cons_succ]
              refine wpAnyH_take (i := 1) (v := .pointer (some ⟨Zo, 1, none⟩)) rfl (by kernel_rfl) (by kernel_rfl) (by kernel_rfl) (fun _ _ _ h => h) (Or.inl ⟨by rfl, fun w hSw => by (try dsimp only at hSw); go_simp⟩) (by assumption) ?_
              try simp only [List.getElem_toArray, List.getElem_cons_zero, List.getElem_cons_succ, Act.put, List.setIfInBounds_toArray, List.set_cons_zero, List.set_cons_succ]
              refine wpAnyH_take (i := 2) (v := .int .u64 y.x) rfl (by kernel_rfl) (by kernel_rfl) (by kernel_rfl) (fun _ _ _ h => h) (Or.inl ⟨by rfl, fun w hSw => by (try dsimp only at hSw); go_simp⟩) (by assumption) ?_
              try simp only [List.getElem_toArray, List.getElem_cons_zero, List.getElem_cons_succ, Act.put, List.setIfInBounds_toArray, List.set_cons_zero, List.set_cons_succ]
              refine wpAnyH_take (i := 3) (v := .pointer (some ⟨Zo, 2, none⟩)) rfl (by kernel_rfl) (by kernel_rfl) (by kernel_rfl) (fun _ _ _ h => h) (Or.inl ⟨by rfl, fun w hSw => by (try dsimp only at hSw); go_simp⟩) (by assumption) ?_
              try simp only [List.getElem_toArray, List.getElem_cons_zero, List.getElem_cons_succ, Act.put, List.setIfInBounds_toArray, List.set_cons_zero, List.set_cons_succ]
              refine wpAnyH_take (i := 4) (v := .slice y.hv y.hs.length y.hc) rfl (by kernel_rfl) (by kernel_rfl) (by kernel_rfl) (fun _ _ _ h => h) (Or.inl ⟨by rfl, fun w hSw => by (try dsimp only at hSw); go_simp⟩) (by assumption) ?_
              try simp only [List.getElem_toArray, List.getElem_cons_zero, List.getElem_cons_succ, Act.put, List.setIfInBounds_toArray, List.set_cons_zero, List.set_cons_succ]
              refine wpAnyH_take (i := 6) (v := .agg #[.slice pa pl pc, .slice aa al ac, .slice fa fl fc]) rfl (by kernel_rfl) (by kernel_rfl) (by kernel_rfl) (fun _ _ _ h => h) (Or.inl ⟨by rfl, fun w hSw => by (try dsimp only at hSw); go_simp⟩) (by assumption) ?_
              try simp only [List.getElem_toArray, List.getElem_cons_zero, List.getElem_cons_succ, Act.put, List.setIfInBounds_toArray, List.set_cons_zero, List.set_cons_succ]
              refine wpAnyH_ready (rs := [5]) (by kernel_rfl) (by simp) ?_
              refine AllReadyH.cons (i := 5) rfl (fun K hK => ?_) AllReadyH.nil
              go_simp
              refine (hTk).mono ?_
              rintro e w5 ⟨pv5, av5, fv5, F5, rfl, r5, t5, s5⟩
              obtain ⟨h5a, h5b, h5c⟩ := HN5.out pv5 av5 fv5 F5 w5 r5 t5 s5
              have H5a := hid h5a
              have hS := h5b
              clear r5 t5 s5 hTk h5a h5b
              clear hHeld
              show K _ _
              refine hK.out _ _ (by assumption) (fun hHeld => ?_)
              clear hK K
              try simp only [List.getElem_toArray, List.getElem_cons_zero, List.getElem_cons_succ, Act.put, List.setIfInBounds_toArray, List.set_cons_zero, List.set_cons_succ]
              refine wpAnyH_ready (rs := [7]) (by kernel_rfl) (by simp) ?_
              refine AllReadyH.cons (i := 7) rfl (fun K hK => ?_) AllReadyH.nil
              go_simp
              refine (h5c).mono ?_
              rintro e w6 ⟨rfl, k6⟩
              obtain ⟨h6a, h6b⟩ := H5a.out w6 k6
              have H6a := hid h6a
              have hS := h6b
              clear k6 h6a h6b h5c
              clear hHeld
              show K _ _
              refine hK.out _ _ (by assumption) (fun hHeld => ?_)
              clear hK K
              try simp only [List.getElem_toArray, List.getElem_cons_zero, List.getElem_cons_succ, Act.put, List.setIfInBounds_toArray, List.set_cons_zero, List.set_cons_succ]
              refine wpAnyH_take (i := 8) (v := .bool false) rfl (by kernel_rfl) (by kernel_rfl) (by kernel_rfl) (fun _ _ _ h => h) (Or.inl ⟨by rfl, fun w hSw => by (try dsimp only at hSw); go_simp⟩) (by assumption) ?_
              try simp only [List.getElem_toArray, List.getElem_cons_zero, List.getElem_cons_succ, Act.put, List.setIfInBounds_toArray, List.set_cons_zero, List.set_cons_succ]
              refine wpAnyH_done (by kernel_rfl) ?_ _
              refine NoPanic.normal ?_
              clear hHeld hS
              go_wp2_with fail
              go_meet
              case rel => exact ⟨_, _, _, _, HTi2, H6a⟩
            · have hkb : (y.kind == 0) = false := by rw [beq_eq_false_iff_ne]; exact hk
              obtain ⟨ra, rc, rfl, -, -⟩ := rg_is HSa.out.r.r
              obtain ⟨la, lc, rfl, -, -⟩ := rg_is HSa.out.r.w
              obtain ⟨m0, m1, m2, m3, m4, m5⟩ := at_cells6 HSa.out.m
              obtain ⟨p0, p1, p2, p3⟩ := cells4o HZ.out
              have hRA := ranswer_any p (by have := waits_len HI.out.2; omega) _ _ y.node wa HSa.out.r
              unfold cellsP at hRA
              go_wp2_with fail
              refine hRA.mono ?_
              rintro e w4 ⟨wv', rfl, ow, k4⟩
              obtain ⟨lb, ld, rfl, -, -⟩ := og_is encW_ok ow
              have hMl : M < wa.heap.size := HSa.out.o.1
              have s4 := sy_kept HT.out HSa.out k4
              have nw' : ∀ g, (Value.slice lb (ansP p y.node).waits.length ld).ownBlock = some g → Off w4 F' g ∧ g ≠ M := fun g hg => ⟨sy_new HT.out HSa.out.t ow (Nat.le_refl _) g hg, by have := og_lt ow hg; omega⟩
              have s6 := sy_put (q' := ansP p y.node) (rv' := .slice ra p.row.length rc) HT.out s4 ⟨s4.r.r, rg_own encW_ok ow⟩ s4.kr nw'
              have hO6 : At (set6 w4 M (.int .u8 (ansP p y.node).self) (.int .i64 ((ansP p y.node).n : Int)) (.slice ra p.row.length rc) (.int .i64 ((ansP p y.node).place : Int)) (.slice lb (ansP p y.node).waits.length ld) (.int .i64 ((ansP p y.node).ticks : Int))) Zo #[.int .i64 y.kind, .int .u64 y.x, .slice y.hv y.hs.length y.hc, .int .u8 y.node] 36 := at_other6 (at_kept HZ.out k4) HMa.out.1 _ _ _ _ _ _
              clear m0 m1 m2 m3 m4 m5 p0 p1 p2 p3
              obtain ⟨m0, m1, m2, m3, m4, m5⟩ := at_cells6 s4.m
              have mf := at_frozen s4.m
              obtain ⟨wq, hwq⟩ : ∃ wq, set6 w4 M (.int .u8 (ansP p y.node).self) (.int .i64 ((ansP p y.node).n : Int)) (.slice ra p.row.length rc) (.int .i64 ((ansP p y.node).place : Int)) (.slice lb (ansP p y.node).waits.length ld) (.int .i64 ((ansP p y.node).ticks : Int)) = wq := ⟨_, rfl⟩
              rw [hwq] at s6 hO6
              simp only [set6] at hwq
              obtain ⟨p0, p1, p2, p3⟩ := cells4o hO6
              have HS6 := hid s6
              have hAn := pt_answer HT.out s6.t HI.out.2 HY.out.2.1.1 HY.out.2.1.2
              have HTi2 : Hid ((ansP p y.node).ticks ≤ i + 1 ∧ Gp (ansP p y.node)) := hid ⟨by show p.ticks ≤ i + 1; have := HI.out.1; omega, gp_ans HI.out.2 y.node⟩
              clear s4 s6 nw' ow k4 hRA hO6 HSa HZ HOa HMa
              generalize isW p.waits y.node = b at *
              go_wp2_with fail
              refine hAn.mono ?_
              rintro e w5 ⟨F5, rfl, t5, d5⟩
              have HS7 := hid (sy_sd HS6.out t5 d5)
              have hbb : (b != b) = false := by cases b <;> rfl
              clear t5 d5 hAn HS6 hwq m0 m1 m2 m3 m4 m5 mf p0 p1 p2 p3
              go_wp2_with fail
              go_meet
              case rel => exact ⟨_, _, _, _, HTi2, HS7⟩
          case rest =>
          obtain ⟨p2, F2, rv2, wv2, HTi2, HS2⟩ := hcut
          clear HSa HZ HOa HMa HI
          obtain ⟨ra, rc, rfl, -, -⟩ := rg_is HS2.out.r.r
          obtain ⟨la, lc, rfl, -, -⟩ := rg_is HS2.out.r.w
          have kd : Kept wc wc.drew := kept_drew (kept_refl wc)
          have hWt := pt_waits HT.out (tt_kept HT.out.obj HS2.out.t kd) HTi2.out.2
          have HW6 : Hid (∀ w5, Kept wc.drew w5 → Calls Try.prog 18 #[.agg (cellsP p2 (.slice ra p2.row.length rc) (.slice la p2.waits.length lc))] w5 (GRowN encU 1 5 (nodW p2) w5)) := hid (fun w5 k5 => rnodes_any p2 (by have := waits_len HTi2.out.2; omega) _ _ w5 (rp_kept HS2.out.r (kept_trans kd k5)))
          have cellsS : ∀ u, Kept wc u → (u.cell? ⟨M, 0, none⟩ = some (.int .u8 p2.self) ∧ u.cell? ⟨M, 1, none⟩ = some (.int .i64 (p2.n : Int)) ∧ u.cell? ⟨M, 2, none⟩ = some (.slice ra p2.row.length rc) ∧ u.cell? ⟨M, 3, none⟩ = some (.int .i64 (p2.place : Int)) ∧ u.cell? ⟨M, 4, none⟩ = some (.slice la p2.waits.length lc) ∧ u.cell? ⟨M, 5, none⟩ = some (.int .i64 (p2.ticks : Int))) := fun u k => at_cells6 (at_kept HS2.out.m k)
          have HW5 : Hid (∀ r5 w5, Rg encU 1 w5 r5 (nodW p2) → Kept wc.drew w5 → (∀ r6 w6, Og encU 1 5 w6 w5.heap.size r6 (nodW p2) → Kept w5 w6 → (∀ w7, Kept w6 w7 → Sy T w X M p2 F2 p2 (.slice ra p2.row.length rc) (.slice la p2.waits.length lc) w7 ∧ (w7.cell? ⟨M, 0, none⟩ = some (.int .u8 p2.self) ∧ w7.cell? ⟨M, 1, none⟩ = some (.int .i64 (p2.n : Int)) ∧ w7.cell? ⟨M, 2, none⟩ = some (.slice ra p2.row.length rc) ∧ w7.cell? ⟨M, 3, none⟩ = some (.int .i64 (p2.place : Int)) ∧ w7.cell? ⟨M, 4, none⟩ = some (.slice la p2.waits.length lc) ∧ w7.cell? ⟨M, 5, none⟩ = some (.int .i64 (p2.ticks : Int)))) ∧ (w6.cell? ⟨M, 0, none⟩ = some (.int .u8 p2.self) ∧ w6.cell? ⟨M, 1, none⟩ = some (.int .i64 (p2.n : Int)) ∧ w6.cell? ⟨M, 2, none⟩ = some (.slice ra p2.row.length rc) ∧ w6.cell? ⟨M, 3, none⟩ = some (.int .i64 (p2.place : Int)) ∧ w6.cell? ⟨M, 4, none⟩ = some (.slice la p2.waits.length lc) ∧ w6.cell? ⟨M, 5, none⟩ = some (.int .i64 (p2.ticks : Int))) ∧ Calls Try.prog 16 #[r5, r6] w6 fun e w7 => e = .returned (.bool true) ∧ Kept w6 w7) ∧ (w5.cell? ⟨M, 0, none⟩ = some (.int .u8 p2.self) ∧ w5.cell? ⟨M, 1, none⟩ = some (.int .i64 (p2.n : Int)) ∧ w5.cell? ⟨M, 2, none⟩ = some (.slice ra p2.row.length rc) ∧ w5.cell? ⟨M, 3, none⟩ = some (.int .i64 (p2.place : Int)) ∧ w5.cell? ⟨M, 4, none⟩ = some (.slice la p2.waits.length lc) ∧ w5.cell? ⟨M, 5, none⟩ = some (.int .i64 (p2.ticks : Int)))) := hid (fun r5 w5 rr5 k5 => ⟨fun r6 w6 o6 k6 => ⟨fun w7 k7 => ⟨sy_kept HT.out HS2.out (kept_trans kd (kept_trans k5 (kept_trans k6 k7))), cellsS w7 (kept_trans kd (kept_trans k5 (kept_trans k6 k7)))⟩, cellsS w6 (kept_trans kd (kept_trans k5 k6)), sameU_any (nodW p2) (by have := waits_len HTi2.out.2; unfold nodW; rw [List.length_map]; omega) r5 r6 w6 (rg_kept encU_ok rr5 k6) (rg_own encU_ok o6)⟩, cellsS w5 (kept_trans kd k5)⟩)
          have hS0 := cellsS wc (kept_refl wc)
          have hS := cellsS wc.drew kd
          unfold cellsP at HW6
          clear cellsS kd HS2
          generalize p2.row.length = rl at *
          generalize p2.waits.length = ll at *
          go_wp2_with fail
          refine wp_region_noPanic ?_
          refine wp_region_held_drew (S := (fun w' => (w'.cell? ⟨M, 0, none⟩ = some (.int .u8 p2.self)) ∧ (w'.cell? ⟨M, 1, none⟩ = some (.int .i64 (p2.n : Int))) ∧ (w'.cell? ⟨M, 2, none⟩ = some (.slice ra rl rc)) ∧ (w'.cell? ⟨M, 3, none⟩ = some (.int .i64 (p2.place : Int))) ∧ (w'.cell? ⟨M, 4, none⟩ = some (.slice la ll lc)) ∧ (w'.cell? ⟨M, 5, none⟩ = some (.int .i64 (p2.ticks : Int))))) (by kernel_rfl) (by assumption) (fun hHeld => ?_)
          generalize wc.drew = wd at *
          refine wpAnyH_take (i := 0) (v := .pointer (some ⟨X, 0, none⟩)) rfl (by kernel_rfl) (by kernel_rfl) (by kernel_rfl) (fun _ _ _ h => h) (Or.inl ⟨by rfl, fun w hSw => by (try dsimp only at hSw); go_simp⟩) (by assumption) ?_
          try simp only [List.getElem_toArray, List.getElem_cons_zero, List.getElem_cons_succ, Act.put, List.setIfInBounds_toArray, List.set_cons_zero, List.set_cons_succ]
          refine wpAnyH_take (i := 2) (v := .agg #[.int .u8 p2.self, .int .i64 (p2.n : Int), .slice ra rl rc, .int .i64 (p2.place : Int), .slice la ll lc, .int .i64 (p2.ticks : Int)]) rfl (by kernel_rfl) (by kernel_rfl) (by kernel_rfl) (fun _ _ _ h => h) (Or.inl ⟨by rfl, fun w hSw => by (try dsimp only at hSw); go_simp⟩) (by assumption) ?_
          try simp only [List.getElem_toArray, List.getElem_cons_zero, List.getElem_cons_succ, Act.put, List.setIfInBounds_toArray, List.set_cons_zero, List.set_cons_succ]
          refine wpAnyH_ready (rs := [1]) (by kernel_rfl) (by simp) ?_
          refine AllReadyH.cons (i := 1) rfl (fun K hK => ?_) AllReadyH.nil
          go_simp
          refine (hWt).mono ?_
          rintro e w5 ⟨r5, rfl, rr5, t5, k5⟩
          obtain ⟨h5a, h5b⟩ := HW5.out r5 w5 rr5 k5
          have H5a := hid h5a
          have hS := h5b
          have h5c := HW6.out w5 k5
          clear rr5 t5 k5 hWt h5a h5b
          clear hHeld
          show K _ _
          refine hK.out _ _ (by assumption) (fun hHeld => ?_)
          clear hK K
          try simp only [List.getElem_toArray, List.getElem_cons_zero, List.getElem_cons_succ, Act.put, List.setIfInBounds_toArray, List.set_cons_zero, List.set_cons_succ]
          refine wpAnyH_ready (rs := [3]) (by kernel_rfl) (by simp) ?_
          refine AllReadyH.cons (i := 3) rfl (fun K hK => ?_) AllReadyH.nil
          go_simp
          refine (h5c).mono ?_
          rintro e w6 ⟨r6, rfl, o6, n6, k6⟩
          obtain ⟨h6a, h6b, h6c⟩ := H5a.out r6 w6 o6 k6
          have H6a := hid h6a
          have hS := h6b
          clear o6 n6 k6 h6a h6b h5c
          clear hHeld
          show K _ _
          refine hK.out _ _ (by assumption) (fun hHeld => ?_)
          clear hK K
          try simp only [List.getElem_toArray, List.getElem_cons_zero, List.getElem_cons_succ, Act.put, List.setIfInBounds_toArray, List.set_cons_zero, List.set_cons_succ]
          refine wpAnyH_ready (rs := [4]) (by kernel_rfl) (by simp) ?_
          refine AllReadyH.cons (i := 4) rfl (fun K hK => ?_) AllReadyH.nil
          go_simp
          refine (h6c).mono ?_
          rintro e w7 ⟨rfl, k7⟩
          obtain ⟨h7a, h7b⟩ := H6a.out w7 k7
          have H7a := hid h7a
          have hS := h7b
          clear k7 h7a h7b h6c
          clear hHeld
          show K _ _
          refine hK.out _ _ (by assumption) (fun hHeld => ?_)
          clear hK K
          try simp only [List.getElem_toArray, List.getElem_cons_zero, List.getElem_cons_succ, Act.put, List.setIfInBounds_toArray, List.set_cons_zero, List.set_cons_succ]
          refine wpAnyH_take (i := 5) (v := .bool false) rfl (by kernel_rfl) (by kernel_rfl) (by kernel_rfl) (fun _ _ _ h => h) (Or.inl ⟨by rfl, fun w hSw => by (try dsimp only at hSw); go_simp⟩) (by assumption) ?_
          try simp only [List.getElem_toArray, List.getElem_cons_zero, List.getElem_cons_succ, Act.put, List.setIfInBounds_toArray, List.set_cons_zero, List.set_cons_succ]
          refine wpAnyH_done (by kernel_rfl) ?_ _
          refine NoPanic.normal ?_
          clear hHeld hS
          go_wp2_with fail
          go_roundw
          case rel => exact ⟨i + 1, p2, _, _, _, by omega, by go_num, HTi2, H7a⟩
          case measure => simp [intOf]; omega
    · have he : i = m := by omega
      subst he
      go_wp2_with fail
      go_ret
      exact ⟨rfl, HSr.out.t.k⟩
end Go.Proofs.Ytgmcjnhijgnadaa
