/- The walk of AskAnyOrder, out of what the landed requests must answer. -/
import Derived.Test.YtjmldnbepajnoaaRAnyMath
import Derived.Deep.CutBlock
import Derived.Deep.DeepCutAuto
namespace Go.Proofs.YtjmldnbepajnoaaR
open Go.ChangeShapes Go.WideShapes Go.ChangeAt Go.RowKit
set_option linter.unusedVariables false
set_option linter.unusedSimpArgs false
set_option maxRecDepth 100000

/- Two requests and a row. -/
structure E2 (T : Shape Aq) (W : World) (X Y : Nat) (q p : Aq) (F G : Nat → Prop) (v : Value) (P : List Opn) (wx : World) : Prop where
  x : TT T W X q F wx
  y : TT T W Y p G wx
  d : ∀ b, F b → ¬ G b
  r : Rg encO 11 wx v P ∧ Ap2 wx F G v P
section
variable {T : Shape Aq} {W w w' w1 w2 : World} {X Y : Nat} {q p q' : Aq} {F G F' : Nat → Prop} {v : Value} {P : List Opn}
theorem e2_kept (hT : AskIs T) (h : E2 T W X Y q p F G v P w) (k : Kept w w') : E2 T W X Y q p F G v P w' := ⟨tt_kept hT.obj h.x k, tt_kept hT.obj h.y k, h.d, ap2_kept h.r k⟩
theorem e2_x (hT : AskIs T) (h : E2 T W X Y q p F G v P w) (x' : TT T W X q' F' w') (d : Sd F w F' w') : E2 T W X Y q' p F' G v P w' := by
  obtain ⟨y', d'⟩ := beside hT h.y h.d h.x x' d
  exact ⟨x', y', d', ap2_x h.r d⟩
theorem e2_y (hT : AskIs T) (h : E2 T W X Y q p F G v P w) (y' : TT T W Y q' F' w') (d : Sd G w F' w') : E2 T W X Y q q' F F' v P w' := by
  obtain ⟨x', d'⟩ := beside hT h.x (fun b hb hf => h.d b hf hb) h.y y' d
  exact ⟨x', y', fun b hb hg => d' b hg hb, ap2_y h.r d⟩
theorem e2_new (hT : AskIs T) (r : Rg encO 11 w v P) (hg : 0 < P.length → ∀ g, v.ownBlock = some g → g < w.heap.size) (x : TT T W X q F w1) (k1 : Kept w w1) (h1 : ∀ b, F b → w.heap.size ≤ b) (y : TT T W Y p G w2) (k2 : Kept w1 w2) (h2 : ∀ b, G b → w1.heap.size ≤ b) : E2 T W X Y q p F G v P w2 := by
  have x2 := tt_kept hT.obj x k2
  refine ⟨x2, y, fun b hb hgb => ?_, rg_kept encO_ok r (kept_trans k1 k2), fun hp g e => ?_⟩
  · have a := hT.obj.lt x.t hb
    have c := h2 b hgb
    omega
  · have a := hg hp g e
    have s1 := k1.2
    have s2 := k2.2
    exact ⟨⟨by omega, fun hf => by have := h1 g hf; omega⟩, ⟨by omega, fun hf => by have := h2 g hf; omega⟩⟩
end
theorem gd_row {ε : Type} {M : MapD Int ε} {w w' : World} {m B : Nat} {g : Int → Option ε} {v : Value} {P : List Opn} (h : Gd' M w m g) (o : Og encO 11 36 w B v P) (gr : w.grownBy w' v.ownBlock) : Gd' M w' m g := gm_row h o gr
theorem cutt_app {key : ByteArray} {P : List Opn} {o : Opn} (h : Cutt key P) (ho : okU o.node ∧ RpOk o.x ∧ o.x.r.key = key) : Cutt key (P ++ [o]) := by
  intro y hy
  rcases List.mem_append.1 hy with hy | hy
  · exact h y hy
  · simp at hy
    subst hy
    exact ho
set_option maxHeartbeats 12800000 in
theorem any_walk {T : Shape Aq} (hT : AskIs T) (l : List Int) (ops : List Opn) (key : ByteArray) (tu : Int) (v v1 : Value) (w : World) (h8 : U8 l) (h : Rg encU 1 w v l) (hl1 : ∀ o ∈ ops, OpOk o) (h1 : Rg encO 11 w v1 ops) (ht : okU tu) : Calls Try.prog 3 #[v, v1, .string key, .int .u8 tu] w fun e w' => e = .returned (.bool true) ∧ Kept w w' := by
  have HT := hid hT
  have HF := hid (fun u => fixed_any hT u)
  have HR := hid h
  have H8 := hid h8
  have HTu := hid ht
  obtain ⟨a, cap, rfl, hc1, hc2, -, -⟩ := h
  unfold maxLen at hc2
  have hmm := @run_makeMap Try.prog
  obtain ⟨a1, cp1, e1, -, -⟩ := rg_is h1
  have HC := hid (fun (hk : key.size ≤ 1000) => cut_any ops hl1 key hk v1 w h1)
  subst e1
  generalize hm : l.length = m at *
  have HM := hid hm
  clear hT hm h8 hl1 h1 ht
  by_cases hb0 : 100 < m
  · have d0 : decide ((100 : Int) < (m : Int)) = true := by simp; omega
    have e0 : (100 : Int) < (m : Int) := by omega
    go_enter Try.func3, Try.ntmps3
    go_wp2_with fail
    refine (HF.out w).mono ?_
    rintro e w2 ⟨rfl, k2⟩
    have HK2 := hid k2
    clear k2
    go_wp2_with fail
    go_ret
    exact ⟨rfl, HK2.out⟩
  have d0 : decide ((100 : Int) < (m : Int)) = false := by simp; omega
  have e0 : ¬ (100 : Int) < (m : Int) := by omega
  by_cases hb1 : 1000 < key.size
  · have d1 : (1000 : Int) < (key.size : Int) := by omega
    go_enter Try.func3, Try.ntmps3
    go_wp2_with fail
    refine (HF.out w).mono ?_
    rintro e w2 ⟨rfl, k2⟩
    have HK2 := hid k2
    clear k2
    go_wp2_with fail
    go_ret
    exact ⟨rfl, HK2.out⟩
  have d1 : decide ((1000 : Int) < (key.size : Int)) = false := by simp; omega
  have e1 : ¬ (1000 : Int) < (key.size : Int) := by omega
  have hC := HC.out (by omega)
  have hm100 : m ≤ 100 := by omega
  have HN := hid (fun (u : World) (ku : Kept w u) => ak_new (W := w) (u := 9) HT.out ku H8.out (by rw [HM.out]; exact hm100) (by unfold inU64; decide) (rg_kept encU_ok HR.out ku))
  have HFi0 : Hid (Fi key l [] (newQ l 9)) := hid (fi_new (by rw [HM.out]; exact hm100) H8.out (by unfold inU64; decide))
  clear hb0 hb1
  go_enter Try.func3, Try.ntmps3
  go_wp2_with fail
  refine hC.mono ?_
  rintro e w5 ⟨r1, L1, rfl, o1, hL1, hcu1, k5⟩
  have HR1 := hid (rg_own encO_ok o1)
  have HK5 := hid k5
  have HCu1 := hid hcu1
  have HL1 := hid hL1
  obtain ⟨ra, rc, rfl, hrc1, hrc2⟩ := og_is encO_ok o1
  unfold maxLen at hrc2
  have HG1 : Hid (∀ j : Nat, j < L1.length → ∃ y, L1[j]? = some y) := hid (fun j hj => ⟨L1[j], List.getElem?_eq_getElem hj⟩)
  have HP1 : Hid (0 < L1.length → ∃ g o, ra = some ⟨g, o, none⟩) := hid (fun hp => by
    obtain ⟨g, o, c, e⟩ := rg_pos HR1.out hp
    injection e with e1
    exact ⟨g, o, e1⟩)
  have hz := zeroOv
  generalize hk1 : L1.length = k1 at *
  have HM0 : Hid (Gd' mapB (w5.alloc (.map #[] 0)) w5.heap.size (setG (nodesL []))) := hid (by
    show Gd' mapB _ _ (setG [])
    rw [setG_nil]
    exact gd_made w5)
  have HK0 := hid (kept_alloc (kept_refl w5) (.map #[] 0))
  clear o1 hcu1 k5 hC hk1 hL1
  go_wp2_with fail
  have HS1 : Hid (w5.heap.size ≤ w5.heap.size) := hid (Nat.le_refl _)
  generalize w5.alloc (.map #[] 0) = w6 at *
  obtain ⟨S1, hS1⟩ : ∃ k, w5.heap.size = k := ⟨_, rfl⟩
  have HS : Hid (w5.heap.size = S1) := hid hS1
  rw [hS1] at HM0
  simp only [hS1]
  clear hS1 HS1
  go_loopw [11, 40] (fun rv iv wr => ∃ (i : Nat) (P : List Opn), i ≤ k1 ∧ iv = .int .i64 (i : Int) ∧ Hid (Kept w5 wr) ∧ Hid (Og encO 11 36 wr w5.heap.size rv P) ∧ Hid (Gd' mapB wr S1 (setG (nodesL P))) ∧ Hid (P.length ≤ i ∧ Apart P ∧ Cutt key P)) (fun _ iv _ => k1 - (intOf iv).toNat)
  case atStart => exact ⟨0, [], Nat.zero_le _, rfl, HK0, hid (og_nil _ _ _ _ _), HM0, hid ⟨Nat.le_refl _, apart_nil, fun o ho => by simp at ho⟩⟩
  case round =>
    obtain ⟨i, P, hi, rfl, HKr, HOr, HMr, HPr⟩ := hrel
    clear HM0 HK0
    by_cases hlt : i < k1
    · have hltz : (i : Int) < (k1 : Int) := by omega
      obtain ⟨o, ho⟩ := HG1.out i hlt
      obtain ⟨g, oo, rfl⟩ := HP1.out (by omega)
      obtain ⟨c0, c1, c2, c3, c4, c5, c6, c7, c8, c9, c10⟩ := rg_O (rg_kept encO_ok HR1.out HKr.out) ho
      have HNo := hid (HCu1.out o (List.mem_of_getElem? ho))
      have HZ := hid (at_new wr #[.int .u8 o.node, .bool o.x.has, .bool o.x.past, .string o.x.r.key, .int .u64 o.x.r.s.p, .int .u32 o.x.r.s.l, .int .u8 o.x.r.s.n, .int .u8 o.x.r.kind, .int .u32 o.x.r.flags, .int .u64 o.x.r.exp, .string o.x.r.body] 36)
      have ka := kept_alloc (kept_refl wr) (.cells #[.int .u8 o.node, .bool o.x.has, .bool o.x.past, .string o.x.r.key, .int .u64 o.x.r.s.p, .int .u32 o.x.r.s.l, .int .u8 o.x.r.s.n, .int .u8 o.x.r.kind, .int .u32 o.x.r.flags, .int .u64 o.x.r.exp, .string o.x.r.body] 36)
      have HKa := hid (kept_trans HKr.out ka)
      have HOa := hid (og_stays HOr.out ka)
      have HMa := hid (gd_kept HMr.out ka)
      have HZm : Hid (wr.heap.size ≠ S1) := hid (by have := gm_lt HMr.out; omega)
      clear ho ka HKr HOr HMr
      go_upto_region 9 with fail
      generalize wr.alloc (.cells #[.int .u8 o.node, .bool o.x.has, .bool o.x.past, .string o.x.r.key, .int .u64 o.x.r.s.p, .int .u32 o.x.r.s.l, .int .u8 o.x.r.s.n, .int .u8 o.x.r.kind, .int .u32 o.x.r.flags, .int .u64 o.x.r.exp, .string o.x.r.body] 36) = wa at *
      generalize wr.heap.size = Zo at *
      clear c0 c1 c2 c3 c4 c5 c6 c7 c8 c9 c10
      obtain ⟨y0, y1, y2, y3, y4, y5, y6, y7, y8, y9, y10⟩ := cells11 HZ.out
      have hl1 := look_B HMa.out HNo.out.1
      rw [setG_get] at hl1
      cases hse : inL (nodesL P) o.node with
      | true =>
        rw [hse] at hl1
        clear hse
        go_wp2_with fail
        go_roundw
        case rel => exact ⟨i + 1, P, by omega, by go_num, HKa, HOa, HMa, hid ⟨by have := HPr.out.1; omega, HPr.out.2⟩⟩
        case measure => simp [intOf]; omega
      | false =>
        rw [hse] at hl1
        have HNew := hid (apart_app HPr.out.2.1 hse)
        obtain ⟨w7, hput, hd7, ht7⟩ := put_B HMa.out HNo.out.1
        rw [setG_put, ← nodes_next] at hd7
        have HZ7 : At w7 Zo #[.int .u8 o.node, .bool o.x.has, .bool o.x.past, .string o.x.r.key, .int .u64 o.x.r.s.p, .int .u32 o.x.r.s.l, .int .u8 o.x.r.s.n, .int .u8 o.x.r.kind, .int .u32 o.x.r.flags, .int .u64 o.x.r.exp, .string o.x.r.body] 36 := at_turned HZ.out ht7
        obtain ⟨z0, z1, z2, z3, z4, z5, z6, z7, z8, z9, z10⟩ := cells11 HZ7
        have kl := kept_alloc (kept_refl w7) (.cells #[.int .u8 o.node, .bool o.x.has, .bool o.x.past, .string o.x.r.key, .int .u64 o.x.r.s.p, .int .u32 o.x.r.s.l, .int .u8 o.x.r.s.n, .int .u8 o.x.r.kind, .int .u32 o.x.r.flags, .int .u64 o.x.r.exp, .string o.x.r.body] 36)
        have HKl := hid (kept_trans (kept_turned HKa.out (by rw [HS.out]; exact Nat.le_refl _) ht7) kl)
        have HOl := hid (og_stays (og_turned HOa.out ht7) kl)
        have HMl := hid (gd_kept hd7 kl)
        have HAl := hid (rg_alone encO_ok (y := o) (at_new w7 #[.int .u8 o.node, .bool o.x.has, .bool o.x.past, .string o.x.r.key, .int .u64 o.x.r.s.p, .int .u32 o.x.r.s.l, .int .u8 o.x.r.s.n, .int .u8 o.x.r.kind, .int .u32 o.x.r.flags, .int .u64 o.x.r.exp, .string o.x.r.body] 36))
        have hl101 : P.length + 1 ≤ 4096 := by have := HPr.out.1; have := HL1.out; omega
        clear hse hd7 ht7 HZ7 kl HZ
        go_wp2_with (at_builtin; refine wpList_gapp rfl (.tmp 52) (.tmp 54) rfl encO_ok tyO (by decide) w5.heap.size _ _ _ [o] rfl HOl.out rfl HAl.out (by simp; omega) HKl.out.2 ?_; intro v9 w9 hown9 hgrow9 hnil9; have HO9 := hid hown9; have HK9 := hid (kept_gr HKl.out hgrow9 (fun q hq => og_lt HOl.out hq)); have HM9 := hid (gd_row HMl.out HOl.out hgrow9); clear hown9 hgrow9 hnil9)
        go_roundw
        case rel => exact ⟨i + 1, _, by omega, by go_num, HK9, HO9, HM9, hid ⟨by rw [List.length_append]; have := HPr.out.1; simp; omega, HNew.out, cutt_app HPr.out.2.2 HNo.out⟩⟩
        case measure => simp [intOf]; omega
    · have hltz : ¬ (i : Int) < (k1 : Int) := by omega
      have HRo := hid (rg_own encO_ok HOr.out)
      have HKw := hid (kept_trans HK5.out HKr.out)
      have HLt : Hid (0 < P.length → ∀ g, u11.ownBlock = some g → g < wr.heap.size) := hid (fun _ g hg => (World.ownsRow.lt HOr.out g hg).2)
      obtain ⟨sa, sc, rfl, hsc1, hsc2⟩ := og_is encO_ok HOr.out
      unfold maxLen at hsc2
      have HGp : Hid (∀ j : Nat, j < P.length → ∃ y, P[j]? = some y) := hid (fun j hj => ⟨P[j], List.getElem?_eq_getElem hj⟩)
      have HPp : Hid (0 < P.length → ∃ g o, sa = some ⟨g, o, none⟩) := hid (fun hp => by
        obtain ⟨g, o, c, e⟩ := rg_pos HRo.out hp
        injection e with e1
        exact ⟨g, o, e1⟩)
      have HLp : Hid (P.length ≤ 101) := hid (by have := HPr.out.1; have := HL1.out; omega)
      have HTk : Hid (P.take P.length = P) := hid List.take_length
      have HAp := hid HPr.out.2.1
      have HCt := hid HPr.out.2.2
      have HWa : Hid (∀ n0 : Nat, n0 < P.length → ∀ o, o ∈ P ↔ o ∈ walkL P n0 P.length) := hid (fun n0 h o => walk_all h o)
      have HPw : Hid (∀ (n0 i : Nat), n0 < P.length → i < P.length → ∃ y, P[rot n0 P.length i]? = some y ∧ rot n0 P.length i < P.length ∧ walkL P n0 (i + 1) = walkL P n0 i ++ [y] ∧ (∀ m ∈ walkL P n0 i, m.node ≠ y.node) ∧ ∀ m ∈ walkL P n0 i, m ∈ P) := hid (fun n0 i h h' => by
        have hl := rot_lt h h'
        have hy := List.getElem?_eq_getElem hl
        refine ⟨_, hy, hl, by rw [walk_next, getD_at hy], apart_walk HAp.out h h' hy, fun m hm => ?_⟩
        obtain ⟨j, hj, e⟩ := walk_mem.1 hm
        have hl2 := rot_lt h (show j < P.length by omega)
        rw [getD_at (List.getElem?_eq_getElem hl2)] at e
        rw [← e]
        exact List.getElem_mem hl2)
      generalize hm1 : P.length = m1 at *
      clear HKr HOr HMr HPr hm1
      by_cases hz0 : m1 = 0
      · have d0 : ((m1 : Int) == 0) = true := by subst hz0; rfl
        have e0 : (m1 : Int) = 0 := by omega
        go_wp2_with fail
        refine (HF.out wr).mono ?_
        rintro e w8 ⟨rfl, k8⟩
        have HK8 := hid (kept_trans HKw.out k8)
        clear k8
        go_wp2_with fail
        go_ret
        exact ⟨rfl, HK8.out⟩
      have d0' : ((m1 : Int) == 0) = false := by
        have : (m1 : Int) ≠ 0 := by omega
        simpa using this
      have e0' : ¬ (m1 : Int) = 0 := by omega
      obtain ⟨n0, hn0⟩ : ∃ r : Nat, tu % (m1 : Int) = (r : Int) := ⟨(tu % (m1 : Int)).toNat, by have := Int.emod_nonneg tu (b := (m1 : Int)) (by omega); omega⟩
      have hn0l : n0 < m1 := by have := Int.emod_lt_of_pos tu (b := (m1 : Int)) (by omega); omega
      have t1 : Int.tmod tu (m1 : Int) = (n0 : Int) := by rw [Int.tmod_eq_emod_of_nonneg HTu.out.1, hn0]
      have t2 : IntKind.i64.wrap tu = tu := IntWalk.i64_in _ (by have := HTu.out.1; have := HTu.out.2; omega)
      have t3 : IntKind.i64.wrap (n0 : Int) = (n0 : Int) := IntWalk.i64_in _ (by have := HLp.out; omega)
      have hN1 := HN.out wr HKw.out
      clear hn0
      go_wp2_with fail
      clear t1 t2 t3
      refine hN1.mono ?_
      rintro e w10 ⟨X, F, rfl, x1, k10, hf1⟩
      have HX1 := hid (And.intro x1 (And.intro k10 hf1))
      have hN2 := HN.out w10 x1.k
      clear hN1 x1 k10 hf1
      go_wp2_with fail
      refine hN2.mono ?_
      rintro e w11 ⟨Y, G, rfl, y1, k11, hg1⟩
      have HE0 := hid (e2_new HT.out HRo.out (by have := HLt.out; intro hp; exact this (by first | exact hp | omega)) HX1.out.1 HX1.out.2.1 HX1.out.2.2 y1 k11 hg1)
      have HFq0 : Hid (Fi key l (P.take 0) (newQ l 9) ∧ Rv 9 (P.take 0) (newQ l 9)) := hid (by rw [List.take_zero]; exact ⟨HFi0.out, rv_new l 9⟩)
      have HFp0 : Hid (Fi key l (walkL P n0 0) (newQ l 9) ∧ Rv 9 (walkL P n0 0) (newQ l 9)) := hid ⟨HFi0.out, rv_new l 9⟩
      clear hN2 y1 k11 hg1 HX1 HRo HLt
      go_wp2_with fail
      go_loopw [78] (fun iv wx => ∃ (i : Nat) (q p : Aq) (F2 G2 : Nat → Prop), i ≤ m1 ∧ iv = .int .i64 (i : Int) ∧ Hid (Fi key l (P.take i) q ∧ Rv 9 (P.take i) q) ∧ Hid (Fi key l (walkL P n0 i) p ∧ Rv 9 (walkL P n0 i) p) ∧ Hid (E2 T w X Y q p F2 G2 (.slice sa m1 sc) P wx)) (fun iv _ => m1 - (intOf iv).toNat)
      case atStart => exact ⟨0, _, _, F, G, Nat.zero_le _, rfl, HFq0, HFp0, HE0⟩
      case round =>
      obtain ⟨i, q, p, F2, G2, hi, rfl, HFq, HFp, HEr⟩ := hrel
      clear HFq0 HFp0 HE0
      by_cases hlt : i < m1
      · have hltz : (i : Int) < (m1 : Int) := by omega
        obtain ⟨o, ho⟩ := HGp.out i hlt
        obtain ⟨y, hy, hrl, hyw, hya, hym⟩ := HPw.out n0 i hn0l hlt
        obtain ⟨g, oo, rfl⟩ := HPp.out (by omega)
        have HO := hid ho
        have HO2 := hid hy
        have HNo := hid (HCt.out o (List.mem_of_getElem? ho))
        have HNy := hid (HCt.out y (List.mem_of_getElem? hy))
        have HFq2 : Hid (Fi key l (P.take (i + 1)) (takeQ q o.node o.x) ∧ Rv 9 (P.take (i + 1)) (takeQ q o.node o.x)) := hid (by
          rw [take_next ho]
          exact ⟨fi_take HFq.out.1 HNo.out.1 HNo.out.2.1 HNo.out.2.2, rv_take HFq.out.1 HFq.out.2 HNo.out.1 (fun m hm => ⟨(HCt.out m (List.mem_of_mem_take hm)).1, apart_take HAp.out ho m hm⟩)⟩)
        have HFp2 : Hid (Fi key l (walkL P n0 (i + 1)) (takeQ p y.node y.x) ∧ Rv 9 (walkL P n0 (i + 1)) (takeQ p y.node y.x)) := hid (by
          rw [hyw]
          exact ⟨fi_take HFp.out.1 HNy.out.1 HNy.out.2.1 HNy.out.2.2, rv_take HFp.out.1 HFp.out.2 HNy.out.1 (fun m hm => ⟨(HCt.out m (hym m hm)).1, hya m hm⟩)⟩)
        have t4 : Int.tmod ((n0 : Int) + (m1 : Int) - (i : Int)) (m1 : Int) = (rot n0 m1 i : Int) := rot_rem hn0l hlt
        have hmx : m1 ≤ 101 := HLp.out
        generalize rot n0 m1 i = r at *
        have hrz : (r : Int) < (m1 : Int) := by omega
        clear ho hy hyw hya hym
        go_upto_region 22 with fail
        have kd : Kept wr wr.drew := kept_drew (kept_refl wr)
        have HEd := hid (e2_kept HT.out HEr.out kd)
        have hTk := ak_take HT.out HEd.out.x (one_of HFq.out.1) HNo.out.1 HNo.out.2.1
        obtain ⟨c0, c1, c2, c3, c4, c5, c6, c7, c8, c9, c10⟩ := rg_O HEd.out.r.1 HO.out
        have hS := And.intro c0 (And.intro c1 (And.intro c2 (And.intro c3 (And.intro c4 (And.intro c5 (And.intro c6 (And.intro c7 (And.intro c8 (And.intro c9 c10)))))))))
        clear kd c0 c1 c2 c3 c4 c5 c6 c7 c8 c9 c10 HEr
        refine wp_region_noPanic ?_
        refine wp_region_held_drew (S := (fun w' => (w'.cell? ⟨g, oo + i * 11, none⟩ = some (.int .u8 o.node)) ∧ (w'.cell? ⟨g, oo + i * 11 + 1, none⟩ = some (.bool o.x.has)) ∧ (w'.cell? ⟨g, oo + i * 11 + 2, none⟩ = some (.bool o.x.past)) ∧ (w'.cell? ⟨g, oo + i * 11 + 3, none⟩ = some (.string o.x.r.key)) ∧ (w'.cell? ⟨g, oo + i * 11 + 4, none⟩ = some (.int .u64 o.x.r.s.p)) ∧ (w'.cell? ⟨g, oo + i * 11 + 5, none⟩ = some (.int .u32 o.x.r.s.l)) ∧ (w'.cell? ⟨g, oo + i * 11 + 6, none⟩ = some (.int .u8 o.x.r.s.n)) ∧ (w'.cell? ⟨g, oo + i * 11 + 7, none⟩ = some (.int .u8 o.x.r.kind)) ∧ (w'.cell? ⟨g, oo + i * 11 + 8, none⟩ = some (.int .u32 o.x.r.flags)) ∧ (w'.cell? ⟨g, oo + i * 11 + 9, none⟩ = some (.int .u64 o.x.r.exp)) ∧ (w'.cell? ⟨g, oo + i * 11 + 10, none⟩ = some (.string o.x.r.body)))) (by kernel_rfl) (hS) (fun hHeld => ?_)
        generalize wr.drew = wd at *
        refine wpAnyH_take (i := 0) (v := .pointer (some ⟨X, 0, none⟩)) rfl (by kernel_rfl) (by kernel_rfl) (by kernel_rfl) (fun _ _ _ h => h) (Or.inl ⟨by rfl, fun w hSw => by (try dsimp only at hSw); go_simp⟩) (by assumption) ?_
        try simp only [List.getElem_toArray, List.getElem_cons_zero, List.getElem_cons_succ, Act.put, List.setIfInBounds_toArray, List.set_cons_zero, List.set_cons_succ]
        refine wpAnyH_take (i := 1) (v := .slice (some ⟨g, oo, none⟩) m1 sc) rfl (by kernel_rfl) (by kernel_rfl) (by kernel_rfl) (fun _ _ _ h => h) (Or.inl ⟨by rfl, fun w hSw => by (try dsimp only at hSw); go_simp⟩) (by assumption) ?_
        try simp only [List.getElem_toArray, List.getElem_cons_zero, List.getElem_cons_succ, Act.put, List.setIfInBounds_toArray, List.set_cons_zero, List.set_cons_succ]
        refine wpAnyH_take (i := 2) (v := .int .i64 (i : Int)) rfl (by kernel_rfl) (by kernel_rfl) (by kernel_rfl) (fun _ _ _ h => h) (Or.inl ⟨by rfl, fun w hSw => by (try dsimp only at hSw); go_simp⟩) (by assumption) ?_
        try simp only [List.getElem_toArray, List.getElem_cons_zero, List.getElem_cons_succ, Act.put, List.setIfInBounds_toArray, List.set_cons_zero, List.set_cons_succ]
        refine wpAnyH_take (i := 3) (v := .pointer (some ⟨g, oo + i * 11, none⟩)) rfl (by kernel_rfl) (by kernel_rfl) (by kernel_rfl) (fun _ _ _ h => h) (Or.inl ⟨by rfl, fun w hSw => by (try dsimp only at hSw); go_simp⟩) (by assumption) ?_
        try simp only [List.getElem_toArray, List.getElem_cons_zero, List.getElem_cons_succ, Act.put, List.setIfInBounds_toArray, List.set_cons_zero, List.set_cons_succ]
        refine wpAnyH_take (i := 4) (v := .pointer (some ⟨g, oo + i * 11, none⟩)) rfl (by kernel_rfl) (by kernel_rfl) (by kernel_rfl) (fun _ _ _ h => h) (Or.inl ⟨by rfl, fun w hSw => by (try dsimp only at hSw); go_simp⟩) (by assumption) ?_
        try simp only [List.getElem_toArray, List.getElem_cons_zero, List.getElem_cons_succ, Act.put, List.setIfInBounds_toArray, List.set_cons_zero, List.set_cons_succ]
        refine wpAnyH_take (i := 5) (v := .int .u8 o.node) rfl (by kernel_rfl) (by kernel_rfl) (by kernel_rfl) (fun _ _ _ h => h) (Or.inl ⟨by rfl, fun w hSw => by (try dsimp only at hSw); go_simp⟩) (by assumption) ?_
        try simp only [List.getElem_toArray, List.getElem_cons_zero, List.getElem_cons_succ, Act.put, List.setIfInBounds_toArray, List.set_cons_zero, List.set_cons_succ]
        refine wpAnyH_take (i := 6) (v := .slice (some ⟨g, oo, none⟩) m1 sc) rfl (by kernel_rfl) (by kernel_rfl) (by kernel_rfl) (fun _ _ _ h => h) (Or.inl ⟨by rfl, fun w hSw => by (try dsimp only at hSw); go_simp⟩) (by assumption) ?_
        try simp only [List.getElem_toArray, List.getElem_cons_zero, List.getElem_cons_succ, Act.put, List.setIfInBounds_toArray, List.set_cons_zero, List.set_cons_succ]
        refine wpAnyH_take (i := 7) (v := .int .i64 (i : Int)) rfl (by kernel_rfl) (by kernel_rfl) (by kernel_rfl) (fun _ _ _ h => h) (Or.inl ⟨by rfl, fun w hSw => by (try dsimp only at hSw); go_simp⟩) (by assumption) ?_
        try simp only [List.getElem_toArray, List.getElem_cons_zero, List.getElem_cons_succ, Act.put, List.setIfInBounds_toArray, List.set_cons_zero, List.set_cons_succ]
        refine wpAnyH_take (i := 8) (v := .pointer (some ⟨g, oo + i * 11, none⟩)) rfl (by kernel_rfl) (by kernel_rfl) (by kernel_rfl) (fun _ _ _ h => h) (Or.inl ⟨by rfl, fun w hSw => by (try dsimp only at hSw); go_simp⟩) (by assumption) ?_
        try simp only [List.getElem_toArray, List.getElem_cons_zero, List.getElem_cons_succ, Act.put, List.setIfInBounds_toArray, List.set_cons_zero, List.set_cons_succ]
        refine wpAnyH_take (i := 9) (v := .pointer (some ⟨g, oo + i * 11 + 1, none⟩)) rfl (by kernel_rfl) (by kernel_rfl) (by kernel_rfl) (fun _ _ _ h => h) (Or.inl ⟨by rfl, fun w hSw => by (try dsimp only at hSw); go_simp⟩) (by assumption) ?_
        try simp only [List.getElem_toArray, List.getElem_cons_zero, List.getElem_cons_succ, Act.put, List.setIfInBounds_toArray, List.set_cons_zero, List.set_cons_succ]
        refine wpAnyH_take (i := 10) (v := .agg #[.bool o.x.has, .bool o.x.past, .string o.x.r.key, .int .u64 o.x.r.s.p, .int .u32 o.x.r.s.l, .int .u8 o.x.r.s.n, .int .u8 o.x.r.kind, .int .u32 o.x.r.flags, .int .u64 o.x.r.exp, .string o.x.r.body]) rfl (by kernel_rfl) (by kernel_rfl) (by kernel_rfl) (fun _ _ _ h => h) (Or.inl ⟨by rfl, fun w hSw => by (try dsimp only at hSw); go_simp⟩) (by assumption) ?_
        try simp only [List.getElem_toArray, List.getElem_cons_zero, List.getElem_cons_succ, Act.put, List.setIfInBounds_toArray, List.set_cons_zero, List.set_cons_succ]
        refine wpAnyH_ready (rs := [11]) (by kernel_rfl) (by simp) ?_
        refine AllReadyH.cons (i := 11) rfl (fun K hK => ?_) AllReadyH.nil
        go_simp
        refine (hTk).mono ?_
        rintro e w6 ⟨F6, rfl, t6, d6⟩
        have HE6 := hid (e2_x HT.out HEd.out t6 d6)
        obtain ⟨c0, c1, c2, c3, c4, c5, c6, c7, c8, c9, c10⟩ := rg_O HE6.out.r.1 HO.out
        have hS := And.intro c0 (And.intro c1 (And.intro c2 (And.intro c3 (And.intro c4 (And.intro c5 (And.intro c6 (And.intro c7 (And.intro c8 (And.intro c9 c10)))))))))
        clear t6 d6 hTk c0 c1 c2 c3 c4 c5 c6 c7 c8 c9 c10
        clear hHeld
        show K _ _
        refine hK.out _ _ (hS) (fun hHeld => ?_)
        clear hK K
        try simp only [List.getElem_toArray, List.getElem_cons_zero, List.getElem_cons_succ, Act.put, List.setIfInBounds_toArray, List.set_cons_zero, List.set_cons_succ]
        refine wpAnyH_done (by kernel_rfl) ?_ _
        refine NoPanic.normal ?_
        clear hHeld hS
        obtain ⟨d0, d1, d2, d3, d4, d5, d6, d7, d8, d9, d10⟩ := rg_O HE6.out.r.1 HO2.out
        have ka := kept_alloc (kept_refl w6) (.cells #[.int .u8 y.node, .bool y.x.has, .bool y.x.past, .string y.x.r.key, .int .u64 y.x.r.s.p, .int .u32 y.x.r.s.l, .int .u8 y.x.r.s.n, .int .u8 y.x.r.kind, .int .u32 y.x.r.flags, .int .u64 y.x.r.exp, .string y.x.r.body] 36)
        have HE7 := hid (e2_kept HT.out HE6.out ka)
        have hTy := ak_take HT.out HE7.out.y (one_of HFp.out.1) HNy.out.1 HNy.out.2.1
        obtain ⟨p0, p1, p2, p3, p4, p5, p6, p7, p8, p9, p10⟩ := cells11 (at_new w6 #[.int .u8 y.node, .bool y.x.has, .bool y.x.past, .string y.x.r.key, .int .u64 y.x.r.s.p, .int .u32 y.x.r.s.l, .int .u8 y.x.r.s.n, .int .u8 y.x.r.kind, .int .u32 y.x.r.flags, .int .u64 y.x.r.exp, .string y.x.r.body] 36)
        clear ka
        go_wp2_with fail
        refine hTy.mono ?_
        rintro e w8 ⟨G7, rfl, t7, d7'⟩
        have HE8 := hid (e2_y HT.out HE7.out t7 d7')
        clear hTy t7 d7' d0 d1 d2 d3 d4 d5 d6 d7 d8 d9 d10 p0 p1 p2 p3 p4 p5 p6 p7 p8 p9 p10
        go_wp2_with fail
        go_roundw
        case rel => exact ⟨i + 1, _, _, F6, G7, by omega, by go_num, HFq2, HFp2, HE8⟩
        case measure => simp [intOf]; omega
      · have hltz : ¬ (i : Int) < (m1 : Int) := by omega
        obtain rfl : i = m1 := by omega
        have hfq := HFq.out
        rw [HTk.out] at hfq
        obtain rfl : q = p := same_state hfq.1 hfq.2 HFp.out.1 HFp.out.2 (HWa.out n0 hn0l)
        have HQ : Hid (OneK q) := hid (one_of hfq.1)
        have HBn : Hid ((behQ q).length ≤ 4096) := hid (by
          have h1 := hfq.1.ga.len
          unfold behQ
          split
          · have := List.length_filter_le (lessB q (bestQ q)) q.l; omega
          · simp)
        have hB1 := HT.out.best X q F2 wr HEr.out.x.t HQ.out
        obtain ⟨bq, hbq⟩ : ∃ b, bestQ q = b := ⟨_, rfl⟩
        obtain ⟨lv, hlv⟩ : ∃ b, liveQ q = b := ⟨_, rfl⟩
        obtain ⟨sm, hsm⟩ : ∃ b, someQ q = b := ⟨_, rfl⟩
        have HBq : Hid (bestQ q = bq ∧ liveQ q = lv ∧ someQ q = sm) := hid ⟨hbq, hlv, hsm⟩
        rw [hbq, hlv, hsm] at hB1
        have heq := eq_self bq
        have hll : (lv == lv) = true := by simp
        have hss : (sm == sm) = true := by simp
        clear hbq hlv hsm hfq HFq HFp
        go_wp2_with fail
        refine hB1.mono ?_
        rintro e wa ⟨rfl, ka⟩
        have HA1 := hid (at_new wa #[.string bq.key, .int .u64 bq.s.p, .int .u32 bq.s.l, .int .u8 bq.s.n, .int .u8 bq.kind, .int .u32 bq.flags, .int .u64 bq.exp, .string bq.body] 32)
        have kb := kept_alloc (kept_refl wa) (.cells #[.string bq.key, .int .u64 bq.s.p, .int .u32 bq.s.l, .int .u8 bq.s.n, .int .u8 bq.kind, .int .u32 bq.flags, .int .u64 bq.exp, .string bq.body] 32)
        have HDa := hid (e2_kept HT.out HEr.out (kept_trans ka kb))
        have hB2 := HT.out.best Y q G2 _ HDa.out.y.t HQ.out
        rw [HBq.out.1, HBq.out.2.1, HBq.out.2.2] at hB2
        clear hB1 ka kb HEr
        go_wp2_with fail
        generalize wa.alloc (.cells #[.string bq.key, .int .u64 bq.s.p, .int .u32 bq.s.l, .int .u8 bq.s.n, .int .u8 bq.kind, .int .u32 bq.flags, .int .u64 bq.exp, .string bq.body] 32) = wb at *
        generalize wa.heap.size = A1 at *
        refine hB2.mono ?_
        rintro e wc ⟨rfl, kc⟩
        have HA2 := hid (at_new wc #[.string bq.key, .int .u64 bq.s.p, .int .u32 bq.s.l, .int .u8 bq.s.n, .int .u8 bq.kind, .int .u32 bq.flags, .int .u64 bq.exp, .string bq.body] 32)
        have kd := kept_alloc (kept_refl wc) (.cells #[.string bq.key, .int .u64 bq.s.p, .int .u32 bq.s.l, .int .u8 bq.s.n, .int .u8 bq.kind, .int .u32 bq.flags, .int .u64 bq.exp, .string bq.body] 32)
        have HA1b := hid (at_kept HA1.out (kept_trans kc kd))
        have HDb := hid (e2_kept HT.out HDa.out (kept_trans kc kd))
        clear hB2 kc kd HDa HA1
        go_wp2_with fail
        generalize wc.alloc (.cells #[.string bq.key, .int .u64 bq.s.p, .int .u32 bq.s.l, .int .u8 bq.s.n, .int .u8 bq.kind, .int .u32 bq.flags, .int .u64 bq.exp, .string bq.body] 32) = wd at *
        generalize wc.heap.size = A2 at *
        refine (HF.out wd).mono ?_
        rintro e wg ⟨rfl, kg⟩
        have HDd := hid (e2_kept HT.out HDb.out kg)
        obtain ⟨x0, x1, x2, x3, x4, x5, x6, x7⟩ := at_cells8' (at_kept HA1b.out kg)
        obtain ⟨y0, y1, y2, y3, y4, y5, y6, y7⟩ := at_cells8' (at_kept HA2.out kg)
        have hY1 := HT.out.yes X q F2 wg HDd.out.x.t HQ.out
        obtain ⟨ys, hys⟩ : ∃ k, (hasL q).length = k := ⟨_, rfl⟩
        have HYs := hid hys
        rw [hys] at hY1
        clear kg HDb HA1b HA2 hys
        go_wp2_with fail
        refine hY1.mono ?_
        rintro e wh ⟨rfl, kh⟩
        have HDe := hid (e2_kept HT.out HDd.out kh)
        have hY2 := HT.out.yes Y q G2 wh HDe.out.y.t HQ.out
        rw [HYs.out] at hY2
        clear kh HDd hY1 x0 x1 x2 x3 x4 x5 x6 x7 y0 y1 y2 y3 y4 y5 y6 y7
        go_wp2_with fail
        refine hY2.mono ?_
        rintro e wi ⟨rfl, ki⟩
        have HDf := hid (e2_kept HT.out HDe.out ki)
        have hH1 := HT.out.behind X q F2 wi HDf.out.x.t HQ.out
        clear ki HDe hY2
        go_wp2_with fail
        refine hH1.mono ?_
        rintro e wj ⟨b1, rfl, ob1, kj⟩
        have HB1 := hid (rg_own encU_ok ob1)
        have HDg := hid (e2_kept HT.out HDf.out kj)
        have hH2 := HT.out.behind Y q G2 wj HDg.out.y.t HQ.out
        clear kj HDf hH1 ob1
        go_wp2_with fail
        refine hH2.mono ?_
        rintro e wk ⟨b2, rfl, ob2, kk⟩
        have hSm := sameU_any (behQ q) HBn.out b1 b2 wk (rg_kept encU_ok HB1.out kk) (rg_own encU_ok ob2)
        have HDh := hid (e2_kept HT.out HDg.out kk)
        clear kk HDg hH2 ob2
        go_wp2_with fail
        refine hSm.mono ?_
        rintro e wl ⟨rfl, kl⟩
        have HDi := hid (e2_kept HT.out HDh.out kl)
        have hO1 := HT.out.over X q F2 0 wl HDi.out.x.t HQ.out (by unfold inU64; decide)
        obtain ⟨ov, hov⟩ : ∃ k, overQ q 0 = k := ⟨_, rfl⟩
        have HOv := hid hov
        rw [hov] at hO1
        have hoo : (ov == ov) = true := by simp
        clear kl HDh hSm hov
        go_wp2_with fail
        refine hO1.mono ?_
        rintro e wm ⟨rfl, km⟩
        have HDj := hid (e2_kept HT.out HDi.out km)
        have hO2 := HT.out.over Y q G2 0 wm HDj.out.y.t HQ.out (by unfold inU64; decide)
        rw [HOv.out] at hO2
        clear km HDi hO1
        go_wp2_with fail
        refine hO2.mono ?_
        rintro e wn ⟨rfl, kn⟩
        have HKn := hid (kept_trans HDj.out.x.k kn)
        clear kn
        go_wp2_with fail
        go_ret
        exact ⟨rfl, HKn.out⟩
end Go.Proofs.YtjmldnbepajnoaaR
