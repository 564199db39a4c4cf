/- The contract of the landed talk's Take. A talk has at most 64 pieces. -/
import Derived.Test.YtalcbahnhiibkaaTkCode5
import Derived.Deep.CutBlock
import Derived.Deep.DeepCutAuto
namespace Go.Proofs.Ytalcbahnhiibkaa
open Go.ChangeShapes Go.WideShapes Go.ChangeAt Go.RowKit
set_option linter.unusedVariables false
set_option linter.unusedSimpArgs false
set_option maxRecDepth 100000

/- The first i places. -/
def plc (D : Nat → Nat) (i : Nat) : List Nat := (List.range i).map D
theorem plc_next (D : Nat → Nat) (i : Nat) : plc D (i + 1) = plc D i ++ [D i] := by unfold plc; rw [List.range_succ, List.map_append]; rfl
theorem plc_out {key D : Nat → Nat} {n i : Nat} (h : Blk key D 0 n) (hi : i < n) : D i ∉ plc D i := by
  intro hm
  unfold plc at hm
  obtain ⟨j, hj, e⟩ := List.mem_map.1 hm
  rw [List.mem_range] at hj
  exact lx_ne (h.srt j i (by omega) hj hi) e
theorem keep_same {n : Nat} {l : List Pc} (g : Gd n l) (p : List Nat) : (bump l p).filter (fun q => !((q.told : Int) == (n : Int))) = keep n (bump l p) := by
  unfold keep
  apply List.filter_congr
  intro q hq
  obtain ⟨i, q', hi, rfl⟩ := bump_mem hq
  have h1 := (g.fit q' (List.mem_of_getElem? hi)).2.2
  have h2 : (bmp p i q').told ≤ n := by
    unfold bmp
    split
    · show q'.told + 1 ≤ n; omega
    · omega
  by_cases e : (bmp p i q').told = n
  · rw [e]; simp
  · have e2 : (((bmp p i q').told : Int) == (n : Int)) = false := by rw [beq_eq_false_iff_ne]; omega
    rw [e2]
    simp
    omega
theorem og_set3 {w : World} {Q c cap B : Nat} {xs : List Nw} {i : Nat} (h : Og encN 3 33 w B (.slice (some ⟨Q, 0, none⟩) c cap) xs) (hi : i < c) (y : Nw) : Og encN 3 33 (((w.setCell ⟨Q, i * 3, none⟩ (.int .u8 y.node)).setCell ⟨Q, i * 3 + 1, none⟩ (.int .u8 y.st)).setCell ⟨Q, i * 3 + 2, none⟩ (.int .u32 y.inc)) B (.slice (some ⟨Q, 0, none⟩) c cap) (xs.set i y) := by
  have hl := (og_len encN_ok h).1
  obtain ⟨x, hx⟩ : ∃ x, xs[i]? = some x := ⟨xs[i], List.getElem?_eq_getElem (by omega)⟩
  have g1 := og_put encN_ok h (j := 0) (x' := ⟨y.node, x.st, x.inc⟩) (u := .int .u8 y.node) hx (by decide) rfl
  have e1 : (xs.set i ⟨y.node, x.st, x.inc⟩)[i]? = some (⟨y.node, x.st, x.inc⟩ : Nw) := by rw [List.getElem?_set, if_pos rfl, if_pos (by omega)]
  have g2 := og_put encN_ok g1 (j := 1) (x' := ⟨y.node, y.st, x.inc⟩) (u := .int .u8 y.st) e1 (by decide) rfl
  rw [List.set_set] at g2
  have e2 : (xs.set i ⟨y.node, y.st, x.inc⟩)[i]? = some (⟨y.node, y.st, x.inc⟩ : Nw) := by rw [List.getElem?_set, if_pos rfl, if_pos (by omega)]
  have g3 := og_put encN_ok g2 (j := 2) (x' := y) (u := .int .u32 y.inc) e2 (by decide) rfl
  rw [List.set_set] at g3
  exact g3
theorem tell_set {l : List Pc} {D : Nat → Nat} {i c : Nat} (hi : i < c) (z : Nw) : (tellL l (plc D i) ++ List.replicate (c - i) z).set i (nws l (D i)) = tellL l (plc D (i + 1)) ++ List.replicate (c - (i + 1)) z := by
  have hl : (tellL l (plc D i)).length = i := by rw [tell_len]; unfold plc; simp
  obtain ⟨d, hd⟩ : ∃ d, c - i = d + 1 := ⟨c - i - 1, by omega⟩
  rw [plc_next, tell_more, hd, show c - (i + 1) = d by omega, List.replicate_succ, List.set_append_right _ _ (by omega), hl, Nat.sub_self, List.set_cons_zero, List.append_assoc]
  rfl
/- What stands while pieces are told. -/
structure TkR (w : World) (F : Nat → Prop) (X Y R Q n k c m : Nat) (v : Value) (l : List Pc) (D : Nat → Nat) (i : Nat) (u : World) : Prop where
  x : At u X #[.int .i64 (n : Int), .int .i64 (k : Int), v] 54
  y : At u Y #[.pointer (some ⟨X, 0, none⟩)] 23
  r : Pl u R m D
  q : Og encN 3 33 u 0 (.slice (some ⟨Q, 0, none⟩) c c) (tellL l (plc D i) ++ List.replicate (c - i) ⟨0, 0, 0⟩)
  p : Og encP 4 62 u 0 v (bump l (plc D i))
  t : Tn F w u
theorem tkr_next {w : World} {F : Nat → Prop} {X Y R Q G n k c m vc : Nat} {l : List Pc} {D : Nat → Nat} {i : Nat} {u : World} {q : Pc} (h : TkR w F X Y R Q n k c m (.slice (some ⟨G, 0, none⟩) m vc) l D i u) (hi : i < c) (hq : l[D i]? = some q) (hD : D i ∉ plc D i) (hF : ∀ b, b = G → F b) (hQ : w.heap.size ≤ Q) :
    TkR w F X Y R Q n k c m (.slice (some ⟨G, 0, none⟩) m vc) l D (i + 1) ((((u.setCell ⟨Q, i * 3, none⟩ (.int .u8 q.x.node)).setCell ⟨Q, i * 3 + 1, none⟩ (.int .u8 q.x.st)).setCell ⟨Q, i * 3 + 2, none⟩ (.int .u32 q.x.inc)).setCell ⟨G, D i * 4 + 3, none⟩ (.int .i64 ((q.told + 1 : Nat) : Int))) := by
  obtain ⟨cq, hcq⟩ := og_type h.q
  obtain ⟨cp, hcp⟩ := og_type h.p
  have nXQ : X ≠ Q := at_ne h.x hcq (by decide)
  have nYQ : Y ≠ Q := at_ne h.y hcq (by decide)
  have nRQ : R ≠ Q := at_ne h.r hcq (by decide)
  have nGQ : G ≠ Q := at_ne hcp hcq (by decide)
  have nXG : X ≠ G := at_ne h.x hcp (by decide)
  have nYG : Y ≠ G := at_ne h.y hcp (by decide)
  have nRG : R ≠ G := at_ne h.r hcp (by decide)
  have h1 := og_set3 h.q hi q.x
  have hp1 : Og encP 4 62 (((u.setCell ⟨Q, i * 3, none⟩ (.int .u8 q.x.node)).setCell ⟨Q, i * 3 + 1, none⟩ (.int .u8 q.x.st)).setCell ⟨Q, i * 3 + 2, none⟩ (.int .u32 q.x.inc)) 0 (.slice (some ⟨G, 0, none⟩) m vc) (bump l (plc D i)) := og_block h.p (fun g cur hg _ => by
    have : g = G := by simpa [Value.ownBlock] using hg.symm
    subst this
    exact (Below.heap_setCell _ _ _ _ nGQ).trans ((Below.heap_setCell _ _ _ _ nGQ).trans (Below.heap_setCell _ _ _ _ nGQ)))
  have h2 := og_put encP_ok hp1 (j := 3) (x' := ⟨q.x, q.told + 1⟩) (u := .int .i64 ((q.told + 1 : Nat) : Int)) (bump_at hq hD) (by decide) rfl
  refine ⟨at_other (at_other (at_other (at_other h.x nXQ _ _) nXQ _ _) nXQ _ _) nXG _ _, at_other (at_other (at_other (at_other h.y nYQ _ _) nYQ _ _) nYQ _ _) nYG _ _, at_other (at_other (at_other (at_other h.r nRQ _ _) nRQ _ _) nRQ _ _) nRG _ _, ?_, ?_, ?_⟩
  · rw [← tell_set hi, show nws l (D i) = q.x from nws_at hq]
    exact og_block h1 (fun g cur hg _ => by
      have : g = Q := by simpa [Value.ownBlock] using hg.symm
      subst this
      exact Below.heap_setCell _ _ _ _ (Ne.symm nGQ))
  · rw [plc_next, ← bump_set hq hD]
    exact h2
  · exact tn_comp (tn_comp (tn_comp (tn_comp h.t (tn_set _ Q _ _) (fun b hb => .inr (by rw [hb]; exact hQ))) (tn_set _ Q _ _) (fun b hb => .inr (by rw [hb]; exact hQ))) (tn_set _ Q _ _) (fun b hb => .inr (by rw [hb]; exact hQ))) (tn_set _ G _ _) (fun b hb => .inl (hF b hb))
set_option maxHeartbeats 6400000 in
theorem take_is (X n k : Nat) (l : List Pc) (F : Nat → Prop) (w : World) (h : TkT w X n k l F) (g : Gd n l) (hl : l.length ≤ 64) (h1 : 1 ≤ n) (h2 : n ≤ 64) (h3 : 1 ≤ k) (h4 : k ≤ 64) : Calls Try.prog 11 #[.pointer (some ⟨X, 0, none⟩)] w (TakeC TkT X n k (takeR l n k) (takeT l k) F w) := by
  have hTk := h
  obtain ⟨v, hX, hO, hF⟩ := h
  have HF : Hid (∀ b, F b ↔ (b = X ∨ v.ownBlock = some b)) := hid hF
  have hAY := at_new w #[.pointer (some ⟨X, 0, none⟩)] 23
  have hK1 := kept_alloc (kept_refl w) (.cells #[.pointer (some ⟨X, 0, none⟩)] 23)
  obtain ⟨w1, hw1⟩ : ∃ w1, w.alloc (.cells #[.pointer (some ⟨X, 0, none⟩)] 23) = w1 := ⟨_, rfl⟩
  obtain ⟨Y, hY⟩ : ∃ Y, w.heap.size = Y := ⟨_, rfl⟩
  rw [hw1, hY] at hAY
  rw [hw1] at hK1
  have hOrd := ord_any w1 (tk_stay hTk (fun b hb => kept_block hK1 (tk_lt hTk hb))) hl
  have c0 : w1.cell? ⟨Y, 0, none⟩ = some (.pointer (some ⟨X, 0, none⟩)) := at_cell hAY 0
  have HX1 := hid (at_kept hX hK1)
  have HO1 := hid (og_stays hO hK1)
  have HAY := hid hAY
  have HK1 := hid hK1
  have HG := hid g
  have HYs := hid hY
  clear hTk hX hO hF hAY hK1 g
  go_enter Try.func11, Try.ntmps11
  go_wp2_with fail
  refine hOrd.mono ?_
  rintro e w2 ⟨R, D, rfl, p2, b2, hR, k2⟩
  have HP2 := hid p2
  have HB2 := hid b2
  have HR := hid hR
  have HK2 := hid k2
  clear p2 b2 hR k2 hOrd hw1 c0 hY
  have hX2 := at_kept HX1.out HK2.out
  have hY2 := at_kept HAY.out HK2.out
  have c0 : w2.cell? ⟨Y, 0, none⟩ = some (.pointer (some ⟨X, 0, none⟩)) := at_cell hY2 0
  have c1 : w2.cell? ⟨X, 1, none⟩ = some (.int .i64 (k : Int)) := at_cell hX2 1
  have HX2 := hid hX2
  have HY2 := hid hY2
  have HO2 := hid (og_stays HO1.out HK2.out)
  clear hX2 hY2 HX1 HO1 HAY
  obtain ⟨va, vc, rfl, -, -⟩ := og_is encP_ok HO2.out
  generalize hnn : l.length = m at *
  obtain ⟨c, hc⟩ : ∃ c, min k m = c := ⟨_, rfl⟩
  have hcm : c ≤ m := by omega
  have hcz : (c : Int) ≤ (m : Int) := by omega
  obtain ⟨i0, hi0, hz0, hz1, hz2⟩ := info_parts infoN
  obtain ⟨cs, hmk, ho3⟩ := og_full (P := Try.prog) (t := 36) (e := 33) encN_ok Try.underlying36 hi0 hz0 hz1 (by rw [hz2]; decide) (z := ⟨0, 0, 0⟩) rfl c (by omega) w2
  have hK3 := kept_alloc (kept_refl w2) (.cells cs 33)
  obtain ⟨w3, hw3⟩ : ∃ w3, w2.alloc (.cells cs 33) = w3 := ⟨_, rfl⟩
  obtain ⟨Q, hQ⟩ : ∃ Q, w2.heap.size = Q := ⟨_, rfl⟩
  rw [hw3, hQ] at hmk ho3
  rw [hw3] at hK3
  have HC : Hid (min k m = c) := hid hc
  have HO3 := hid (og_low ho3 (Nat.zero_le _))
  have HK3 := hid hK3
  have HX3 := hid (at_kept HX2.out hK3)
  have HY3 := hid (at_kept HY2.out hK3)
  have HP3 := hid (at_kept HP2.out hK3)
  have HL3 := hid (og_stays HO2.out hK3)
  have HQ : Hid (w.heap.size ≤ Q ∧ w.heap.size ≤ R ∧ w.heap.size ≤ Y) := hid (by have := HK1.out.2; have := HK2.out.2; have := HR.out; have := HYs.out; omega)
  clear hi0 hz0 hz1 hz2 ho3 hK3 hc
  go_upto_region 4 with fail
  go_cut [3] (fun v wx => v = .slice (some ⟨R, 0, none⟩) c m ∧ wx = w2)
  case first =>
    by_cases hkm : m < k
    · have hkz : (m : Int) < (k : Int) := by omega
      have hcm2 : c = m := by have := HC.out; omega
      clear hmk hw3 hQ hcm hcz
      go_wp2_with fail
      go_meet
      exact ⟨by rw [hcm2], rfl⟩
    · have hkz : ¬ (m : Int) < (k : Int) := by omega
      have hcm2 : c = k := by have := HC.out; omega
      have hkm2 : (k : Int) ≤ (m : Int) := by omega
      clear hmk hw3 hQ hcm hcz
      go_wp2_with fail
      go_meet
      exact ⟨by rw [hcm2], rfl⟩
  case rest =>
  obtain ⟨rfl, rfl⟩ := hcut
  go_wp2_with fail
  clear hmk hw3 hQ c0 c1
  have HR0 : Hid (TkR w F X Y R Q n k c m (.slice va m vc) l D 0 w3) := hid ⟨HX3.out, HY3.out, HP3.out, (by simpa [plc, tellL] using HO3.out), (by simpa [plc, bump_nil] using HL3.out), tn_kept (kept_trans (kept_trans HK1.out HK2.out) HK3.out)⟩
  have HNN := hid hnn
  clear HX3 HY3 HP3 HO3 HL3 HX2 HY2 HP2 HO2 HK2 HK3 hnn
  go_loopw [25] (fun j wr => ∃ i : Nat, i ≤ c ∧ j = .int .i64 (i : Int) ∧ Hid (TkR w F X Y R Q n k c m (.slice va m vc) l D i wr)) (fun j _ => c - (intOf j).toNat)
  case atStart => exact ⟨0, Nat.zero_le _, rfl, HR0⟩
  case round =>
    obtain ⟨i, hi, rfl, HRr⟩ := hrel
    clear HR0
    by_cases hlt : i < c
    · have hltz : (i : Int) < (c : Int) := by omega
      obtain ⟨G, hG⟩ : ∃ G, va = some ⟨G, 0, none⟩ := by
        rcases HRr.out.p.2 with ⟨e, _⟩ | ⟨g, cc, cur, e, _⟩
        · injection e with e1 e2
          omega
        · injection e with e1
          exact ⟨g, e1⟩
      subst hG
      have hDm := (HB2.out.img i (Nat.zero_le _) (by omega)).2
      obtain ⟨q, hq⟩ : ∃ q, l[D i]? = some q := ⟨l[D i]'(by have := HNN.out; omega), List.getElem?_eq_getElem (by have := HNN.out; omega)⟩
      have hDo := plc_out HB2.out (i := i) (by omega)
      have hqt := (HG.out.fit q (List.mem_of_getElem? hq)).2.2
      have ci := pl_cell HRr.out.r (k := i) (by omega)
      obtain ⟨p0, p1, p2, p3⟩ := rg_P (rg_own encP_ok HRr.out.p) (bump_at hq hDo)
      simp only [Nat.zero_add] at p0 p1 p2 p3
      have hNext := hid (tkr_next HRr.out hlt hq hDo (fun b hb => (HF.out b).2 (.inr (by rw [hb]; rfl))) HQ.out.1)
      obtain ⟨cq, hcq⟩ := og_type HRr.out.q
      obtain ⟨cp, hcp⟩ := og_type HRr.out.p
      have nXQ : X ≠ Q := at_ne HRr.out.x hcq (by decide)
      have nYQ : Y ≠ Q := at_ne HRr.out.y hcq (by decide)
      have nGQ : G ≠ Q := at_ne hcp hcq (by decide)
      have nQX : Q ≠ X := Ne.symm nXQ
      have nQY : Q ≠ Y := Ne.symm nYQ
      have nQG : Q ≠ G := Ne.symm nGQ
      obtain ⟨zz, hzz⟩ : ∃ zz, (tellL l (plc D i) ++ List.replicate (c - i) (⟨0, 0, 0⟩ : Nw))[i]? = some zz := by
        have hlen := (og_len encN_ok HRr.out.q).1
        exact ⟨_, List.getElem?_eq_getElem (by omega)⟩
      obtain ⟨z0, z1, z2⟩ := rg_N (rg_own encN_ok HRr.out.q) hzz
      simp only [Nat.zero_add] at z0 z1 z2
      have fQ : ∀ j, wr.frozen? ⟨Q, j, none⟩ = false := og_frozen HRr.out.q
      have fG : ∀ j, wr.frozen? ⟨G, j, none⟩ = false := og_frozen HRr.out.p
      have cx : wr.cell? ⟨X, 2, none⟩ = some (.slice (some ⟨G, 0, none⟩) m vc) := at_cell HRr.out.x 2
      have cy : wr.cell? ⟨Y, 0, none⟩ = some (.pointer (some ⟨X, 0, none⟩)) := at_cell HRr.out.y 0
      obtain ⟨d, hd⟩ : ∃ d, D i = d := ⟨_, rfl⟩
      rw [hd] at ci p0 p1 p2 p3 hDm
      simp only [hd] at hNext
      have dz : (d : Int) < (m : Int) := by omega
      have qz : (q.told : Int) + 1 ≤ 64 := by omega
      have HCM : Hid (c ≤ m) := hid hcm
      clear hd hDo hqt hq hcq hcp hzz hDm h1 h2 h3 h4
      go_wp2_with fail
      go_roundw
      case rel =>
        have hx := hNext.out
        rw [show ((q.told + 1 : Nat) : Int) = (q.told : Int) + 1 by omega] at hx
        exact ⟨i + 1, by omega, by go_num, hid hx⟩
      case measure => simp [intOf]; omega
    · have hltz : ¬ (i : Int) < (c : Int) := by omega
      obtain rfl : i = c := by omega
      obtain ⟨w4, hw4⟩ : ∃ w4, w4 = wr := ⟨_, rfl⟩
      rw [← hw4] at HRr
      obtain ⟨v, hv⟩ : ∃ v, Value.slice va m vc = v := ⟨_, rfl⟩
      rw [hv] at HRr HF
      have hpk : pks l k = plc D i := by rw [pks_order (by rw [HNN.out]; exact HB2.out), HNN.out, HC.out]; rfl
      have hX4 := HRr.out.x
      have hY4 := HRr.out.y
      have hO4 : Og encP 4 62 w4.drew 0 v (bump l (pks l k)) := by rw [hpk]; exact HRr.out.p
      have hQ4 : Og encN 3 33 w4 0 (.slice (some ⟨Q, 0, none⟩) i i) (takeT l k) := by
        have := HRr.out.q
        rw [Nat.sub_self, List.replicate_zero, List.append_nil] at this
        unfold takeT
        rw [hpk]
        exact this
      have hT4 := HRr.out.t
      have hS0 : w4.cell? ⟨Y, 0, none⟩ = some (.pointer (some ⟨X, 0, none⟩)) := at_cell hY4 0
      have hS1 : w4.drew.cell? ⟨Y, 0, none⟩ = some (.pointer (some ⟨X, 0, none⟩)) := at_cell hY4 0
      have hx2 : w4.drew.cell? ⟨X, 2, none⟩ = some v := at_cell hX4 2
      obtain ⟨G, hG1, hG2⟩ := own_pick v w4.heap.size
      have nYG : Y ≠ G := by
        rintro rfl
        rcases hG2 with e | ⟨_, e⟩
        · obtain ⟨cs, hc⟩ := own_type hO4 e
          exact at_ne hc (at_drew hY4) (by decide) rfl
        · have := at_lt hY4; omega
      have nXG : X ≠ G := by
        rintro rfl
        rcases hG2 with e | ⟨_, e⟩
        · obtain ⟨cs, hc⟩ := own_type hO4 e
          exact at_ne hc (at_drew hX4) (by decide) rfl
        · have := at_lt hX4; omega
      have hp : PredOk 18 (.pointer (some ⟨Y, 0, none⟩)) (fun q => (q.told : Int) == (n : Int)) G w4.drew := fun u q ht => takedel_any q u (at_turn (at_drew hY4) ht nYG) (at_turn (at_drew hX4) ht nXG)
      have hI := del_any enters18 (by rw [bump_len, HNN.out]; omega) v w4.drew hO4 hG1 hp
      rw [keep_same HG.out] at hI
      have hmf : ∀ (fn : Fn) (first cap : Array Value) (w : World), (Instr.makeFunc fn first cap).run Try.prog w = .ok (.func fn first cap) w := fun _ _ _ _ => rfl
      have HF5 : Hid (∀ v5 w5, Og encP 4 62 w5 0 v5 (keep n (bump l (pks l k))) → v5.ownBlock = v.ownBlock → Turn G w4.drew w5 → TakeC TkT X n k (takeR l n k) (takeT l k) F w (.returned (.slice (some ⟨Q, 0, none⟩) i i)) (w5.setCell ⟨X, 2, none⟩ v5) ∧ (w5.setCell ⟨X, 2, none⟩ v5).cell? ⟨Y, 0, none⟩ = some (.pointer (some ⟨X, 0, none⟩)) ∧ w5.cell? ⟨Y, 0, none⟩ = some (.pointer (some ⟨X, 0, none⟩)) ∧ (w5.cell? ⟨X, 2, none⟩ = some v ∧ w5.frozen? ⟨X, 2, none⟩ = false)) := hid (fun v5 w5 o5 b5 t5 => by
        have hX5 := at_turn (at_drew hX4) t5 nXG
        have hY5 := at_turn (at_drew hY4) t5 nYG
        obtain ⟨cq, hcq⟩ := og_type hQ4
        have nQG : Q ≠ G := by
          rintro rfl
          rcases hG2 with e | ⟨_, e⟩
          · obtain ⟨cs, hc⟩ := own_type hO4 e
            exact at_ne hc (at_drew hcq) (by decide) rfl
          · have := at_lt hcq; omega
        have nXQ : Q ≠ X := at_ne hcq hX4 (by decide)
        have nYX : Y ≠ X := at_ne hY4 hX4 (by decide)
        have hQ6 : Og encN 3 33 (w5.setCell ⟨X, 2, none⟩ v5) 0 (.slice (some ⟨Q, 0, none⟩) i i) (takeT l k) := og_block hQ4 (fun g cur hg ha => by
          have : g = Q := by simpa [Value.ownBlock] using hg.symm
          subst this
          exact (Below.heap_setCell _ _ _ _ nXQ).trans (t5.2.2.2 g (at_lt ha) nQG))
        refine ⟨⟨_, fun b => b = X ∨ v5.ownBlock = some b, rfl, rg_own encN_ok hQ6, tk_store hX5 o5, ?_, fun b hb => ?_⟩, at_cell (at_other hY5 nYX 2 v5) 0, at_cell hY5 0, at_cell hX5 2, at_frozen hX5 2⟩
        · refine tn_comp (tn_comp (tn_comp hT4 (tn_kept (kept_drew (kept_refl w4))) (fun b hb => hb)) (tn_turn t5) (fun b hb => ?_)) (tn_set w5 X 2 v5) (fun b hb => .inl ((HF.out b).2 (.inl hb)))
          subst hb
          rcases hG2 with e | ⟨_, e⟩
          · exact .inl ((HF.out b).2 (.inr e))
          · exact .inr (by have := hT4.2.2.1; omega)
        · rcases hb with rfl | hb
          · exact .inl ((HF.out _).2 (.inl rfl))
          · exact .inl ((HF.out b).2 (.inr (by rw [← b5]; exact hb))))
      clear hX4 hY4 hO4 hQ4 hT4 hG1 hG2 nYG nXG hp hpk HRr h1 h2 h3 h4
      subst hv
      go_wp2_with fail
      rw [← hw4]
      clear hw4
      have hS := hS1
      refine wp_region_noPanic ?_
      refine wp_region_held_drew (S := (fun w' => w'.cell? ⟨Y, 0, none⟩ = some (.pointer (some ⟨X, 0, none⟩)))) (by kernel_rfl) (by assumption) (fun hHeld => ?_)
      generalize w4.drew = wd at *
      refine wpAnyH_take (i := 0) (v := .pointer (some ⟨X, 0, none⟩)) rfl (by kernel_rfl) (by kernel_rfl) (by kernel_rfl) (fun _ _ _ h => h) (Or.inl ⟨by rfl, fun w hSw => by (try dsimp only at hSw); go_simp⟩) (by assumption) ?_
      try simp only [List.getElem_toArray, List.getElem_cons_zero, List.getElem_cons_succ, Act.put, List.setIfInBounds_toArray, List.set_cons_zero, List.set_cons_succ]
      refine wpAnyH_take (i := 1) (v := .pointer (some ⟨X, 0, none⟩)) rfl (by kernel_rfl) (by kernel_rfl) (by kernel_rfl) (fun _ _ _ h => h) (Or.inl ⟨by rfl, fun w hSw => by (try dsimp only at hSw); go_simp⟩) (by assumption) ?_
      try simp only [List.getElem_toArray, List.getElem_cons_zero, List.getElem_cons_succ, Act.put, List.setIfInBounds_toArray, List.set_cons_zero, List.set_cons_succ]
      refine wpAnyH_take (i := 2) (v := .pointer (some ⟨X, 0, none⟩)) rfl (by kernel_rfl) (by kernel_rfl) (by kernel_rfl) (fun _ _ _ h => h) (Or.inl ⟨by rfl, fun w hSw => by (try dsimp only at hSw); go_simp⟩) (by assumption) ?_
      try simp only [List.getElem_toArray, List.getElem_cons_zero, List.getElem_cons_succ, Act.put, List.setIfInBounds_toArray, List.set_cons_zero, List.set_cons_succ]
      refine wpAnyH_take (i := 3) (v := .pointer (some ⟨X, 2, none⟩)) rfl (by kernel_rfl) (by kernel_rfl) (by kernel_rfl) (fun _ _ _ h => h) (Or.inl ⟨by rfl, fun w hSw => by (try dsimp only at hSw); go_simp⟩) (by assumption) ?_
      try simp only [List.getElem_toArray, List.getElem_cons_zero, List.getElem_cons_succ, Act.put, List.setIfInBounds_toArray, List.set_cons_zero, List.set_cons_succ]
      refine wpAnyH_take (i := 5) (v := .func (.func 18) #[] #[.pointer (some ⟨Y, 0, none⟩)]) rfl (by kernel_rfl) (by kernel_rfl) (by kernel_rfl) (fun _ _ _ h => h) (Or.inl ⟨by rfl, fun w hSw => by (try dsimp only at hSw); go_simp⟩) (by assumption) ?_
      try simp only [List.getElem_toArray, List.getElem_cons_zero, List.getElem_cons_succ, Act.put, List.setIfInBounds_toArray, List.set_cons_zero, List.set_cons_succ]
      refine wpAnyH_ready (rs := [4]) (by kernel_rfl) (by simp) ?_
      refine AllReadyH.cons (i := 4) rfl (fun K hK => ?_) AllReadyH.nil
      go_simp
      have hS := hS1
      clear hHeld
      show K _ _
      refine hK.out _ _ (by assumption) (fun hHeld => ?_)
      clear hK K
      try simp only [List.getElem_toArray, List.getElem_cons_zero, List.getElem_cons_succ, Act.put, List.setIfInBounds_toArray, List.set_cons_zero, List.set_cons_succ]
      refine wpAnyH_ready (rs := [6]) (by kernel_rfl) (by simp) ?_
      refine AllReadyH.cons (i := 6) rfl (fun K hK => ?_) AllReadyH.nil
      go_simp
      refine (hI).mono ?_
      rintro e w5 ⟨v5, rfl, o5, b5, t5⟩
      obtain ⟨a5, k5, e5, -, -⟩ := og_is encP_ok o5
      subst e5
      obtain ⟨h5a, h5b, h5c, h5d⟩ := HF5.out _ w5 o5 b5 t5
      have H5a := hid h5a
      have H5b := hid h5b
      have hS := h5c
      clear o5 b5 t5 hI h5a h5b h5c
      clear hHeld
      show K _ _
      refine hK.out _ _ (by assumption) (fun hHeld => ?_)
      clear hK K
      try simp only [List.getElem_toArray, List.getElem_cons_zero, List.getElem_cons_succ, Act.put, List.setIfInBounds_toArray, List.set_cons_zero, List.set_cons_succ]
      refine wpAnyH_take (i := 7) (v := .pointer (some ⟨X, 0, none⟩)) rfl (by kernel_rfl) (by kernel_rfl) (by kernel_rfl) (fun _ _ _ h => h) (Or.inl ⟨by rfl, fun w hSw => by (try dsimp only at hSw); go_simp⟩) (by assumption) ?_
      try simp only [List.getElem_toArray, List.getElem_cons_zero, List.getElem_cons_succ, Act.put, List.setIfInBounds_toArray, List.set_cons_zero, List.set_cons_succ]
      refine wpAnyH_take (i := 8) (v := .pointer (some ⟨X, 2, none⟩)) rfl (by kernel_rfl) (by kernel_rfl) (by kernel_rfl) (fun _ _ _ h => h) (Or.inl ⟨by rfl, fun w hSw => by (try dsimp only at hSw); go_simp⟩) (by assumption) ?_
      try simp only [List.getElem_toArray, List.getElem_cons_zero, List.getElem_cons_succ, Act.put, List.setIfInBounds_toArray, List.set_cons_zero, List.set_cons_succ]
      refine wpAnyH_ready (rs := [9]) (by kernel_rfl) (by simp) ?_
      refine AllReadyH.cons (i := 9) rfl (fun K hK => ?_) AllReadyH.nil
      obtain ⟨q2, qf⟩ := h5d
      go_simp
      have hS := H5b.out
      clear hHeld
      show K _ _
      refine hK.out _ _ (by assumption) (fun hHeld => ?_)
      clear hK K
      try simp only [List.getElem_toArray, List.getElem_cons_zero, List.getElem_cons_succ, Act.put, List.setIfInBounds_toArray, List.set_cons_zero, List.set_cons_succ]
      refine wpAnyH_done (by kernel_rfl) ?_ _
      refine NoPanic.normal ?_
      clear hHeld hS
      go_wp2_with fail
      go_ret
      exact H5a.out
end Go.Proofs.Ytalcbahnhiibkaa
