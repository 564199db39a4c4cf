/- The walk of HintPlays, out of what the landed hints must answer: the hints and the reference's row side by side. -/
import Derived.Test.YtahgplfkgijecaaHpAddN
import Derived.Test.YtahgplfkgijecaaHpAck
import Derived.Test.YtahgplfkgijecaaHpMiss
import Derived.Test.YtahgplfkgijecaaHpSettle
import Derived.Test.YtahgplfkgijecaaHpSame
import Derived.Test.YtahgplfkgijecaaHtFixed
import Derived.Test.YtahgplfkgijecaaHtLaw5
import Derived.Deep.CutBlock
import Derived.Deep.DeepCutAuto
namespace Go.Proofs.Ytahgplfkgijecaa
open Go.ChangeShapes Go.WideShapes Go.ChangeAt Go.RowKit
set_option linter.unusedVariables false
set_option linter.unusedSimpArgs false
set_option maxRecDepth 100000

/- A row, where it has members, apart from what is the hints' own. -/
def Apa {α : Type} (w : World) (F : Nat → Prop) (v : Value) (l : List α) : Prop := 0 < l.length → ∀ g, v.ownBlock = some g → Off w F g
section
variable {α : Type} {enc : α → List Value} {c : Nat} {w w' : World} {v u : Value} {xs ys : List α} {F F' : Nat → Prop}
theorem ap_sd (h : Rg enc c w v xs) (hF : Apa w F v xs) (d : Sd F w F' w') : Rg enc c w' v xs ∧ Apa w' F' v xs := by
  refine ⟨?_, fun hp g hg => off_sd (hF hp g hg) d⟩
  obtain ⟨a, cap, rfl, h1, h2, h3, h4⟩ := h
  refine ⟨a, cap, rfl, h1, h2, h3, fun hp => ?_⟩
  obtain ⟨g, o, rfl, hc⟩ := h4 hp
  refine ⟨g, o, rfl, fun i x j u hx hu => ?_⟩
  exact (World.cell?_of_block (w := w) (off_same (hF hp g rfl) d)).trans (hc i x j u hx hu)
theorem ap_kept {he : Enc enc c} (h : Rg enc c w v xs ∧ Apa w F v xs) (k : Kept w w') : Rg enc c w' v xs ∧ Apa w' F v xs := ⟨rg_kept he h.1 k, fun hp g hg => off_kept (h.2 hp g hg) k⟩
theorem ap_nw (he : Enc enc c) (h : Rg enc c w u xs) (hF : Apa w F u xs) (hb : ∀ b, F b → b < w.heap.size) (h' : Rg enc c w' v ys) (k : Kept w w') (n : Nw u v w) : Apa w' F v ys := by
  intro hp g hg
  rcases n with rfl | n
  · obtain ⟨a, cap, rfl, -⟩ := h
    obtain ⟨a', cap', e, -⟩ := h'
    injection e with e1 e2 e3
    exact off_kept (hF (by omega) g hg) k
  · obtain ⟨a', cap', rfl, -, -, -, h4⟩ := h'
    obtain ⟨q, o, rfl, hc⟩ := h4 hp
    injection hg with hg
    subst hg
    refine ⟨?_, fun hf => by have := n q rfl; have := hb q hf; omega⟩
    have h1 : ys[0]? = some (ys[0]'hp) := List.getElem?_eq_getElem hp
    have hl := he.len (ys[0]'hp)
    have h2 : (enc (ys[0]'hp))[0]? = some ((enc (ys[0]'hp))[0]'(by have := he.pos; omega)) := List.getElem?_eq_getElem _
    exact gcell_lt (hc 0 _ 0 _ h1 h2)
end
/- What stands side by side. -/
structure Pl (T : Shape Hs) (w0 : World) (X n : Nat) (l : List Ht) (F : Nat → Prop) (mv : Value) (wx : World) : Prop where
  t : TT T w0 X ⟨n, l⟩ F wx
  m : Rg encX 72 wx mv l
  o : Apa wx F mv l
  hg : Hg n l
section
variable {T : Shape Hs} {w0 w w' : World} {X n : Nat} {l : List Ht} {F F' : Nat → Prop} {mv : Value}
theorem pl_of (t : TT T w0 X ⟨n, l⟩ F w) (m : Rg encX 72 w mv l ∧ Apa w F mv l) (g : Hg n l) : Pl T w0 X n l F mv w := ⟨t, m.1, m.2, g⟩
theorem pl_kept (hT : HintsIs T) (h : Pl T w0 X n l F mv w) (k : Kept w w') : Pl T w0 X n l F mv w' := pl_of (tt_kept hT.obj h.t k) (ap_kept (he := encX_ok) ⟨h.m, h.o⟩ k) h.hg
end
theorem may_size {r : R} (h : mayR r = true) : r.key.size ≤ 1000 := by
  unfold mayR keyMay at h
  simp only [Bool.and_eq_true, decide_eq_true_eq] at h
  have := h.1.1.2
  omega
set_option maxHeartbeats 3200000 in
theorem plays_no {T : Shape Hs} (hT : HintsIs T) (n : Int) (v : Value) (w : World) (hb : ¬ (1 ≤ n ∧ n ≤ 64)) : Calls Try.prog 3 #[.int .i64 n, v] w fun e w' => e = .returned (.bool true) ∧ Kept w w' := by
  have hN := hT.new_bad n w hb
  have HF := hid (fun u => fixed_any hT u)
  by_cases h1 : 1 ≤ n
  · have d1 : decide (1 ≤ n) = true := by simpa using h1
    have h2 : ¬ n ≤ 64 := by omega
    have d2 : decide (n ≤ 64) = false := by simpa using h2
    clear hb hT
    go_enter Try.func3, Try.ntmps3
    go_wp2_with fail
    refine hN.mono ?_
    rintro e w1 ⟨rfl, k1⟩
    have HK1 := hid k1
    clear k1 hN
    go_wp2_with fail
    refine (HF.out w1).mono ?_
    rintro e w2 ⟨rfl, k2⟩
    have HK2 := hid (kept_trans HK1.out k2)
    clear k2 HF HK1
    go_wp2_with fail
    go_ret
    exact ⟨rfl, HK2.out⟩
  · have d1 : decide (1 ≤ n) = false := by simpa using h1
    clear hb hT
    go_enter Try.func3, Try.ntmps3
    go_wp2_with fail
    refine hN.mono ?_
    rintro e w1 ⟨rfl, k1⟩
    have HK1 := hid k1
    clear k1 hN
    go_wp2_with fail
    refine (HF.out w1).mono ?_
    rintro e w2 ⟨rfl, k2⟩
    have HK2 := hid (kept_trans HK1.out k2)
    clear k2 HF HK1
    go_wp2_with fail
    go_ret
    exact ⟨rfl, HK2.out⟩
set_option maxHeartbeats 12800000 in
theorem plays_yes {T : Shape Hs} (hT : HintsIs T) (n : Nat) (h1 : 1 ≤ n) (h2 : n ≤ 64) (ops : List Opn) (v : Value) (w : World) (hx : ∀ o ∈ ops, OpOk w o) (h : Rg encO 11 w v ops) : Calls Try.prog 3 #[.int .i64 (n : Int), v] w fun e w' => e = .returned (.bool true) ∧ Kept w w' := by
  have HT := hid hT
  have HF := hid (fun u => fixed_any hT u)
  have HR := hid h
  have HX := hid hx
  have HC := hid (fun u (ku : Kept w u) => cut_any ops v u (rg_kept encO_ok h ku))
  obtain ⟨a, cap, rfl, hc1, hc2, -, -⟩ := h
  unfold maxLen at hc2
  have HP : Hid (0 < ops.length → ∃ g o, a = some ⟨g, o, none⟩) := hid (fun hp => by
    obtain ⟨g, o, c, e⟩ := rg_pos HR.out hp
    injection e with e1
    exact ⟨g, o, e1⟩)
  have hN := ht_new (T := T) (W := w) (n := n) hT (kept_refl w) h1 h2
  have HG0 := hid (hg_nil h1 h2)
  have HNn : Hid (n ≤ 64) := hid h2
  have d1 : decide ((1 : Int) ≤ (n : Int)) = true := by simp; omega
  have d2 : decide ((n : Int) ≤ (64 : Int)) = true := by simp; omega
  have hz := zeroO
  have hzr := zeroRv
  generalize hm : ops.length = m at *
  have HM := hid hm
  clear hm hT hx h1 h2
  go_enter Try.func3, Try.ntmps3
  go_wp2_with fail
  refine hN.mono ?_
  rintro e w1 ⟨X, F, rfl, t1, -⟩
  have HT1 := hid t1
  clear t1 hN
  go_wp2_with fail
  refine (HF.out w1).mono ?_
  rintro e w2 ⟨rfl, k2⟩
  have HT2 := hid (tt_kept HT.out.obj HT1.out k2)
  clear k2 HT1 HF
  go_wp2_with fail
  refine (HC.out w2 HT2.out.k).mono ?_
  rintro e w3 ⟨c, hc, hc81, hfin, ⟨a', n', cap', ev, rfl⟩, k3⟩
  injection ev with ev1 ev2 ev3
  subst ev1 ev2 ev3
  rw [HM.out] at hc
  have HP3 : Hid (Pl T w X n [] F (.slice none 0 0) w3) := hid (pl_of (tt_kept HT.out.obj HT2.out k3) ⟨rg_nil encX 72 _, fun hp => absurd hp (by simp)⟩ HG0.out)
  have HFi : Hid (∀ i, i < c → ∃ y, ops[i]? = some y ∧ OpOk w y ∧ Fine y) := hid (fun i hi => by
    have hil : i < ops.length := by rw [HM.out]; omega
    refine ⟨ops[i], List.getElem?_eq_getElem hil, HX.out _ (List.getElem_mem hil), hfin _ ?_⟩
    rw [List.mem_iff_getElem?]
    exact ⟨i, by rw [List.getElem?_take, if_pos hi]; exact List.getElem?_eq_getElem hil⟩)
  clear hfin k3 HT2 HC HG0 d1 d2
  go_wp2_with fail
  go_loopw [8, 46] (fun mv iv wr => ∃ (i : Nat) (l : List Ht) (F' : Nat → Prop), i ≤ c ∧ iv = .int .i64 (i : Int) ∧ Hid (Pl T w X n l F' mv wr)) (fun _ iv _ => c - (intOf iv).toNat)
  case atStart => exact ⟨0, [], F, by omega, rfl, HP3⟩
  case round =>
    obtain ⟨i, l, F', hi, rfl, HPr⟩ := hrel
    clear HP3
    by_cases hlt : i < c
    · have hltz : (i : Int) < (c : Int) := by omega
      obtain ⟨y, hy, hyk, hyf⟩ := HFi.out i hlt
      obtain ⟨gg, oo, rfl⟩ := HP.out (by omega)
      obtain ⟨c0, c1, c2, c3, c4, c5, c6, c7, c8, c9, c10⟩ := rg_O (rg_kept encO_ok HR.out HPr.out.t.k) hy
      have HY := hid (at_new wr #[.int .i64 y.kind, .string y.r.key, .int .u64 y.r.s.p, .int .u32 y.r.s.l, .int .u8 y.r.s.n, .int .u8 y.r.kind, .int .u32 y.r.flags, .int .u64 y.r.exp, .string y.r.body, .int .u8 y.node, .slice y.uv y.up.length y.uc] 38)
      have ka := kept_alloc (kept_refl wr) (.cells #[.int .i64 y.kind, .string y.r.key, .int .u64 y.r.s.p, .int .u32 y.r.s.l, .int .u8 y.r.s.n, .int .u8 y.r.kind, .int .u32 y.r.flags, .int .u64 y.r.exp, .string y.r.body, .int .u8 y.node, .slice y.uv y.up.length y.uc] 38)
      have HPa := hid (pl_kept HT.out HPr.out ka)
      have HYo := hid (off_new HT.out.obj HPr.out.t (Nat.le_refl _) (at_lt HY.out))
      have HYk := hid hyk
      have HYf := hid hyf
      obtain ⟨p0, p1, p2, p3, p4, p5, p6, p7, p8, p9, p10⟩ := cells11 HY.out
      obtain ⟨ma, mc, rfl, -, -⟩ := rg_is HPr.out.m
      clear hy hyk hyf ka HPr
      go_upto_block 2 with fail
      generalize hwa : wr.alloc (.cells #[.int .i64 y.kind, .string y.r.key, .int .u64 y.r.s.p, .int .u32 y.r.s.l, .int .u8 y.r.s.n, .int .u8 y.r.kind, .int .u32 y.r.flags, .int .u64 y.r.exp, .string y.r.body, .int .u8 y.node, .slice y.uv y.up.length y.uc] 38) = wa at *
      generalize hYb : wr.heap.size = Y at *
      clear hwa hYb c0 c1 c2 c3 c4 c5 c6 c7 c8 c9 c10
      have HUa : Hid (∀ u, Kept w u → Rg encU 1 u (.slice y.uv y.up.length y.uc) y.up) := hid (fun u ku => rg_kept encU_ok HYk.out.2.2.2 ku)
      have HLl : Hid (l.length ≤ 64) := hid (Nat.le_trans HPa.out.hg.len HNn.out)
      have HKo : Hid (∀ x ∈ l, x.r.ok) := hid (fun x hx => (HPa.out.hg.may x hx).2.2)
      have HKs : Hid (∀ x ∈ l, x.r.key.size ≤ 1000) := hid (fun x hx => may_size (HPa.out.hg.may x hx).1)
      have HLt : Hid (∀ b, F' b → b < wa.heap.size) := hid (fun b hb => HT.out.obj.lt HPa.out.t.t hb)
      have hl64 : l.length ≤ 64 := HLl.out
      generalize hm2 : l.length = m2 at *
      have HLm := hid hm2
      clear hm2
      go_cut [8, 11, 12, 13] (fun mv _ _ _ wx => ∃ (l2 : List Ht) (F2 : Nat → Prop), Hid (Pl T w X n l2 F2 mv wx))
      case first =>
        by_cases hk0 : y.kind = 0
        · have hkb : (y.kind == 0) = true := by rw [hk0]; rfl
          have hA := radd_any l (by rw [HLm.out]; exact hl64) HKo.out n y.r HYk.out.1 _ wa HPa.out.m
          clear hk0
          go_wp2_with fail
          refine hA.mono ?_
          rintro e w6 ⟨v6, rfl, m6, k6, nw6⟩
          have HT6 := hid (tt_kept HT.out.obj HPa.out.t k6)
          have hap := ap_nw encX_ok HPa.out.m (by have := HPa.out.o; exact this) HLt.out m6 k6 nw6
          have HM6 := hid (⟨m6, hap⟩ : Rg encX 72 w6 v6 (addL n l y.r) ∧ Apa w6 F' v6 (addL n l y.r))
          obtain ⟨q0, q1, q2, q3, q4, q5, q6, q7, q8, q9, q10⟩ := cells11 (at_kept HY.out k6)
          have hB := ht_add HT.out HT6.out HPa.out.hg HYk.out.1 ⟨HYf.out.1, HYf.out.2.1⟩
          have HG2 := hid (hg_add HPa.out.hg HYk.out.1 (r := y.r))
          clear hA m6 k6 nw6 hap p0 p1 p2 p3 p4 p5 p6 p7 p8 p9 p10
          simp only at hB
          generalize addE n l y.r = ae at *
          go_wp2_with fail
          refine hB.mono ?_
          rintro e w7 ⟨F7, rfl, t7, d7⟩
          have HP7 : Hid (Pl T w X n (addL n l y.r) F7 v6 w7) := hid (pl_of t7 (ap_sd HM6.out.1 HM6.out.2 d7) HG2.out)
          clear hB t7 d7
          go_wp2_with fail
          go_meet
          exact ⟨_, _, HP7⟩
        have hkb0 : (y.kind == 0) = false := by rw [beq_eq_false_iff_ne]; exact hk0
        by_cases hk1 : y.kind = 1
        · have hkb : (y.kind == 1) = true := by rw [hk1]; rfl
          have hA := rack_any l (by rw [HLm.out]; exact hl64) y.r.key y.r.s y.node HYk.out.2.1.1 HYk.out.2.1.2 _ wa HPa.out.m
          clear hk0 hk1
          go_wp2_with fail
          refine hA.mono ?_
          rintro e w6 ⟨v6, rfl, m6, k6, nw6⟩
          have HT6 := hid (tt_kept HT.out.obj HPa.out.t k6)
          have hap := ap_nw encX_ok HPa.out.m (by have := HPa.out.o; exact this) HLt.out m6 k6 nw6
          have HM6 := hid (⟨m6, hap⟩ : Rg encX 72 w6 v6 (ackL l y.r.key y.r.s y.node) ∧ Apa w6 F' v6 (ackL l y.r.key y.r.s y.node))
          obtain ⟨q0, q1, q2, q3, q4, q5, q6, q7, q8, q9, q10⟩ := cells11 (at_kept HY.out k6)
          have hB := ht_ack HT.out HT6.out HPa.out.hg HYf.out.1 HYk.out.1.2.1 HYk.out.2.1.1 HYk.out.2.1.2
          have HG2 := hid (hg_ack HPa.out.hg y.r.key y.r.s y.node)
          clear hA m6 k6 nw6 hap p0 p1 p2 p3 p4 p5 p6 p7 p8 p9 p10
          simp only at hB
          generalize mayK l y.r.key y.r.s y.node = ab at *
          go_wp2_with fail
          refine hB.mono ?_
          rintro e w7 ⟨F7, rfl, t7, d7⟩
          have HP7 : Hid (Pl T w X n (ackL l y.r.key y.r.s y.node) F7 v6 w7) := hid (pl_of t7 (ap_sd HM6.out.1 HM6.out.2 d7) HG2.out)
          have hbb : (ab != ab) = false := by simp
          clear hB t7 d7
          go_wp2_with fail
          go_meet
          exact ⟨_, _, HP7⟩
        have hkb1 : (y.kind == 1) = false := by rw [beq_eq_false_iff_ne]; exact hk1
        by_cases hk2 : y.kind = 2
        · have hkb : (y.kind == 2) = true := by rw [hk2]; rfl
          have kd : Kept wa wa.drew := kept_drew (kept_refl wa)
          have HPd := hid (pl_kept HT.out HPa.out kd)
          have HYd := hid (at_kept HY.out kd)
          have HYod := hid (off_kept HYo.out kd)
          have hM := ht_missing HT.out HPd.out.t HPd.out.hg HYk.out.2.2.1 HYf.out.2.2 (HUa.out wa.drew HPd.out.t.k)
          have hS := at_cell HY.out 10
          have hSd := at_cell HYd.out 10
          clear hk0 hk1 hk2 kd
          go_upto_region 27 with fail
          refine wp_region_noPanic ?_
          refine wp_region_held_drew (S := (fun w' => (w'.cell? ⟨Y, 10, none⟩ = some (.slice y.uv y.up.length y.uc)))) (by kernel_rfl) (by assumption) (fun hHeld => ?_)
          generalize wa.drew = wd at *
          refine wpAnyH_take (i := 0) (v := .pointer (some ⟨X, 0, none⟩)) rfl (by kernel_rfl) (by kernel_rfl) (by kernel_rfl) (fun _ _ _ h => h) (Or.inl ⟨by rfl, fun w hSw => by (try dsimp only at hSw); go_simp⟩) (by assumption) ?_
          try simp only [List.getElem_toArray, List.getElem_cons_zero, List.getElem_cons_succ, Act.put, List.setIfInBounds_toArray, List.set_cons_zero, List.set_cons_succ]
          refine wpAnyH_take (i := 1) (v := .pointer (some ⟨Y, 10, none⟩)) rfl (by kernel_rfl) (by kernel_rfl) (by kernel_rfl) (fun _ _ _ h => h) (Or.inl ⟨by rfl, fun w hSw => by (try dsimp only at hSw); go_simp⟩) (by assumption) ?_
          try simp only [List.getElem_toArray, List.getElem_cons_zero, List.getElem_cons_succ, Act.put, List.setIfInBounds_toArray, List.set_cons_zero, List.set_cons_succ]
          refine wpAnyH_take (i := 2) (v := .slice y.uv y.up.length y.uc) rfl (by kernel_rfl) (by kernel_rfl) (by kernel_rfl) (fun _ _ _ h => h) (Or.inl ⟨by rfl, fun w hSw => by (try dsimp only at hSw); go_simp⟩) (by assumption) ?_
          try simp only [List.getElem_toArray, List.getElem_cons_zero, List.getElem_cons_succ, Act.put, List.setIfInBounds_toArray, List.set_cons_zero, List.set_cons_succ]
          refine wpAnyH_take (i := 4) (v := .slice ma m2 mc) rfl (by kernel_rfl) (by kernel_rfl) (by kernel_rfl) (fun _ _ _ h => h) (Or.inl ⟨by rfl, fun w hSw => by (try dsimp only at hSw); go_simp⟩) (by assumption) ?_
          try simp only [List.getElem_toArray, List.getElem_cons_zero, List.getElem_cons_succ, Act.put, List.setIfInBounds_toArray, List.set_cons_zero, List.set_cons_succ]
          refine wpAnyH_take (i := 5) (v := .pointer (some ⟨Y, 10, none⟩)) rfl (by kernel_rfl) (by kernel_rfl) (by kernel_rfl) (fun _ _ _ h => h) (Or.inl ⟨by rfl, fun w hSw => by (try dsimp only at hSw); go_simp⟩) (by assumption) ?_
          try simp only [List.getElem_toArray, List.getElem_cons_zero, List.getElem_cons_succ, Act.put, List.setIfInBounds_toArray, List.set_cons_zero, List.set_cons_succ]
          refine wpAnyH_take (i := 6) (v := .slice y.uv y.up.length y.uc) rfl (by kernel_rfl) (by kernel_rfl) (by kernel_rfl) (fun _ _ _ h => h) (Or.inl ⟨by rfl, fun w hSw => by (try dsimp only at hSw); go_simp⟩) (by assumption) ?_
          try simp only [List.getElem_toArray, List.getElem_cons_zero, List.getElem_cons_succ, Act.put, List.setIfInBounds_toArray, List.set_cons_zero, List.set_cons_succ]
          refine wpAnyH_ready (rs := [3]) (by kernel_rfl) (by simp) ?_
          refine AllReadyH.cons (i := 3) rfl (fun K hK => ?_) AllReadyH.nil
          go_simp
          refine (hM).mono ?_
          rintro e w5 ⟨r5, F5, rfl, o5, n5, t5, d5⟩
          have HT5 := hid t5
          have HO5 := hid o5
          have HN5 := hid n5
          obtain ⟨ra5, rc5, rfl, -, -⟩ := og_is encD_ok o5
          have HM5 := hid (ap_sd HPd.out.m HPd.out.o d5)
          have HY5 := hid (at_sd HYd.out HYod.out d5)
          have hS := at_cell HY5.out 10
          have hR5 := rmissing_any l (by rw [HLm.out]; exact hl64) HKs.out y.up HYf.out.2.2 _ _ w5 HM5.out.1 (HUa.out w5 t5.k)
          clear o5 n5 t5 d5 hM
          clear hHeld
          show K _ _
          refine hK.out _ _ (by assumption) (fun hHeld => ?_)
          clear hK K
          try simp only [List.getElem_toArray, List.getElem_cons_zero, List.getElem_cons_succ, Act.put, List.setIfInBounds_toArray, List.set_cons_zero, List.set_cons_succ]
          refine wpAnyH_ready (rs := [7]) (by kernel_rfl) (by simp) ?_
          refine AllReadyH.cons (i := 7) rfl (fun K hK => ?_) AllReadyH.nil
          go_simp
          refine (hR5).mono ?_
          rintro e w6 ⟨r6, rfl, o6, k6⟩
          have HT6 := hid (tt_kept HT.out.obj HT5.out k6)
          have HM6 := hid (ap_kept (he := encX_ok) HM5.out k6)
          have HY6 := hid (at_kept HY5.out k6)
          have hS := at_cell HY6.out 10
          have hQ6 := sends_same (missL l y.up) (by have h9 := missL_len y.up l; rw [HLm.out] at h9; omega) _ _ w6 (rg_own encD_ok (og_stays HO5.out k6)) (rg_own encD_ok o6)
          clear o6 k6 hR5
          clear hHeld
          show K _ _
          refine hK.out _ _ (by assumption) (fun hHeld => ?_)
          clear hK K
          try simp only [List.getElem_toArray, List.getElem_cons_zero, List.getElem_cons_succ, Act.put, List.setIfInBounds_toArray, List.set_cons_zero, List.set_cons_succ]
          refine wpAnyH_ready (rs := [8]) (by kernel_rfl) (by simp) ?_
          refine AllReadyH.cons (i := 8) rfl (fun K hK => ?_) AllReadyH.nil
          go_simp
          refine (hQ6).mono ?_
          rintro e w7 ⟨rfl, k7⟩
          have HP7 : Hid (Pl T w X n l F5 (.slice ma m2 mc) w7) := hid (pl_of (tt_kept HT.out.obj HT6.out k7) (ap_kept (he := encX_ok) HM6.out k7) HPd.out.hg)
          have hS := at_cell (at_kept HY6.out k7) 10
          clear k7 hQ6
          clear hHeld
          show K _ _
          refine hK.out _ _ (by assumption) (fun hHeld => ?_)
          clear hK K
          try simp only [List.getElem_toArray, List.getElem_cons_zero, List.getElem_cons_succ, Act.put, List.setIfInBounds_toArray, List.set_cons_zero, List.set_cons_succ]
          refine wpAnyH_take (i := 9) (v := .bool false) rfl (by kernel_rfl) (by kernel_rfl) (by kernel_rfl) (fun _ _ _ h => h) (Or.inl ⟨by rfl, fun w hSw => by (try dsimp only at hSw); go_simp⟩) (by assumption) ?_
          try simp only [List.getElem_toArray, List.getElem_cons_zero, List.getElem_cons_succ, Act.put, List.setIfInBounds_toArray, List.set_cons_zero, List.set_cons_succ]
          refine wpAnyH_done (by kernel_rfl) ?_ _
          refine NoPanic.normal ?_
          clear hHeld hS
          go_wp2_with fail
          go_meet
          exact ⟨_, _, HP7⟩
        have hkb2 : (y.kind == 2) = false := by rw [beq_eq_false_iff_ne]; exact hk2
        have hA := rsettle_any l (by rw [HLm.out]; exact hl64) HKs.out y.up HYf.out.2.2 _ _ wa HPa.out.m (HUa.out wa HPa.out.t.k)
        clear hk0 hk1 hk2
        go_wp2_with fail
        refine hA.mono ?_
        rintro e w6 ⟨v6, rfl, o6, k6⟩
        have HT6 := hid (tt_kept HT.out.obj HPa.out.t k6)
        have HM6 : Hid (Rg encX 72 w6 v6 (setL l y.up) ∧ Apa w6 F' v6 (setL l y.up)) := hid ⟨rg_own encX_ok o6, fun _ g hg => ⟨(World.ownsRow.lt o6 g hg).2, fun hf => by have h1 := HLt.out g hf; have h2 := og_lt o6 hg; omega⟩⟩
        obtain ⟨va6, vc6, rfl, -, -⟩ := og_is encX_ok o6
        obtain ⟨q0, q1, q2, q3, q4, q5, q6, q7, q8, q9, q10⟩ := cells11 (at_kept HY.out k6)
        have hB := ht_settle HT.out HT6.out HPa.out.hg HYk.out.2.2.1 HYf.out.2.2 (HUa.out w6 HT6.out.k) (far_old HT6.out encU_ok (HUa.out w (kept_refl w)))
        have HG2 := hid (hg_set HPa.out.hg y.up)
        have hsl := setL_len l y.up
        rw [HLm.out] at hsl
        simp only at hB
        rw [HLm.out] at hB
        clear hA o6 k6 p0 p1 p2 p3 p4 p5 p6 p7 p8 p9 p10
        generalize hs2 : (setL l y.up).length = s2 at *
        have HSl := hid hs2
        have hsub : (m2 : Int) - (s2 : Int) = ((m2 - s2 : Nat) : Int) := by omega
        obtain ⟨d2, hd2⟩ : ∃ d, m2 - s2 = d := ⟨_, rfl⟩
        have hdl : d2 ≤ 64 := by omega
        rw [hd2] at hB hsub
        clear hs2 hd2
        go_wp2_with fail
        refine hB.mono ?_
        rintro e w7 ⟨F7, rfl, t7, d7⟩
        have HP7 : Hid (Pl T w X n (setL l y.up) F7 (.slice va6 s2 vc6) w7) := hid (pl_of t7 (ap_sd HM6.out.1 HM6.out.2 d7) HG2.out)
        clear hB t7 d7
        go_wp2_with fail
        go_meet
        exact ⟨_, _, HP7⟩
      case rest =>
        obtain ⟨l2, F2, HP2⟩ := hcut
        clear HPa HYo HYk HYf HY HUa HLl HKo HKs HLt HLm p0 p1 p2 p3 p4 p5 p6 p7 p8 p9 p10 hl64
        have hAl := ht_all HT.out HP2.out.t HP2.out.hg
        have hl2 : l2.length ≤ 64 := Nat.le_trans HP2.out.hg.len HNn.out
        obtain ⟨na, nc, rfl, -, -⟩ := rg_is HP2.out.m
        generalize hq : l2.length = q at *
        have HQ := hid hq
        clear hq
        go_wp2_with fail
        refine hAl.mono ?_
        rintro e w6 ⟨r6, F6, rfl, o6, -, -, t6, d6⟩
        have HP6 := hid (pl_of t6 (ap_sd HP2.out.m (by have := HP2.out.o; exact this) d6) HP2.out.hg)
        have hSm := hints_same l2 (by rw [HQ.out]; omega) _ _ w6 (rg_own encH_ok o6) HP6.out.m
        obtain ⟨ra, rc, rfl, -, -⟩ := og_is encH_ok o6
        rw [HQ.out] at hSm ⊢
        clear o6 t6 d6 hAl HP2
        go_wp2_with fail
        refine hSm.mono ?_
        rintro e w7 ⟨rfl, k7⟩
        have HP7 := hid (pl_kept HT.out HP6.out k7)
        have hL := ht_len HT.out HP7.out.t HP7.out.hg
        simp only at hL
        rw [HQ.out] at hL
        clear hSm k7 HP6
        go_wp2_with fail
        refine hL.mono ?_
        rintro e w8 ⟨rfl, t8, k8⟩
        have HP8 := hid (pl_kept HT.out HP7.out k8)
        clear hL t8 k8 HP7
        go_wp2_with fail
        go_roundw
        case rel => exact ⟨i + 1, l2, F6, by omega, by go_num, HP8⟩
        case measure => simp [intOf]; omega
    · have hltz : ¬ (i : Int) < (c : Int) := by omega
      go_wp2_with fail
      go_ret
      exact ⟨rfl, HPr.out.t.k⟩
theorem plays_walk {T : Shape Hs} (hT : HintsIs T) (n : Int) (ops : List Opn) (v : Value) (w : World) (hx : ∀ o ∈ ops, OpOk w o) (h : Rg encO 11 w v ops) : Calls Try.prog 3 #[.int .i64 n, v] w fun e w' => e = .returned (.bool true) ∧ Kept w w' := by
  by_cases hb : 1 ≤ n ∧ n ≤ 64
  · obtain ⟨k, rfl⟩ : ∃ k : Nat, n = (k : Int) := ⟨n.toNat, by omega⟩
    exact plays_yes hT k (by omega) (by omega) ops v w hx h
  · exact plays_no hT n v w hb
end Go.Proofs.Ytahgplfkgijecaa
