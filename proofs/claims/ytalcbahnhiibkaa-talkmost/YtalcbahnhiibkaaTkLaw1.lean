/- The walk of TalkPlays, out of what the landed talk must answer. -/
import Derived.Test.YtalcbahnhiibkaaTkIs
namespace Go.Proofs.Ytalcbahnhiibkaa
open Go.ChangeShapes Go.WideShapes Go.ChangeAt Go.RowKit
set_option linter.unusedVariables false
set_option linter.unusedSimpArgs false
set_option maxRecDepth 100000

set_option maxHeartbeats 3200000 in
theorem plays_no {T : Shape} (hT : TalkIs T) (n k : Int) (v : Value) (w : World) (h : ¬ (1 ≤ n ∧ n ≤ 64 ∧ 1 ≤ k ∧ k ≤ 64)) : Calls Try.prog 3 #[.int .i64 n, .int .i64 k, v] w fun e w' => e = .returned (.bool true) ∧ Kept w w' := by
  have hN := hT.new_bad n k w h
  have hF := fun u => fixed_any hT u
  rcases (show n < 1 ∨ (1 ≤ n ∧ 64 < n) ∨ (1 ≤ n ∧ n ≤ 64 ∧ k < 1) ∨ (1 ≤ n ∧ n ≤ 64 ∧ 1 ≤ k ∧ 64 < k) by omega) with h1 | ⟨h1, h2⟩ | ⟨h1, h2, h3⟩ | ⟨h1, h2, h3, h4⟩
  · have d1 : decide ((1 : Int) ≤ n) = false := by simpa using h1
    clear hT h h1
    go_enter Try.func3, Try.ntmps3
    go_wp2_with fail
    refine hN.mono ?_
    rintro e w1 ⟨rfl, k1⟩
    go_wp2_with fail
    refine (hF w1).mono ?_
    rintro e w2 ⟨rfl, k2⟩
    go_wp2_with fail
    go_ret
    exact ⟨rfl, kept_trans k1 k2⟩
  · have d1 : decide ((1 : Int) ≤ n) = true := by simpa using h1
    have d2 : decide (n ≤ (64 : Int)) = false := by simpa using h2
    clear hT h h1 h2
    go_enter Try.func3, Try.ntmps3
    go_wp2_with fail
    refine hN.mono ?_
    rintro e w1 ⟨rfl, k1⟩
    go_wp2_with fail
    refine (hF w1).mono ?_
    rintro e w2 ⟨rfl, k2⟩
    go_wp2_with fail
    go_ret
    exact ⟨rfl, kept_trans k1 k2⟩
  · have d1 : decide ((1 : Int) ≤ n) = true := by simpa using h1
    have d2 : decide (n ≤ (64 : Int)) = true := by simpa using h2
    have d3 : decide ((1 : Int) ≤ k) = false := by simpa using h3
    clear hT h h1 h2 h3
    go_enter Try.func3, Try.ntmps3
    go_wp2_with fail
    refine hN.mono ?_
    rintro e w1 ⟨rfl, k1⟩
    go_wp2_with fail
    refine (hF w1).mono ?_
    rintro e w2 ⟨rfl, k2⟩
    go_wp2_with fail
    go_ret
    exact ⟨rfl, kept_trans k1 k2⟩
  · have d1 : decide ((1 : Int) ≤ n) = true := by simpa using h1
    have d2 : decide (n ≤ (64 : Int)) = true := by simpa using h2
    have d3 : decide ((1 : Int) ≤ k) = true := by simpa using h3
    have d4 : decide (k ≤ (64 : Int)) = false := by simpa using h4
    clear hT h h1 h2 h3 h4
    go_enter Try.func3, Try.ntmps3
    go_wp2_with fail
    refine hN.mono ?_
    rintro e w1 ⟨rfl, k1⟩
    go_wp2_with fail
    refine (hF w1).mono ?_
    rintro e w2 ⟨rfl, k2⟩
    go_wp2_with fail
    go_ret
    exact ⟨rfl, kept_trans k1 k2⟩
/- A row of pieces apart from the talk. -/
def Mr (w : World) (v : Value) (l : List Pc) (F : Nat → Prop) : Prop := Og encP 4 58 w 0 v l ∧ ∀ g, v.ownBlock = some g → ¬ F g
theorem og_lt2 {α : Type} {enc : α → List Value} {c T B : Nat} {w : World} {v : Value} {xs : List α} (h : Og enc c T w B v xs) {g : Nat} (hg : v.ownBlock = some g) : g < w.heap.size := (World.ownsRow.lt h g hg).2
theorem mr_kept {w w' : World} {v : Value} {l : List Pc} {F : Nat → Prop} (h : Mr w v l F) (k : Kept w w') : Mr w' v l F := ⟨og_stays h.1 k, h.2⟩
theorem mr_sd {w w' : World} {v : Value} {l : List Pc} {F F' : Nat → Prop} (h : Mr w v l F) (s : Sd F w F' w') : Mr w' v l F' :=
  ⟨og_block h.1 (fun g cur hg ha => s.1.2.2.2 g (at_lt ha) (h.2 g hg)), fun g hg hf => (s.2 g hf).elim (h.2 g hg) (fun q => by have := og_lt2 h.1 hg; omega)⟩
theorem og_sd {α : Type} {enc : α → List Value} {c T : Nat} {w w' : World} {v : Value} {xs : List α} {B : Nat} {F F' : Nat → Prop} (h : Og enc c T w B v xs) (hF : ∀ b, F b → b < B) (s : Sd F w F' w') : Og enc c T w' B v xs :=
  og_block h (fun g cur hg ha => s.1.2.2.2 g (at_lt ha) (fun hf => by have := hF g hf; have := og_lt h hg; omega))
theorem mr_new {w' : World} {B : Nat} {v : Value} {l : List Pc} {F : Nat → Prop} (h : Og encP 4 58 w' B v l) (hF : ∀ b, F b → b < B) : Mr w' v l F :=
  ⟨og_low h (Nat.zero_le _), fun g hg hf => by have := hF g hf; have := og_lt h hg; omega⟩
theorem mr_nil (w : World) (F : Nat → Prop) : Mr w (.slice none 0 0) [] F := ⟨og_nil _ _ _ _ _, fun g hg => by cases hg⟩
theorem gd_64 {n : Nat} {l : List Pc} (h : Gd n l) (hn : n ≤ 64) : ∀ q ∈ l, q.told ≤ 64 := fun q hq => by have := (h.fit q hq).2.2; omega
set_option maxHeartbeats 12800000 in
theorem plays_yes {T : Shape} (hT : TalkIs T) (n k : Nat) (h1 : 1 ≤ n) (h2 : n ≤ 64) (h3 : 1 ≤ k) (h4 : k ≤ 64) (ops : List Opn) (hx : ∀ o ∈ ops, NwOk o.x) (v : Value) (w : World) (h : Rg encO 4 w v ops) : Calls Try.prog 3 #[.int .i64 (n : Int), .int .i64 (k : Int), v] w fun e w' => e = .returned (.bool true) ∧ Kept w w' := by
  have HT := hid hT
  have hN := tt_new (T := T) (W := w) (n := n) (k := k) hT (kept_refl w) h1 h2 h3 h4
  have HF := hid (fun u => fixed_any hT u)
  have HR := hid h
  have HX := hid hx
  obtain ⟨a, cap, rfl, hc1, hc2, -, -⟩ := h
  unfold maxLen at hc2
  have HG : Hid (∀ i, i < ops.length → ∃ y, ops[i]? = some y ∧ NwOk y.x) := hid (fun i hi => ⟨ops[i], List.getElem?_eq_getElem hi, HX.out _ (List.getElem_mem hi)⟩)
  have HP : Hid (0 < ops.length → ∃ g o, a = some ⟨g, o, none⟩) := hid (fun hp => by
    obtain ⟨g, o, c, e⟩ := rg_pos HR.out hp
    injection e with e1
    exact ⟨g, o, e1⟩)
  have HTk : Hid (∀ (l : List Pc) (F : Nat → Prop) (X : Nat) (u : World), TT T w X n k l F u → Calls Try.prog 11 #[.pointer (some ⟨X, 0, none⟩)] u fun e w' => ∃ r F', e = .returned r ∧ Rg encN 3 w' r (takeT l k) ∧ TT T w X n k (takeR l n k) F' w' ∧ Sd F u F' w') := hid (fun l F X u ht => tt_take hT ht h1 h2 h3 h4)
  have HAd : Hid (∀ (l : List Pc) (F : Nat → Prop) (X : Nat) (u : World) (x : Nw), NwOk x → x.node < 64 → TT T w X n k l F u → Calls Try.prog 12 #[.pointer (some ⟨X, 0, none⟩), .agg #[.int .u8 x.node, .int .u8 x.st, .int .u32 x.inc]] u fun e w' => e = .returned (.int .i64 0) ∧ ∃ F', TT T w X n k (addP l x) F' w' ∧ Sd F u F' w') := hid (fun l F X u x hx hx2 ht => tt_add hT ht h1 h2 hx hx2)
  have HRk : Hid (∀ (l : List Pc) (mv : Value) (u : World), Gd n l → Rg encP 4 u mv l → Calls Try.prog 9 #[mv, .int .i64 (n : Int), .int .i64 (k : Int)] u (RTakeC l n k u)) := hid (fun l mv u hg hr => rtake_any l (gd_len hg) n k h2 h4 (gd_64 hg h2) mv u hr)
  have HRa : Hid (∀ (l : List Pc) (mv : Value) (u : World) (x : Nw), Gd n l → Rg encP 4 u mv l → Calls Try.prog 13 #[mv, .agg #[.int .u8 x.node, .int .u8 x.st, .int .u32 x.inc]] u (GRowN encP 4 58 (addP l x) u)) := hid (fun l mv u x hg hr => radd_any l (by have := gd_len hg; omega) x mv u hr)
  have d1 : decide ((1 : Int) ≤ (n : Int)) = true := by simp; omega
  have d2 : decide ((n : Int) ≤ (64 : Int)) = true := by simp; omega
  have d3 : decide ((1 : Int) ≤ (k : Int)) = true := by simp; omega
  have d4 : decide ((k : Int) ≤ (64 : Int)) = true := by simp; omega
  have f1 : (1 : Int) ≤ (n : Int) := by omega
  have f2 : (n : Int) ≤ 64 := by omega
  have f3 : (1 : Int) ≤ (k : Int) := by omega
  have f4 : (k : Int) ≤ 64 := by omega
  have HK64 : Hid (k ≤ 64) := hid h4
  have hz := zeroO
  generalize hm : ops.length = m at *
  clear hm hT hx h1 h2 h3 h4
  go_enter Try.func3, Try.ntmps3
  go_wp2_with fail
  refine hN.mono ?_
  rintro e w1 ⟨X, F, rfl, t1, -⟩
  have HT1 := hid t1
  clear t1 hN
  go_wp2_with fail
  refine (HF.out w1).mono ?_
  rintro e w2 ⟨rfl, k2⟩
  have HT2 := hid (tt_kept HT.out HT1.out k2)
  have HM2 := hid (mr_nil w2 F)
  clear k2 HT1 HF
  go_wp2_with fail
  clear d1 d2 d3 d4 f1 f2 f3 f4
  go_loopw [10, 55] (fun mv iv wr => ∃ (i : Nat) (l : List Pc) (F' : Nat → Prop), i ≤ m ∧ iv = .int .i64 (i : Int) ∧ Hid (TT T w X n k l F' wr) ∧ Hid (Mr wr mv l F')) (fun _ iv _ => m - (intOf iv).toNat)
  case atStart => exact ⟨0, [], F, by omega, rfl, HT2, HM2⟩
  case round =>
    obtain ⟨i, l, F', hi, rfl, HTr, HMr⟩ := hrel
    clear HT2 HM2
    by_cases hlt : i < m
    · obtain ⟨y, hy, hyk⟩ := HG.out i hlt
      obtain ⟨g, o, rfl⟩ := HP.out (by omega)
      obtain ⟨c0, c1, c2, c3⟩ := rg_O (rg_kept encO_ok HR.out HTr.out.k) hy
      have HY := hid hyk
      clear hy hyk
      have HZ := hid (at_new wr #[.bool y.take, .int .u8 y.x.node, .int .u8 y.x.st, .int .u32 y.x.inc] 35)
      have ka := kept_alloc (kept_refl wr) (.cells #[.bool y.take, .int .u8 y.x.node, .int .u8 y.x.st, .int .u32 y.x.inc] 35)
      have HTa := hid (tt_kept HT.out HTr.out ka)
      have HMa := hid (mr_kept HMr.out ka)
      have HOa := hid (off_new HT.out HTr.out (Nat.le_refl _) (at_lt HZ.out))
      clear ka
      by_cases hbig : 200 < i
      · have hbigI : (200 : Int) < (i : Int) := by omega
        go_wp2_with fail
        go_ret
        exact ⟨rfl, HTa.out.k⟩
      · have hd : decide ((200 : Int) < (i : Int)) = false := by simp; omega
        obtain ⟨p0, p1, p2, p3⟩ := cells4 HZ.out
        obtain ⟨wa, hwa⟩ : ∃ wa, wr.alloc (.cells #[.bool y.take, .int .u8 y.x.node, .int .u8 y.x.st, .int .u32 y.x.inc] 35) = wa := ⟨_, rfl⟩
        obtain ⟨Z, hZ⟩ : ∃ Z, wr.heap.size = Z := ⟨_, rfl⟩
        rw [hwa, hZ] at HZ p0 p1 p2 p3
        rw [hwa] at HTa HMa
        rw [hwa, hZ] at HOa
        cases hb : y.take with
        | true =>
          rw [hb] at p0 c0 HZ hwa
          have HFl : Hid (∀ b, F' b → b < wa.heap.size) := hid (fun b hb => HT.out.lt HTa.out.t hb)
          go_wp2_with fail
          refine (HRk.out l u10 wa HTa.out.g (rg_own encP_ok HMa.out.1)).mono ?_
          rintro e wb ⟨tv, rv, rfl, o1, o2, kb⟩
          have hK := HTk.out l F' X wb (tt_kept HT.out HTa.out kb)
          have HO1 := hid o1
          have HO2 := hid o2
          clear kb o1 o2 p0 p1 p2 p3 c0 c1 c2 c3 hwa hZ
          go_wp2_with fail
          refine hK.mono ?_
          rintro e wc ⟨r, F2, rfl, rr, tc, sc⟩
          have hS := sameN_any (takeT l k) (by have := take_len l k; have := HK64.out; omega) r tv wc rr (rg_own encN_ok (og_sd HO1.out HFl.out sc))
          have HTc := hid tc
          have HMc := hid (mr_sd (mr_new HO2.out HFl.out) sc)
          clear rr tc sc hK HO1 HO2 HZ HOa HTa HMa HTr HMr
          go_wp2_with fail
          refine hS.mono ?_
          rintro e wd ⟨rfl, kd⟩
          have HTe := hid (tt_kept HT.out HTc.out kd)
          have HMe := hid (mr_kept HMc.out kd)
          clear hS kd HTc HMc
          generalize takeR l n k = l2 at *
          have hL1 := tt_len HT.out HTe.out
          have HLl := hid (gd_len HTe.out.g)
          obtain ⟨ra, rc, rfl, -, -⟩ := og_is encP_ok HMe.out.1
          have hne : ((l2.length : Int) != (l2.length : Int)) = false := by simp
          have hle : decide ((64 : Int) < (l2.length : Int)) = false := by have := HLl.out; simp; omega
          go_wp2_with fail
          refine hL1.mono ?_
          rintro e we ⟨rfl, te, ke⟩
          have HTf := hid te
          have HMf := hid (mr_kept HMe.out ke)
          have hL2 := tt_len HT.out te
          clear hL1 te ke HTe HMe
          go_wp2_with fail
          refine hL2.mono ?_
          rintro e wf ⟨rfl, tf, kf⟩
          have HTg := hid tf
          have HMg := hid (mr_kept HMf.out kf)
          clear hL2 tf kf HTf HMf
          go_wp2_with fail
          go_roundw
          case rel => exact ⟨i + 1, _, _, by omega, by go_num, HTg, HMg⟩
          case measure => simp [intOf]; omega
        | false =>
          rw [hb] at p0 c0 HZ hwa
          by_cases hnode : y.x.node < 64
          · have hdn : decide (y.x.node < (64 : Int)) = true := by simpa using hnode
            have hK := HAd.out l F' X wa y.x HY.out hnode HTa.out
            go_wp2_with fail
            refine hK.mono ?_
            rintro e wb ⟨rfl, F2, tb, sb⟩
            have HTb := hid tb
            have HMb := hid (mr_sd HMa.out sb)
            have HZb : Hid (At wb Z #[.bool false, .int .u8 y.x.node, .int .u8 y.x.st, .int .u32 y.x.inc] 35) := hid ((off_same HOa.out sb).trans HZ.out)
            have HGl := hid HTa.out.g
            clear p0 p1 p2 p3 c0 c1 c2 c3 tb sb hK hwa hZ HTa HMa HOa HZ HTr HMr
            obtain ⟨p0, p1, p2, p3⟩ := cells4 HZb.out
            go_wp2_with fail
            refine (HRa.out l u10 wb y.x HGl.out (rg_own encP_ok HMb.out.1)).mono ?_
            rintro e wc ⟨mv, rfl, o3, -, kc⟩
            have HTe := hid (tt_kept HT.out HTb.out kc)
            have HMe := hid (mr_new o3 (fun b hb => HT.out.lt HTb.out.t hb))
            clear o3 kc p0 p1 p2 p3 HTb HMb HZb
            generalize addP l y.x = l2 at *
            have hL1 := tt_len HT.out HTe.out
            have HLl := hid (gd_len HTe.out.g)
            obtain ⟨ra, rc, rfl, -, -⟩ := og_is encP_ok HMe.out.1
            have hne : ((l2.length : Int) != (l2.length : Int)) = false := by simp
            have hle : decide ((64 : Int) < (l2.length : Int)) = false := by have := HLl.out; simp; omega
            go_wp2_with fail
            refine hL1.mono ?_
            rintro e we ⟨rfl, te, ke⟩
            have HTf := hid te
            have HMf := hid (mr_kept HMe.out ke)
            have hL2 := tt_len HT.out te
            clear hL1 te ke HTe HMe
            go_wp2_with fail
            refine hL2.mono ?_
            rintro e wf ⟨rfl, tf, kf⟩
            have HTg := hid tf
            have HMg := hid (mr_kept HMf.out kf)
            clear hL2 tf kf HTf HMf
            go_wp2_with fail
            go_roundw
            case rel => exact ⟨i + 1, _, _, by omega, by go_num, HTg, HMg⟩
            case measure => simp [intOf]; omega
          · have hdn : decide (y.x.node < (64 : Int)) = false := by simpa using hnode
            have hK := tt_bad HT.out HTa.out HY.out (by omega)
            obtain ⟨ma, mc, rfl, -, -⟩ := og_is encP_ok HMa.out.1
            go_wp2_with fail
            refine hK.mono ?_
            rintro e wb ⟨rfl, tb, kb⟩
            have HTe := hid tb
            have HMe := hid (mr_kept HMa.out kb)
            have HZb : Hid (At wb Z #[.bool false, .int .u8 y.x.node, .int .u8 y.x.st, .int .u32 y.x.inc] 35) := hid (at_kept HZ.out kb)
            clear p0 p1 p2 p3 c0 c1 c2 c3 tb kb hK hwa hZ HTa HMa HOa HZ HTr HMr
            obtain ⟨p0, p1, p2, p3⟩ := cells4 HZb.out
            have hL1 := tt_len HT.out HTe.out
            have HLl := hid (gd_len HTe.out.g)
            have hne : ((l.length : Int) != (l.length : Int)) = false := by simp
            have hle : decide ((64 : Int) < (l.length : Int)) = false := by have := HLl.out; simp; omega
            go_wp2_with fail
            refine hL1.mono ?_
            rintro e we ⟨rfl, te, ke⟩
            have HTf := hid te
            have HMf := hid (mr_kept HMe.out ke)
            have hL2 := tt_len HT.out te
            clear hL1 te ke HTe HMe
            go_wp2_with fail
            refine hL2.mono ?_
            rintro e wf ⟨rfl, tf, kf⟩
            have HTg := hid tf
            have HMg := hid (mr_kept HMf.out kf)
            clear hL2 tf kf HTf HMf
            go_wp2_with fail
            go_roundw
            case rel => exact ⟨i + 1, _, _, by omega, by go_num, HTg, HMg⟩
            case measure => simp [intOf]; omega
    · have he : i = m := by omega
      subst he
      go_wp2_with fail
      go_ret
      exact ⟨rfl, HTr.out.k⟩
end Go.Proofs.Ytalcbahnhiibkaa
