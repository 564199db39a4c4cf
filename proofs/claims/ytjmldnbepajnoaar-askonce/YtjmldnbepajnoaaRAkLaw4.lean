/- The walk of AskOver, out of what the landed requests must answer. -/
import Derived.Test.YtjmldnbepajnoaaRAkFixed
import Derived.Test.YtjmldnbepajnoaaROverMath
import Derived.BigQuiet
import Derived.Deep.CutBlock
import Derived.Deep.DeepCutAuto
namespace Go.Proofs.YtjmldnbepajnoaaR
open Go.ChangeShapes Go.WideShapes Go.ChangeAt Go.RowKit
set_option linter.unusedVariables false
set_option linter.unusedSimpArgs false
set_option maxRecDepth 100000

theorem cells10 {w : World} {X T : Nat} {a0 a1 a2 a3 a4 a5 a6 a7 a8 a9 : Value} (h : At w X #[a0, a1, a2, a3, a4, a5, a6, a7, a8, a9] T) : w.cell? ⟨X, 0, none⟩ = some a0 ∧ w.cell? ⟨X, 1, none⟩ = some a1 ∧ w.cell? ⟨X, 2, none⟩ = some a2 ∧ w.cell? ⟨X, 3, none⟩ = some a3 ∧ w.cell? ⟨X, 4, none⟩ = some a4 ∧ w.cell? ⟨X, 5, none⟩ = some a5 ∧ w.cell? ⟨X, 6, none⟩ = some a6 ∧ w.cell? ⟨X, 7, none⟩ = some a7 ∧ w.cell? ⟨X, 8, none⟩ = some a8 ∧ w.cell? ⟨X, 9, none⟩ = some a9 :=
  ⟨at_cell h 0, at_cell h 1, at_cell h 2, at_cell h 3, at_cell h 4, at_cell h 5, at_cell h 6, at_cell h 7, at_cell h 8, at_cell h 9⟩
set_option maxHeartbeats 12800000 in
theorem over_walk {T : Shape Aq} (hT : AskIs T) (l : List Int) (u now : Int) (x : Rp) (hu : inU64 u) (hn : inU64 now) (hx : x.r.ok) (v : Value) (w : World) (h8 : U8 l) (h : Rg encU 1 w v l) : Calls Try.prog 5 #[v, .int .u64 u, .int .u64 now, .agg #[.bool x.has, .bool x.past, .string x.r.key, .int .u64 x.r.s.p, .int .u32 x.r.s.l, .int .u8 x.r.s.n, .int .u8 x.r.kind, .int .u32 x.r.flags, .int .u64 x.r.exp, .string x.r.body]] w fun e w' => e = .returned (.bool true) ∧ Kept w w' := by
  have HT := hid hT
  have HF := hid (fun u => fixed_any hT u)
  have HR := hid h
  have H8 := hid h8
  have HUn := hid (And.intro hu hn)
  have HX := hid hx
  obtain ⟨a, cap, rfl, hc1, hc2, -, -⟩ := h
  unfold maxLen at hc2
  have HG : Hid (∀ i : Nat, i < l.length → ∃ y, l[i]? = some y) := hid (fun i hi => ⟨l[i], List.getElem?_eq_getElem hi⟩)
  have HP : Hid (0 < l.length → ∃ g o, a = some ⟨g, o, none⟩) := hid (fun hp => by
    obtain ⟨g, o, c, e⟩ := rg_pos HR.out hp
    injection e with e1
    exact ⟨g, o, e1⟩)
  have HTT : Hid (l.take l.length = l) := hid List.take_length
  have hmm := @run_makeMap Try.prog
  have kz := kept_alloc (kept_refl w) (.cells #[.bool x.has, .bool x.past, .string x.r.key, .int .u64 x.r.s.p, .int .u32 x.r.s.l, .int .u8 x.r.s.n, .int .u8 x.r.kind, .int .u32 x.r.flags, .int .u64 x.r.exp, .string x.r.body] 34)
  have aZ := at_new w #[.bool x.has, .bool x.past, .string x.r.key, .int .u64 x.r.s.p, .int .u32 x.r.s.l, .int .u8 x.r.s.n, .int .u8 x.r.kind, .int .u32 x.r.flags, .int .u64 x.r.exp, .string x.r.body] 34
  obtain ⟨w1, hw1⟩ : ∃ u, w.alloc (.cells #[.bool x.has, .bool x.past, .string x.r.key, .int .u64 x.r.s.p, .int .u32 x.r.s.l, .int .u8 x.r.s.n, .int .u8 x.r.kind, .int .u32 x.r.flags, .int .u64 x.r.exp, .string x.r.body] 34) = u := ⟨_, rfl⟩
  obtain ⟨Z, hZ⟩ : ∃ u, w.heap.size = u := ⟨_, rfl⟩
  rw [hw1] at kz aZ
  rw [hZ] at aZ
  have HK1 := hid kz
  have HZ := hid aZ
  obtain ⟨z0, z1, z2, z3, z4, z5, z6, z7, z8, z9⟩ := cells10 aZ
  generalize hm : l.length = m at *
  have HM := hid hm
  clear hT hu hn hx kz aZ hm h8
  by_cases hb0 : 100 < m
  · have d0 : decide ((100 : Int) < (m : Int)) = true := by simp; omega
    have e0 : (100 : Int) < (m : Int) := by omega
    go_enter Try.func5, Try.ntmps5
    go_wp2_with fail
    refine (HF.out w1).mono ?_
    rintro e w2 ⟨rfl, k2⟩
    have HK2 := hid (kept_trans HK1.out k2)
    clear k2
    go_wp2_with fail
    go_ret
    exact ⟨rfl, HK2.out⟩
  have d0 : decide ((100 : Int) < (m : Int)) = false := by simp; omega
  have e0 : ¬ (100 : Int) < (m : Int) := by omega
  by_cases hb1 : 1000 < x.r.key.size
  · have d1 : (1000 : Int) < (x.r.key.size : Int) := by omega
    go_enter Try.func5, Try.ntmps5
    go_wp2_with fail
    refine (HF.out w1).mono ?_
    rintro e w2 ⟨rfl, k2⟩
    have HK2 := hid (kept_trans HK1.out k2)
    clear k2
    go_wp2_with fail
    go_ret
    exact ⟨rfl, HK2.out⟩
  have d1 : decide ((1000 : Int) < (x.r.key.size : Int)) = false := by simp; omega
  have e1 : ¬ (1000 : Int) < (x.r.key.size : Int) := by omega
  by_cases hb2 : 3000 < x.r.body.size
  · have d2 : (3000 : Int) < (x.r.body.size : Int) := by omega
    go_enter Try.func5, Try.ntmps5
    go_wp2_with fail
    refine (HF.out w1).mono ?_
    rintro e w2 ⟨rfl, k2⟩
    have HK2 := hid (kept_trans HK1.out k2)
    clear k2
    go_wp2_with fail
    go_ret
    exact ⟨rfl, HK2.out⟩
  have d2 : decide ((3000 : Int) < (x.r.body.size : Int)) = false := by simp; omega
  have e2 : ¬ (3000 : Int) < (x.r.body.size : Int) := by omega
  have HXk : Hid (RpOk x) := hid ⟨HX.out, by omega, by omega⟩
  have hm100 : m ≤ 100 := by omega
  have hN := ak_new (W := w) (u := u) HT.out HK1.out H8.out (by rw [HM.out]; exact hm100) HUn.out.1 (rg_kept encU_ok HR.out HK1.out)
  have HO0 : Hid (Ov x.r.key l u [] (newQ l u)) := hid (ov_new (by rw [HM.out]; exact hm100) H8.out HUn.out.1)
  clear hb0 hb1 hb2
  go_enter Try.func5, Try.ntmps5
  go_wp2_with fail
  refine hN.mono ?_
  rintro e w2 ⟨X, F, rfl, t2, k2, hf2⟩
  clear hN hw1 z0 z1 z2 z3 z4 z5 z6 z7 z8 z9 d1 e1 d2 e2
  have k3 := kept_alloc (kept_refl w2) (.map #[] 0)
  have HD3 : Hid (Gd' mapB (w2.alloc (.map #[] 0)) w2.heap.size (left (l.take 0) [])) := hid (by rw [List.take_zero, left_none]; exact gd_made w2)
  have HT3 := hid (tt_kept HT.out.obj t2 k3)
  have HZ3 := hid (at_kept HZ.out (kept_trans k2 k3))
  have HS3 := hid (off_new HT.out.obj t2 (Nat.le_refl _) (gm_lt HD3.out))
  have HZo : Hid (∀ b, F b → b ≠ Z) := hid (fun b hb e => by have h1 := hf2 b hb; have h2 := at_lt HZ.out; omega)
  have HSW : Hid (w.heap.size ≤ w2.heap.size ∧ w2.heap.size ≠ Z) := hid ⟨t2.k.2, by have := at_lt (at_kept HZ.out k2); omega⟩
  clear t2 k2 hf2 k3
  go_wp2_with fail
  generalize w2.alloc (.map #[] 0) = w3 at *
  generalize w2.heap.size = S at *
  go_loopw [41] (fun iv wr => ∃ i : Nat, i ≤ m ∧ iv = .int .i64 (i : Int) ∧ Hid (TT T w X (newQ l u) F wr) ∧ Hid (Gd' mapB wr S (left (l.take i) [])) ∧ Hid (At wr Z #[.bool x.has, .bool x.past, .string x.r.key, .int .u64 x.r.s.p, .int .u32 x.r.s.l, .int .u8 x.r.s.n, .int .u8 x.r.kind, .int .u32 x.r.flags, .int .u64 x.r.exp, .string x.r.body] 34) ∧ Hid (Off wr F S)) (fun iv _ => m - (intOf iv).toNat)
  case atStart => exact ⟨0, Nat.zero_le _, rfl, HT3, HD3, HZ3, HS3⟩
  case round =>
    obtain ⟨i, hi, rfl, HTr, HDr, HZr, HSr⟩ := hrel
    clear HT3 HD3 HZ3 HS3
    by_cases hlt : i < m
    · have hltz : (i : Int) < (m : Int) := by omega
      obtain ⟨y, hy⟩ := HG.out i hlt
      obtain ⟨g, o, rfl⟩ := HP.out (by omega)
      have c0 := rg_U (rg_kept encU_ok HR.out HTr.out.k) hy
      have hyk : okU y := H8.out y (List.mem_of_getElem? hy)
      obtain ⟨w4, hput, hd4, ht4⟩ := put_B HDr.out hyk
      rw [left_put, ← take_next hy] at hd4
      have HT4 := hid (tt_turned HT.out.obj HTr.out HSr.out HSW.out.1 ht4)
      have HD4 := hid hd4
      have HZ4 : Hid (At w4 Z #[.bool x.has, .bool x.past, .string x.r.key, .int .u64 x.r.s.p, .int .u32 x.r.s.l, .int .u8 x.r.s.n, .int .u8 x.r.kind, .int .u32 x.r.flags, .int .u64 x.r.exp, .string x.r.body] 34) := hid ((turned_block ht4 (at_lt HZr.out) (Ne.symm HSW.out.2)).trans HZr.out)
      have HS4 := hid (off_turned HSr.out ht4)
      clear hy hyk hd4 ht4
      go_wp2_with fail
      go_roundw
      case rel => exact ⟨i + 1, by omega, by go_num, HT4, HD4, HZ4, HS4⟩
      case measure => simp [intOf]; omega
    · have hltz : ¬ (i : Int) < (m : Int) := by omega
      obtain rfl : i = m := by omega
      have hd := HDr.out
      rw [HTT.out] at hd
      have HD5 : Hid (Gd' mapB wr S (left l (l.take 0))) := hid (by rw [List.take_zero]; exact hd)
      have HO5 : Hid (Ov x.r.key l u (l.take 0) (newQ l u)) := hid (by rw [List.take_zero]; exact HO0.out)
      clear hd HDr HO0
      go_wp2_with fail
      go_loopw [50] (fun jv wx => ∃ (j : Nat) (q : Aq) (F' : Nat → Prop), j ≤ i ∧ jv = .int .i64 (j : Int) ∧ Hid (Ov x.r.key l u (l.take j) q) ∧ Hid (TT T w X q F' wx) ∧ Hid (Gd' mapB wx S (left l (l.take j))) ∧ Hid (At wx Z #[.bool x.has, .bool x.past, .string x.r.key, .int .u64 x.r.s.p, .int .u32 x.r.s.l, .int .u8 x.r.s.n, .int .u8 x.r.kind, .int .u32 x.r.flags, .int .u64 x.r.exp, .string x.r.body] 34) ∧ Hid (Off wx F' S ∧ Off wx F' Z)) (fun jv _ => i - (intOf jv).toNat)
      case atStart => exact ⟨0, _, F, Nat.zero_le _, rfl, HO5, HTr, HD5, HZr, hid ⟨HSr.out, ⟨at_lt HZr.out, fun hf => HZo.out Z hf rfl⟩⟩⟩
      case round =>
        obtain ⟨j, q, F', hj, rfl, HOj, HTj, HDj, HZj, HSj⟩ := hrel
        clear HO5 HTr HD5 HZr HSr
        have HQ : Hid (OneK q) := hid ⟨_, HOj.out.ga⟩
        by_cases hjl : j < i
        · have hjz : (j : Int) < (i : Int) := by omega
          obtain ⟨y, hy⟩ := HG.out j hjl
          obtain ⟨g, o, rfl⟩ := HP.out (by omega)
          have c0 := rg_U (rg_kept encU_ok HR.out HTj.out.k) hy
          have hyl := List.mem_of_getElem? hy
          have hyk : okU y := H8.out y hyl
          have HYk := hid hyk
          have hOv := HT.out.over X q F' now wr HTj.out.t HQ.out HUn.out.2
          have hE : overQ q now = (decide (u ≤ now) || decide (dom (left l (l.take j)) = 0)) := by unfold overQ; rw [ov_all HOj.out H8.out, HOj.out.u]
          rw [hE] at hOv
          have HDm := hid (len_B HDj.out)
          have HOn := hid (ovr_take HOj.out hyl hyk HXk.out)
          rw [← take_next hy] at HOn
          have HMy := hid (ov_may HOj.out hyl hyk)
          have HGt := hid (left_get (L := l.take j) hyl)
          have HDl : Hid (del (left l (l.take j)) y = left l (l.take (j + 1))) := hid (by rw [left_del, ← take_next hy])
          clear hy hyl hE
          obtain ⟨dm, hdm⟩ : ∃ d, dom (left l (l.take j)) = d := ⟨_, rfl⟩
          rw [hdm] at hOv
          go_wp2_with fail
          refine hOv.mono ?_
          rintro e w5 ⟨rfl, k5⟩
          have HT5 := hid (tt_kept HT.out.obj HTj.out k5)
          have HD5 := hid (gd_kept HDj.out k5)
          have HZ5 := hid (at_kept HZj.out k5)
          have HS5 : Hid (Off w5 F' S ∧ Off w5 F' Z) := hid ⟨off_kept HSj.out.1 k5, off_kept HSj.out.2 k5⟩
          have hlen := len_B HD5.out
          rw [hdm] at hlen
          have kd : Kept w5 w5.drew := kept_drew (kept_refl w5)
          have HTd := hid (tt_kept HT.out.obj HT5.out kd)
          have HDd := hid (gd_kept HD5.out kd)
          have HZd := hid (at_kept HZ5.out kd)
          have HSd : Hid (Off w5.drew F' S ∧ Off w5.drew F' Z) := hid ⟨off_kept HS5.out.1 kd, off_kept HS5.out.2 kd⟩
          have hTk := ak_take HT.out HTd.out HQ.out HYk.out HXk.out
          rw [HMy.out] at hTk
          obtain ⟨lf, hlf⟩ : ∃ b, (!inL (l.take j) y) = b := ⟨_, rfl⟩
          have HLf := hid hlf
          have hlk := look_B HDd.out HYk.out
          rw [HGt.out, hlf] at hlk
          rw [hlf] at hTk
          obtain ⟨z0, z1, z2, z3, z4, z5, z6, z7, z8, z9⟩ := cells10 HZd.out
          have hS := And.intro z0 (And.intro z1 (And.intro z2 (And.intro z3 (And.intro z4 (And.intro z5 (And.intro z6 (And.intro z7 (And.intro z8 (And.intro z9 hlk)))))))))
          have hcase : ((decide (u ≤ now) || decide (dm = 0)) = true ∧ ((dm : Int) == 0) = true) ∨ ((decide (u ≤ now) || decide (dm = 0)) = true ∧ ((dm : Int) == 0) = false ∧ decide (u ≤ now) = true) ∨ ((decide (u ≤ now) || decide (dm = 0)) = false ∧ ((dm : Int) == 0) = false ∧ decide (u ≤ now) = false) := by
            by_cases h0 : dm = 0
            · exact .inl ⟨by simp [h0], by simp [h0]⟩
            · have h0' : ((dm : Int) == 0) = false := by rw [beq_eq_false_iff_ne]; omega
              by_cases h1 : u ≤ now
              · exact .inr (.inl ⟨by simp [h1], h0', by simp [h1]⟩)
              · exact .inr (.inr ⟨by simp [h1, h0], h0', by simp [h1]⟩)
          clear hOv k5 c0 hdm kd z0 z1 z2 z3 z4 z5 z6 z7 z8 z9 hlf hlk
          rcases hcase with ⟨q0, q1⟩ | ⟨q0, q1, q2⟩ | ⟨q0, q1, q2⟩
          all_goals
            rw [q0]
            clear q0
            go_upto_region 17 with fail
            refine wp_region_noPanic ?_
            refine wp_region_held_drew (S := (fun w' => (w'.cell? ⟨Z, 0, none⟩ = some (.bool x.has)) ∧ (w'.cell? ⟨Z, 1, none⟩ = some (.bool x.past)) ∧ (w'.cell? ⟨Z, 2, none⟩ = some (.string x.r.key)) ∧ (w'.cell? ⟨Z, 3, none⟩ = some (.int .u64 x.r.s.p)) ∧ (w'.cell? ⟨Z, 4, none⟩ = some (.int .u32 x.r.s.l)) ∧ (w'.cell? ⟨Z, 5, none⟩ = some (.int .u8 x.r.s.n)) ∧ (w'.cell? ⟨Z, 6, none⟩ = some (.int .u8 x.r.kind)) ∧ (w'.cell? ⟨Z, 7, none⟩ = some (.int .u32 x.r.flags)) ∧ (w'.cell? ⟨Z, 8, none⟩ = some (.int .u64 x.r.exp)) ∧ (w'.cell? ⟨Z, 9, none⟩ = some (.string x.r.body)) ∧ ((Instr.lookup 26 (.map (some S)) (.int .u8 y) false).run Try.prog w' = .ok (.bool lf) w'))) (by kernel_rfl) (hS) (fun hHeld => ?_)
            generalize w5.drew = wd at *
            refine wpAnyH_take (i := 0) (v := .pointer (some ⟨X, 0, none⟩)) rfl (by kernel_rfl) (by kernel_rfl) (by kernel_rfl) (fun _ _ _ h => h) (Or.inl ⟨by rfl, fun w hSw => by (try dsimp only at hSw); go_simp⟩) (by assumption) ?_
            try simp only [List.getElem_toArray, List.getElem_cons_zero, List.getElem_cons_succ, Act.put, List.setIfInBounds_toArray, List.set_cons_zero, List.set_cons_succ]
            refine wpAnyH_take (i := 1) (v := .int .u8 y) rfl (by kernel_rfl) (by kernel_rfl) (by kernel_rfl) (fun _ _ _ h => h) (Or.inl ⟨by rfl, fun w hSw => by (try dsimp only at hSw); go_simp⟩) (by assumption) ?_
            try simp only [List.getElem_toArray, List.getElem_cons_zero, List.getElem_cons_succ, Act.put, List.setIfInBounds_toArray, List.set_cons_zero, List.set_cons_succ]
            refine wpAnyH_take (i := 2) (v := .agg #[.bool x.has, .bool x.past, .string x.r.key, .int .u64 x.r.s.p, .int .u32 x.r.s.l, .int .u8 x.r.s.n, .int .u8 x.r.kind, .int .u32 x.r.flags, .int .u64 x.r.exp, .string x.r.body]) rfl (by kernel_rfl) (by kernel_rfl) (by kernel_rfl) (fun _ _ _ h => h) (Or.inl ⟨by rfl, fun w hSw => by (try dsimp only at hSw); go_simp⟩) (by assumption) ?_
            try simp only [List.getElem_toArray, List.getElem_cons_zero, List.getElem_cons_succ, Act.put, List.setIfInBounds_toArray, List.set_cons_zero, List.set_cons_succ]
            refine wpAnyH_take (i := 4) (v := .map (some S)) rfl (by kernel_rfl) (by kernel_rfl) (by kernel_rfl) (fun _ _ _ h => h) (Or.inl ⟨by rfl, fun w hSw => by (try dsimp only at hSw); go_simp⟩) (by assumption) ?_
            try simp only [List.getElem_toArray, List.getElem_cons_zero, List.getElem_cons_succ, Act.put, List.setIfInBounds_toArray, List.set_cons_zero, List.set_cons_succ]
            refine wpAnyH_take (i := 5) (v := .int .u8 y) rfl (by kernel_rfl) (by kernel_rfl) (by kernel_rfl) (fun _ _ _ h => h) (Or.inl ⟨by rfl, fun w hSw => by (try dsimp only at hSw); go_simp⟩) (by assumption) ?_
            try simp only [List.getElem_toArray, List.getElem_cons_zero, List.getElem_cons_succ, Act.put, List.setIfInBounds_toArray, List.set_cons_zero, List.set_cons_succ]
            refine wpAnyH_take (i := 6) (v := .bool lf) rfl (by kernel_rfl) (by kernel_rfl) (by kernel_rfl) (fun _ _ _ h => h) (Or.inl ⟨by rfl, fun w hSw => by (try dsimp only at hSw); go_simp⟩) (by assumption) ?_
            try simp only [List.getElem_toArray, List.getElem_cons_zero, List.getElem_cons_succ, Act.put, List.setIfInBounds_toArray, List.set_cons_zero, List.set_cons_succ]
            refine wpAnyH_ready (rs := [3]) (by kernel_rfl) (by simp) ?_
            refine AllReadyH.cons (i := 3) rfl (fun K hK => ?_) AllReadyH.nil
            go_simp
            refine (hTk).mono ?_
            rintro e w6 ⟨F6, rfl, t6, d6⟩
            have HT6 := hid t6
            have HD6 := hid (gd_sd HDd.out HSd.out.1 d6)
            have HZ6 := hid (at_sd HZd.out HSd.out.2 d6)
            have HS6 : Hid (Off w6 F6 S ∧ Off w6 F6 Z) := hid ⟨off_sd HSd.out.1 d6, off_sd HSd.out.2 d6⟩
            have hlk := look_B HD6.out HYk.out
            rw [HGt.out, HLf.out] at hlk
            obtain ⟨z0, z1, z2, z3, z4, z5, z6, z7, z8, z9⟩ := cells10 HZ6.out
            have hS := And.intro z0 (And.intro z1 (And.intro z2 (And.intro z3 (And.intro z4 (And.intro z5 (And.intro z6 (And.intro z7 (And.intro z8 (And.intro z9 hlk)))))))))
            clear t6 d6 hTk hlk z0 z1 z2 z3 z4 z5 z6 z7 z8 z9
            clear hHeld
            show K _ _
            refine hK.out _ _ (hS) (fun hHeld => ?_)
            clear hK K
            try simp only [List.getElem_toArray, List.getElem_cons_zero, List.getElem_cons_succ, Act.put, List.setIfInBounds_toArray, List.set_cons_zero, List.set_cons_succ]
            refine wpAnyH_take (i := 7) (v := .bool false) rfl (by kernel_rfl) (by kernel_rfl) (by kernel_rfl) (fun _ _ _ h => h) (Or.inl ⟨by rfl, fun w hSw => by (try dsimp only at hSw); go_simp⟩) (by assumption) ?_
            try simp only [List.getElem_toArray, List.getElem_cons_zero, List.getElem_cons_succ, Act.put, List.setIfInBounds_toArray, List.set_cons_zero, List.set_cons_succ]
            refine wpAnyH_done (by kernel_rfl) ?_ _
            refine NoPanic.normal ?_
            clear hHeld hS
            obtain ⟨w7, hdel, hd7, ht7⟩ := del_B HD6.out HYk.out 0
            have hdel2 : ∀ ty, (Builtin.delete_ #[26, 5] ty #[.map (some S), .int .u8 y]).run Try.prog w6 = .ok (.tuple #[]) w7 := fun ty => hdel
            rw [HDl.out] at hd7
            have HT7 := hid (tt_turned HT.out.obj HT6.out HS6.out.1 HSW.out.1 ht7)
            have HD7 := hid hd7
            have HZ7 : Hid (At w7 Z #[.bool x.has, .bool x.past, .string x.r.key, .int .u64 x.r.s.p, .int .u32 x.r.s.l, .int .u8 x.r.s.n, .int .u8 x.r.kind, .int .u32 x.r.flags, .int .u64 x.r.exp, .string x.r.body] 34) := hid ((turned_block ht7 (at_lt HZ6.out) (Ne.symm HSW.out.2)).trans HZ6.out)
            have HS7 : Hid (Off w7 F6 S ∧ Off w7 F6 Z) := hid ⟨off_turned HS6.out.1 ht7, off_turned HS6.out.2 ht7⟩
            clear hdel hd7 ht7
            go_wp2_with fail
            go_roundw
            case rel => exact ⟨j + 1, _, F6, by omega, by go_num, HOn, HT7, HD7, HZ7, HS7⟩
            case measure => simp [intOf]; omega
        · have hjz : ¬ (j : Int) < (i : Int) := by omega
          obtain rfl : j = i := by omega
          have hoj := HOj.out
          rw [HTT.out] at hoj
          have HOe := hid hoj
          clear hoj
          go_wp2_with fail
          refine (HF.out wr).mono ?_
          rintro e w5 ⟨rfl, k5⟩
          have HT5 := hid (tt_kept HT.out.obj HTj.out k5)
          have hO1 := HT.out.over X q F' now w5 HT5.out.t HQ.out HUn.out.2
          rw [ov_end HOe.out H8.out] at hO1
          clear k5
          go_wp2_with fail
          refine hO1.mono ?_
          rintro e w6 ⟨rfl, k6⟩
          have HT6 := hid (tt_kept HT.out.obj HT5.out k6)
          have hO2 := HT.out.over X q F' 0 w6 HT6.out.t HQ.out (by unfold inU64; decide)
          rw [ov_end HOe.out H8.out] at hO2
          clear k6 hO1
          go_wp2_with fail
          refine hO2.mono ?_
          rintro e w7 ⟨rfl, k7⟩
          have HT7 := hid (tt_kept HT.out.obj HT6.out k7)
          have hY := HT.out.yes X q F' w7 HT7.out.t HQ.out
          have hyl := ov_yes HOe.out
          rw [HM.out] at hyl
          obtain ⟨ys, hys⟩ : ∃ k, (hasL q).length = k := ⟨_, rfl⟩
          rw [hys] at hY hyl
          have hyz : (ys : Int) ≤ (j : Int) := by omega
          clear k7 hO2 hys
          go_wp2_with fail
          refine hY.mono ?_
          rintro e w8 ⟨rfl, k8⟩
          have HK8 := hid (kept_trans HT7.out.k k8)
          clear k8 hY
          go_wp2_with fail
          go_ret
          exact ⟨by simp [hyz], HK8.out⟩
end Go.Proofs.YtjmldnbepajnoaaR
