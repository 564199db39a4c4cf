/- The contract of the reference's two. -/
import Derived.Test.YtgmcjnhijgnadaaPrRef1
import Derived.Test.YtgmcjnhijgnadaaGLand
namespace Go.Proofs.Ytgmcjnhijgnadaa
open Go.ChangeShapes Go.WideShapes Go.ChangeAt Go.RowKit
set_option linter.unusedVariables false
set_option linter.unusedSimpArgs false
set_option maxRecDepth 100000

theorem rg_win {w : World} {g o n cap f : Nat} {xs : List Int} (h : Rg encU 1 w (.slice (some ⟨g, o, none⟩) n cap) xs) (hf : f < n) : Rg encU 1 w (.slice (some ⟨g, o + f, none⟩) (n - f) (cap - f)) (xs.drop f) := by
  have hh := h
  obtain ⟨a, c, e, h1, h2, h3, h4⟩ := h
  injection e with e1 e2 e3
  subst e1 e2 e3
  refine ⟨_, _, by rw [List.length_drop], by rw [List.length_drop]; omega, by omega, fun h => (by cases h), fun hp => ⟨g, o + f, rfl, fun i x j u hx hu => ?_⟩⟩
  rw [List.getElem?_drop] at hx
  have := rg_all hh hx j u hu
  rw [Nat.mul_one] at this ⊢
  rw [show o + f + i + j = o + (f + i) + j by omega]
  exact this
theorem og_at_lt2 {α : Type} {enc : α → List Value} {c U B : Nat} {w : World} {v : Value} {xs : List α} (h : Og enc c U w B v xs) {g : Nat} (hg : v.ownBlock = some g) : g < w.heap.size := (World.ownsRow.lt h g hg).2
theorem fold_next {self : Int} {n : Nat} {target : Int} {l : List Int} {k : Nat} {y : Int} (h : l[k]? = some y) : (l.take (k + 1)).foldl (stepH self n target) [] = stepH self n target ((l.take k).foldl (stepH self n target) []) y := by
  rw [take_next h, List.foldl_append]
  rfl
set_option maxHeartbeats 25600000 in
theorem rtwo_any' (p : Pb) (rv wv : Value) (x : Int) (hx : 0 ≤ x) (hx2 : x < 18446744073709551616) (l : List Int) (hu : U8 l) (hl : l.length ≤ 100) (target : Int) (hv : Value) (w : World) (h : Rp w p rv wv) (hr : Rg encU 1 w hv l) : Calls Try.prog 23 #[.agg (cellsP p rv wv), .int .u64 x, hv, .int .u8 target] w (GRowC encU 1 5 (twoH p.self p.n x l target) w) := by
  unfold cellsP
  obtain ⟨ra, rc, rfl, -, -, -, -⟩ := h.r
  obtain ⟨a, cap, rfl, -, -, -, -⟩ := h.w
  have HL := hid hr
  obtain ⟨b, cb, rfl, hb1, hb2, -, -⟩ := hr
  unfold maxLen at hb2
  have k0 := kept_alloc (kept_refl w) (.cells #[.int .u8 p.self, .int .i64 (p.n : Int), .slice ra p.row.length rc, .int .i64 (p.place : Int), .slice a p.waits.length cap, .int .i64 (p.ticks : Int)] 30)
  have HA := hid (at_new w #[.int .u8 p.self, .int .i64 (p.n : Int), .slice ra p.row.length rc, .int .i64 (p.place : Int), .slice a p.waits.length cap, .int .i64 (p.ticks : Int)] 30)
  have HK := hid k0
  obtain ⟨w0, hw0⟩ : ∃ u, w.alloc (.cells #[.int .u8 p.self, .int .i64 (p.n : Int), .slice ra p.row.length rc, .int .i64 (p.place : Int), .slice a p.waits.length cap, .int .i64 (p.ticks : Int)] 30) = u := ⟨_, rfl⟩
  obtain ⟨P, hP⟩ : ∃ u, w.heap.size = u := ⟨_, rfl⟩
  rw [hw0] at HK
  rw [hw0, hP] at HA
  have HO0 := hid (builtU w0)
  have HK1 := hid (kept_alloc (kept_refl w0) (.cells #[] 5))
  obtain ⟨w1, hw1⟩ : ∃ u, w0.alloc (.cells #[] 5) = u := ⟨_, rfl⟩
  obtain ⟨B, hB⟩ : ∃ u, w0.heap.size = u := ⟨_, rfl⟩
  rw [hw1, hB] at HO0
  rw [hw1] at HK1
  have HEnd : Hid (∀ v u xs, xs = twoH p.self p.n x l target → Og encU 1 5 u B v xs → Kept w0 u → GRowC encU 1 5 (twoH p.self p.n x l target) w (.returned v) u) := hid (fun v u xs h0 h1 h3 => ⟨v, rfl, og_low (by rw [← h0]; exact h1) (by have := HK.out.2; omega), kept_trans HK.out h3⟩)
  by_cases hz : l.length = 0
  · have hz2 : ((l.length : Int) == 0) = true := by rw [beq_iff_eq]; omega
    have HE : Hid (([] : List Int) = twoH p.self p.n x l target) := hid (by unfold twoH; rw [if_pos hz])
    go_enter Try.func23, Try.ntmps23
    go_wp2_with fail
    go_ret
    exact HEnd.out _ _ _ HE.out HO0.out HK1.out
  · have hz2 : ((l.length : Int) == 0) = false := beq_eq_false_iff_ne.2 (by omega)
    obtain ⟨f, hf⟩ : ∃ f, fromH x l = f := ⟨_, rfl⟩
    have hf0 : x % (l.length : Int) = (f : Int) := by
      have h1 := Int.emod_nonneg x (show (l.length : Int) ≠ 0 by omega)
      unfold fromH at hf
      omega
    have hf1 : f < l.length := by
      have h2 := Int.emod_lt_of_pos x (show (0 : Int) < (l.length : Int) by omega)
      omega
    have e1 : IntKind.u64.wrap (l.length : Int) = (l.length : Int) := by rw [IntKind.wrap_u64]; omega
    have e2 : Int.tmod x (l.length : Int) = (f : Int) := by rw [Int.tmod_eq_emod_of_nonneg hx, hf0]
    have e3 : IntKind.u64.wrap (f : Int) = (f : Int) := by rw [IntKind.wrap_u64]; omega
    have e4 : IntKind.i64.wrap (f : Int) = (f : Int) := IntWalk.i64_in _ (by omega)
    have e5 : ¬ ((l.length : Int) = 0) := by omega
    obtain ⟨g, o, rfl⟩ : ∃ g o, b = some ⟨g, o, none⟩ := by
      obtain ⟨g4, o4, c4, e4⟩ := rg_pos HL.out (by omega)
      injection e4 with e4
      exact ⟨g4, o4, e4⟩
    have HE : Hid ((l.drop f ++ l.take f).foldl (stepH p.self p.n target) [] = twoH p.self p.n x l target) := hid (by unfold twoH roundH; rw [if_neg hz, hf])
    have HRl : Hid ((l.drop f ++ l.take f).length = l.length) := hid (by rw [List.length_append, List.length_drop, List.length_take]; omega)
    -- the row, turned
    have HO1 := hid (builtU w1)
    have HK2 := hid (kept_alloc (kept_refl w1) (.cells #[] 5))
    obtain ⟨w2, hw2⟩ : ∃ u, w1.alloc (.cells #[] 5) = u := ⟨_, rfl⟩
    obtain ⟨C, hC⟩ : ∃ u, w1.heap.size = u := ⟨_, rfl⟩
    rw [hw2, hC] at HO1
    rw [hw2] at HK2
    have HD := hid (rg_win (rg_kept encU_ok HL.out (kept_trans HK.out (kept_trans HK1.out HK2.out))) hf1)
    have HC2 : Hid (C ≤ w2.heap.size) := hid (by have := HK2.out.2; omega)
    have hdl : (l.drop f).length = l.length - f := List.length_drop
    rw [← hdl] at HD
    obtain ⟨rl, hrl⟩ : ∃ rl, l.drop f ++ l.take f = rl := ⟨_, rfl⟩
    rw [hrl] at HE HRl
    have HRu : Hid (U8 rl) := hid (fun n hn => by
      rw [← hrl, List.mem_append] at hn
      exact hn.elim (fun h => hu n (List.mem_of_mem_drop h)) (fun h => hu n (List.mem_of_mem_take h)))
    have HBC : Hid (B < C ∧ w0.heap.size = B) := hid ⟨by have := og_at_lt2 HO0.out (g := B) rfl; omega, hB⟩
    have HLw : Hid (∀ u, Kept w0 u → Rg encU 1 u (.slice (some ⟨g, o, none⟩) l.length cb) l ∧ At u P #[.int .u8 p.self, .int .i64 (p.n : Int), .slice ra p.row.length rc, .int .i64 (p.place : Int), .slice a p.waits.length cap, .int .i64 (p.ticks : Int)] 30) := hid (fun u k => ⟨rg_kept encU_ok HL.out (kept_trans HK.out k), at_kept HA.out k⟩)
    have HOo : Hid (Og encU 1 5 w2 B (.slice (some ⟨B, 0, none⟩) 0 0) []) := hid (og_stays HO0.out HK2.out)
    have HKw2 := hid (kept_trans HK1.out HK2.out)
    clear hz hf hf0 k0 h HO0 HK1 HK2
    go_enter Try.func23, Try.ntmps23
    go_wp2_with (at_builtin; go_must (first | (refine wpList_gappL rfl (.tmp 26) (.tmp 29) rfl encU_ok tyU (by decide) C _ _ _ _ (l.drop f) rfl HO1.out (by rw [hdl]; rfl) (by rw [hdl]; omega) HD.out (by rw [hdl]; simp; omega) HC2.out ?_; intro v3 w3 hown3 hgrow3 hland3; have HKw3 := hid (kept_gr HKw2.out hgrow3 (fun j hj => by have := og_lt HO1.out hj; have := HBC.out; omega)); have HO3 := hid hown3; have HT3 := hid (rg_take (HLw.out w3 HKw3.out).1 (show f ≤ l.length by omega)); have HC3 : Hid (C ≤ w3.heap.size) := hid (by have := hgrow3.size; have := HC2.out; omega); have HOo3 := hid (og_block HOo.out (fun q cur hq ha => hgrow3.block q (at_lt ha) (fun e => by injection hq with hq; have := og_lt HO1.out e.symm; have := HBC.out; simp at hq; omega)))) | (refine wpList_gapp rfl (.tmp 31) (.tmp 34) rfl encU_ok tyU (by decide) C _ _ _ (l.take f) rfl HO3.out rfl HT3.out (by simp; omega) HC3.out ?_; intro v4 w4 hown4 hgrow4 hnil4; have HO4 : Hid (Og encU 1 5 w4 C v4 rl) := hid (by rw [← hrl]; exact hown4); have HKw4 := hid (kept_gr HKw3.out hgrow4 (fun j hj => by have := og_lt HO3.out hj; have := HBC.out; omega)); have HOo4 := hid (og_block HOo3.out (fun q cur hq ha => hgrow4.block q (at_lt ha) (fun e => by injection hq with hq; have := og_lt HO3.out e.symm; have := HBC.out; simp at hq; omega))); obtain ⟨da, dc, hv4, -, -⟩ := og_is encU_ok HO4.out; subst hv4)))
    clear e1 e2 e3 e4 e5 HO1 HD HC2 HO3 HT3 HC3 hown3 hgrow3 hland3 hown4 hgrow4 hnil4 HOo HOo3 HKw2 HKw3 hw0 hw1 hw2 hP hB hC hrl hdl
    have HTT : Hid (rl.take rl.length = rl) := hid List.take_length
    have HGr : Hid (∀ k, k < rl.length → ∃ y, rl[k]? = some y) := hid (fun k hk => ⟨rl[k], List.getElem?_eq_getElem hk⟩)
    have HPr : Hid (0 < rl.length → ∃ g o, da = some ⟨g, o, none⟩) := hid (fun hp => by
      obtain ⟨g, o, c, e⟩ := rg_pos (rg_own encU_ok HO4.out) hp
      injection e with e1
      exact ⟨g, o, e1⟩)
    have HAp0 : Hid (∀ g1, (Value.slice da rl.length dc).ownBlock = some g1 → (Value.slice (some ⟨B, 0, none⟩) 0 0).ownBlock = some g1 → False) := hid (fun g1 h1 h2 => by
      have h3 := og_lt HO4.out h1
      injection h2 with h2
      have := HBC.out
      simp at h2
      omega)
    have HB : Hid (w0.heap.size = B) := hid HBC.out.2
    have hm : rl.length ≤ 100 := by rw [HRl.out]; exact hl
    generalize hmm : rl.length = m at *
    clear hmm HRl
    go_loopw [9, 38] (fun ks j wr => ∃ k : Nat, k ≤ m ∧ j = .int .i64 k ∧ Hid (Og encU 1 5 wr B ks ((rl.take k).foldl (stepH p.self p.n target) [])) ∧ Hid (∀ g1, (Value.slice da m dc).ownBlock = some g1 → ks.ownBlock = some g1 → False) ∧ Hid (Og encU 1 5 wr C (.slice da m dc) rl) ∧ Hid (Kept w0 wr)) (fun _ j _ => m - (intOf j).toNat)
    case atStart => exact ⟨0, Nat.zero_le _, rfl, HOo4, HAp0, HO4, HKw4⟩
    case round =>
    obtain ⟨k, hk, rfl, HO, HApart, HRd, HKr⟩ := hrel
    clear HOo4 HAp0 HO4 HKw4
    by_cases hlt : k < m
    · obtain ⟨y, hy⟩ := HGr.out k hlt
      obtain ⟨g9, o9, rfl⟩ := HPr.out (by omega)
      have c0 := rg_U (rg_own encU_ok HRd.out) hy
      obtain ⟨q0, q1, q2, q3, q4, q5⟩ := at_cells6 (HLw.out _ HKr.out).2
      have HNx := hid (fold_next (self := p.self) (n := p.n) (target := target) hy)
      have HL2 : Hid (((rl.take k).foldl (stepH p.self p.n target) []).length ≤ 2) := hid (fold_len _ _ (by simp))
      have hyk := HRu.out y (List.mem_of_getElem? hy)
      have hwy : IntKind.i64.wrap y = y := IntWalk.i64_in _ (by omega)
      generalize (rl.take k).foldl (stepH p.self p.n target) [] = out at *
      obtain ⟨oa, oc, hks, -, -⟩ := og_is encU_ok HO.out
      subst hks
      by_cases e1 : y = target
      · have b1 : (y == target) = true := by simpa using e1
        have HX : Hid (stepH p.self p.n target out y = out) := hid (by unfold stepH; rw [if_pos (by unfold badH; simp [e1])])
        clear hy
        go_wp2_with fail
        go_roundw
        case rel => exact ⟨k + 1, by omega, by go_num, hid (by rw [HNx.out, HX.out]; exact HO.out), HApart, HRd, HKr⟩
        case measure => simp [intOf]; omega
      · have b1 : (y == target) = false := by simpa using e1
        by_cases e2 : y = p.self
        · have b2 : (y == p.self) = true := by simpa using e2
          have HX : Hid (stepH p.self p.n target out y = out) := hid (by unfold stepH; rw [if_pos (by unfold badH; simp [e1, e2])])
          clear hy
          go_wp2_with fail
          go_roundw
          case rel => exact ⟨k + 1, by omega, by go_num, hid (by rw [HNx.out, HX.out]; exact HO.out), HApart, HRd, HKr⟩
          case measure => simp [intOf]; omega
        · have b2 : (y == p.self) = false := by simpa using e2
          by_cases e3 : (p.n : Int) ≤ y
          · have b3 : decide ((p.n : Int) ≤ y) = true := by simpa using e3
            have HX : Hid (stepH p.self p.n target out y = out) := hid (by unfold stepH; rw [if_pos (by unfold badH; simp [e3])])
            clear hy
            go_wp2_with fail
            go_roundw
            case rel => exact ⟨k + 1, by omega, by go_num, hid (by rw [HNx.out, HX.out]; exact HO.out), HApart, HRd, HKr⟩
            case measure => simp [intOf]; omega
          · have b3 : decide ((p.n : Int) ≤ y) = false := by simpa using e3
            by_cases e4 : out.length = 2
            · have b4 : ((out.length : Int) == 2) = true := by rw [beq_iff_eq]; omega
              have HX : Hid (stepH p.self p.n target out y = out) := hid (by unfold stepH; rw [if_pos (by unfold badH; simp [e4])])
              clear hy
              go_wp2_with fail
              go_roundw
              case rel => exact ⟨k + 1, by omega, by go_num, hid (by rw [HNx.out, HX.out]; exact HO.out), HApart, HRd, HKr⟩
              case measure => simp [intOf]; omega
            · have b4 : ((out.length : Int) == 2) = false := beq_eq_false_iff_ne.2 (by omega)
              by_cases e5 : out.length = 1
              · have b5 : ((out.length : Int) == 1) = true := by rw [beq_iff_eq]; omega
                obtain ⟨z, hz⟩ : ∃ z, out[0]? = some z := ⟨out[0]'(by omega), List.getElem?_eq_getElem (by omega)⟩
                obtain ⟨g5, o5, c5, e6⟩ := rg_pos (rg_own encU_ok HO.out) (by omega)
                have c6 := rg_own encU_ok HO.out
                rw [e6] at c6
                have c7 := rg_U c6 hz
                rw [Nat.add_zero] at c7
                have HG5 := hid e6
                clear c6
                by_cases e7 : z = y
                · have b7 : (z == y) = true := by simpa using e7
                  have HX : Hid (stepH p.self p.n target out y = out) := hid (by unfold stepH; rw [if_pos (by unfold badH; rw [hz]; simp [e5, e7])])
                  clear hy
                  go_wp2_with fail
                  go_roundw
                  case rel => exact ⟨k + 1, by omega, by go_num, hid (by rw [HNx.out, HX.out]; exact HO.out), HApart, HRd, HKr⟩
                  case measure => simp [intOf]; omega
                · have b7 : (z == y) = false := by simpa using e7
                  have HX : Hid (stepH p.self p.n target out y = out ++ [y]) := hid (by unfold stepH; rw [if_neg (by unfold badH; rw [hz]; simp [e1, e2, e3, e4, e5, e7])])
                  have HKa := hid (kept_alloc HKr.out (.cells #[.int .u8 y] 5))
                  have HOa := hid (og_stays HO.out (kept_alloc (kept_refl wr) (.cells #[.int .u8 y] 5)))
                  have HRa := hid (og_stays HRd.out (kept_alloc (kept_refl wr) (.cells #[.int .u8 y] 5)))
                  have HAl := hid (rg_alone encU_ok (y := y) (at_new wr #[.int .u8 y] 5))
                  have HBw : Hid (B ≤ (wr.alloc (.cells #[.int .u8 y] 5)).heap.size) := hid (by have := HKa.out.2; have := HB.out; omega)
                  clear hy
                  go_wp2_with (at_builtin; go_must (refine wpList_gappL rfl (.tmp 78) (.tmp 80) rfl encU_ok tyU (by decide) B _ _ _ _ [y] rfl HOa.out rfl (by simp) HAl.out (by have := HL2.out; simp; omega) HBw.out ?_; intro v3 w4 hown3 hgrow3 hland3))
                  have HK3 := hid (kept_gr HKa.out hgrow3 (fun j hj => by have := og_lt HOa.out hj; have := HB.out; omega))
                  have HR3 := hid (og_block HRa.out (fun q cur hq ha => hgrow3.block q (at_lt ha) (fun e => HApart.out q hq e.symm)))
                  go_roundw
                  case rel => exact ⟨k + 1, by omega, by go_num, hid (by rw [HNx.out, HX.out]; exact hown3), hid (fun g1 hg1 hg2 => (hland3 g1 hg2).elim (fun h => HApart.out g1 hg1 h) (fun h => by have := og_at_lt2 HRd.out hg1; rw [World.size_alloc] at h; omega)), HR3, HK3⟩
                  case measure => simp [intOf]; omega
              · have b5 : ((out.length : Int) == 1) = false := beq_eq_false_iff_ne.2 (by omega)
                have HX : Hid (stepH p.self p.n target out y = out ++ [y]) := hid (by unfold stepH; rw [if_neg (by unfold badH; simp [e1, e2, e3, e4, e5])])
                have HKa := hid (kept_alloc HKr.out (.cells #[.int .u8 y] 5))
                have HOa := hid (og_stays HO.out (kept_alloc (kept_refl wr) (.cells #[.int .u8 y] 5)))
                have HRa := hid (og_stays HRd.out (kept_alloc (kept_refl wr) (.cells #[.int .u8 y] 5)))
                have HAl := hid (rg_alone encU_ok (y := y) (at_new wr #[.int .u8 y] 5))
                have HBw : Hid (B ≤ (wr.alloc (.cells #[.int .u8 y] 5)).heap.size) := hid (by have := HKa.out.2; have := HB.out; omega)
                clear hy
                go_wp2_with (at_builtin; go_must (refine wpList_gappL rfl (.tmp 78) (.tmp 80) rfl encU_ok tyU (by decide) B _ _ _ _ [y] rfl HOa.out rfl (by simp) HAl.out (by have := HL2.out; simp; omega) HBw.out ?_; intro v3 w4 hown3 hgrow3 hland3))
                have HK3 := hid (kept_gr HKa.out hgrow3 (fun j hj => by have := og_lt HOa.out hj; have := HB.out; omega))
                have HR3 := hid (og_block HRa.out (fun q cur hq ha => hgrow3.block q (at_lt ha) (fun e => HApart.out q hq e.symm)))
                go_roundw
                case rel => exact ⟨k + 1, by omega, by go_num, hid (by rw [HNx.out, HX.out]; exact hown3), hid (fun g1 hg1 hg2 => (hland3 g1 hg2).elim (fun h => HApart.out g1 hg1 h) (fun h => by have := og_at_lt2 HRd.out hg1; rw [World.size_alloc] at h; omega)), HR3, HK3⟩
                case measure => simp [intOf]; omega
    · have he : k = m := by omega
      subst he
      rw [HTT.out] at HO
      go_wp2_with fail
      go_ret
      exact HEnd.out _ _ _ HE.out HO.out HKr.out
end Go.Proofs.Ytgmcjnhijgnadaa
