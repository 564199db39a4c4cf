/- The walk of the law that what was added, and neither dropped nor added anew, is told once: by the first one whose time isn't below its own. -/
import Derived.Test.YtdmgdmhggmehgaaTimes
import Derived.Deep.CutBlock
import Derived.Deep.DeepCutAuto
namespace Go.Proofs.Ytdmgdmhggmehgaa
open Go.ChangeShapes Go.WideShapes Go.ChangeAt Go.RowKit
set_option linter.unusedVariables false
set_option linter.unusedSimpArgs false

/- The wheel, and the law's map beside it. -/
structure ON (W w : World) (X : Nat) (F : Nat → Prop) (b : Nat) (M R : List It) : Prop where
  good : Good w F X M
  mine : Mine W w F
  map : TR w b R
  out : ¬ F b
  new : W.heap.size ≤ b
section
variable {W w w' : World} {X b : Nat} {F F' : Nat → Prop} {M M' R R' : List It}
theorem on_kept (h : ON W w X F b M R) (k : Kept w w') : ON W w' X F b M R := ⟨good_kept h.good k, mine_kept h.mine k, tr_block h.map (kept_block k (tr_lt h.map)), h.out, h.new⟩
theorem on_stp (h : ON W w X F b M R) (s : Stp F F' w w') (g : Good w' F' X M') : ON W w' X F' b M' R :=
  ⟨g, mine_stp h.mine s, tr_block h.map (s.1.2.2.2 b (tr_lt h.map) h.out), fun hf => by
    rcases s.2 b hf with h1 | h1
    · exact h.out h1
    · have := tr_lt h.map; omega, h.new⟩
theorem on_tn (h : ON W w X F b M R) (t : Tn F w w') (g : Good w' F X M') : ON W w' X F b M' R := on_stp h (stp_tn t) g
theorem on_turned (h : ON W w X F b M R) (t : w.mapTurned w' b) (m : TR w' b R') : ON W w' X F b M R' := by
  have g := t.grown
  refine ⟨?_, ⟨kept_grown h.mine.1 g (fun k hk => by injection hk with hk; subst hk; exact h.new), h.mine.2⟩, m, h.out, h.new⟩
  obtain ⟨m', V, L, q, h1, h2⟩ := h.good
  exact ⟨m', V, L, q, gl_same h1 (fun j hj => turned_block t (h1.mem.low j hj) (fun e => h.out (by rw [← e]; exact hj))) g.size, h2⟩
theorem own_turned {B : Nat} {v : Value} {xs : List Int} (h : OwnI w B v xs) (t : w.mapTurned w' b) : OwnI w' B v xs := by
  obtain ⟨es, clock, g⟩ := turned_map t
  exact own_kept h (fun i cur _ ha => turned_block t (at_lt ha) (at_map ha g))
end
theorem parted (M : List It) (t : Int) : M.Perm (due M t ++ aft M t) := by
  unfold due aft
  exact (List.filter_append_perm _ M).symm
theorem uni_parted {M : List It} (h : Srt M) (t : Int) : (due M t ++ aft M t).Pairwise (fun a b => a.2 ≠ b.2) := ((parted M t).pairwise_iff (R := fun a b : It => a.2 ≠ b.2) (fun {_ _} g => Ne.symm g)).1 h.uni
theorem drop_on {l : List It} {k : Nat} {x : It} (h : l[k]? = some x) : l.drop k = x :: l.drop (k + 1) := by
  have hk := lt_of_some h
  rw [List.getElem?_eq_getElem hk] at h
  injection h with h
  rw [List.drop_eq_getElem_cons hk, h]
theorem uni_drop {M : List It} (h : Srt M) (t : Int) {k : Nat} {x : It} (hx : (due M t)[k]? = some x) : ∀ y ∈ (due M t).drop (k + 1) ++ aft M t, y.2 ≠ x.2 := by
  have h1 := uni_parted h t
  have h2 : (x :: ((due M t).drop (k + 1) ++ aft M t)).Sublist (due M t ++ aft M t) := by
    have e : x :: ((due M t).drop (k + 1) ++ aft M t) = (due M t).drop k ++ aft M t := by rw [drop_on hx]; rfl
    rw [e]
    exact List.Sublist.append (List.drop_sublist _ _) (List.Sublist.refl _)
  have h3 := List.pairwise_cons.1 (h1.sublist h2)
  exact fun y hy => Ne.symm (h3.1 y hy)
theorem due_le {M : List It} {t : Int} {x : It} (h : x ∈ due M t) : x ∈ M ∧ x.1 ≤ t := by
  unfold due at h
  have := List.mem_filter.1 h
  exact ⟨this.1, by simpa using this.2⟩
theorem aft_gt {M : List It} {t : Int} {x : It} (h : x ∈ aft M t) : t < x.1 := by
  unfold aft at h
  have := (List.mem_filter.1 h).2
  simpa using this
theorem due_rise {M : List It} (h : Srt M) {t : Int} {k : Nat} {x y : It} (hx : (due M t)[k + 1]? = some x) (hy : (due M t)[k]? = some y) : y.1 ≤ x.1 := by
  have h1 := (srt_due h t).srt
  have hk := lt_of_some hx
  rw [List.pairwise_iff_getElem] at h1
  have := h1 k (k + 1) (by omega) hk (by omega)
  rw [List.getElem?_eq_getElem hk] at hx
  rw [List.getElem?_eq_getElem (by omega)] at hy
  injection hx with hx
  injection hy with hy
  rw [hx, hy] at this
  unfold Lt at this
  omega
theorem add_len3 {x : It} {M : List It} {k : Int} {n : Nat} (h : M.length ≤ n) : (ins x (wo M k)).length ≤ n + 1 := by
  rw [(ins_perm _ _).length_eq]
  have := wo_len M k
  simp; omega
theorem ids_get {l : List It} {k : Nat} {x : It} (h : l[k]? = some x) : (ids l)[k]? = some x.2 := by unfold ids; simp [h]
set_option maxHeartbeats 12800000 in
set_option maxRecDepth 100000 in
theorem once_walk (oa : Option Addr) (len cap : Nat) (xs : List Int) (oa1 : Option Addr) (len1 cap1 : Nat) (ys : List Int) (oa2 : Option Addr) (len2 cap2 : Nat) (zs : List Int) (w : World)
    (hr : Rw w (.slice oa len cap) xs) (hl : xs.length = len) (hm : len ≤ maxLen ∧ ∀ x ∈ xs, Wf x) (hr1 : RwU w (.slice oa1 len1 cap1) ys) (hl1 : ys.length = len1) (hm1 : len1 ≤ maxLen ∧ ∀ x ∈ ys, Wu x) (hr2 : RwU w (.slice oa2 len2 cap2) zs) (hl2 : zs.length = len2) (hm2 : len2 ≤ maxLen ∧ ∀ x ∈ zs, Wu x) :
    Calls Try.prog 4 #[.slice oa len cap, .slice oa1 len1 cap1, .slice oa2 len2 cap2] w fun e w' => e = .returned (.bool true) ∧ Kept w w' := by
  have HRx : Hid (∀ u, Kept w u → Rw u (.slice oa len cap) xs) := hid (fun u k => rw_kept hr k)
  have HRy : Hid (∀ u, Kept w u → RwU u (.slice oa1 len1 cap1) ys) := hid (fun u k => rwu_kept hr1 k)
  have HRz : Hid (∀ u, Kept w u → RwU u (.slice oa2 len2 cap2) zs) := hid (fun u k => rwu_kept hr2 k)
  have HWx := hid hm.2
  have HWy := hid hm1.2
  have HLx := hid hl
  have HLy := hid hl1
  have HLz := hid hl2
  have h2 := hm.1
  have h3 := hm1.1
  have h4 := hm2.1
  unfold maxLen at h2 h3 h4
  clear hr hr1 hr2 hm hm1 hm2 hl hl1 hl2
  have hmm := @run_makeMap Try.prog
  go_enter Try.func4, Try.ntmps4
  go_wp2_with fail
  refine (new_any _).mono ?_
  rintro e w1 ⟨X, F1, rfl, k1, g1, f1⟩
  have HT : Hid (ON w (w1.alloc (.map #[] 0)) X F1 w1.heap.size [] []) := hid ⟨good_kept g1 (kept_alloc (kept_refl w1) _), ⟨kept_alloc k1 _, f1⟩, tr_made w1, fun hf => (by have := good_low g1 _ hf; omega), k1.2⟩
  clear k1 g1 f1
  go_upto_block 0 with fail
  clear hmm
  generalize w1.alloc (.map #[] 0) = w2 at *
  generalize w1.heap.size = b at *
  go_cut [7, 8] (fun a m wx => a = .pointer (some ⟨X, 0, none⟩) ∧ m = .map (some b) ∧ ∃ (F : Nat → Prop) (M : List It), M.length ≤ 101 ∧ Hid (ON w wx X F b M M))
  case first =>
    go_wp2_with fail
    go_loopw [26] (fun i wr => ∃ (j : Nat) (F : Nat → Prop) (M : List It), j ≤ len ∧ j ≤ 101 ∧ M.length ≤ j ∧ i = .int .i64 (j : Int) ∧ Hid (ON w wr X F b M M)) (fun i _ => len - (intOf i).toNat)
    case atStart => exact ⟨0, F1, [], Nat.zero_le _, by omega, Nat.le_refl _, rfl, HT⟩
    case round =>
      clear HT
      obtain ⟨j, F, M, hj, hj2, hM, rfl, HT⟩ := hrel
      by_cases hlt : j < len
      · obtain ⟨x, hx⟩ : ∃ x, xs[j]? = some x := ⟨xs[j]'(by rw [HLx.out]; exact hlt), List.getElem?_eq_getElem _⟩
        obtain ⟨a', c', e0, hc⟩ := HRx.out _ HT.out.mine.1
        injection e0 with e0 e2 e1
        clear e2
        subst e0 e1
        obtain ⟨g1, o1, rfl, hc2⟩ := hc (by rw [HLx.out]; omega)
        have c0 := hc2 j x hx
        have hxw := HWx.out x (List.mem_of_getElem? hx)
        clear hc hc2
        by_cases e0 : 100 < j
        · have e1 : (100 : Int) < (j : Int) := by omega
          clear e0
          go_wp2_with fail
          go_meet
          case rel => exact ⟨rfl, rfl, F, M, by omega, HT⟩
        · have e1 : decide ((100 : Int) < (j : Int)) = false := by simp; omega
          by_cases e3 : len1 ≤ j
          · have e4 : decide ((len1 : Int) ≤ (j : Int)) = true := by simp; omega
            clear e0
            go_wp2_with fail
            go_meet
            case rel => exact ⟨rfl, rfl, F, M, by omega, HT⟩
          · have e4 : decide ((len1 : Int) ≤ (j : Int)) = false := by simp; omega
            have hj3 : j ≤ 100 := by omega
            have hj4 : j < len1 := by omega
            obtain ⟨y, hy⟩ : ∃ y, ys[j]? = some y := ⟨ys[j]'(by rw [HLy.out]; exact hj4), List.getElem?_eq_getElem _⟩
            have hyw := HWy.out y (List.mem_of_getElem? hy)
            have HY : Hid (∀ u, Kept w u → ∃ g o, oa1 = some ⟨g, o, none⟩ ∧ u.cell? ⟨g, o + j, none⟩ = some (.int .u64 y)) := hid (fun u hu => by
              obtain ⟨a', c', e0, hc⟩ := HRy.out _ hu
              injection e0 with e0 e2 e1
              obtain ⟨g, o, e3, hc2⟩ := hc (by rw [HLy.out]; omega)
              exact ⟨g, o, e0.trans e3, hc2 j y hy⟩)
            obtain ⟨g2, o2, rfl, c2⟩ := HY.out _ HT.out.mine.1
            have hadd := add_any x y hxw hyw (by omega) wr HT.out.good
            have HSr := hid (good_srt HT.out.good)
            clear e0 e3 hx hy
            go_wp2_with fail
            refine hadd.mono ?_
            rintro e w3 ⟨rfl, F3, s3, g3⟩
            have HT3 := hid (on_stp HT.out s3 g3)
            obtain ⟨g4, o4, e5, c4⟩ := HY.out _ HT3.out.mine.1
            injection e5 with e5
            injection e5 with e5 e6
            subst e5 e6
            obtain ⟨w4, hrun, m4, t4⟩ := tr_put HT3.out.map HSr.out (by omega) hxw hyw
            have HT4 := hid (on_turned HT3.out t4 m4)
            have hML := add_len3 (x := (y, x)) (k := x) hM
            clear hadd s3 g3 c0 c2 HT m4 t4 HT3
            go_wp2_with fail
            go_roundw
            case rel => exact ⟨j + 1, F3, _, by omega, by omega, hML, by go_num, HT4⟩
            case measure => simp [intOf]; omega
      · go_wp2_with fail
        go_meet
        case rel => exact ⟨rfl, rfl, F, M, by omega, HT⟩
  case rest =>
    clear HT HRx HRy HWx HWy HLx HLy h2 h3
    obtain ⟨rfl, rfl, F0, M0, hM0, HT⟩ := hcut
    go_upto_block 2 with fail
    go_cut [7, 8] (fun a m wx => a = .pointer (some ⟨X, 0, none⟩) ∧ m = .map (some b) ∧ ∃ (F : Nat → Prop) (M : List It), M.length ≤ 101 ∧ Hid (ON w wx X F b M M))
    case first =>
      go_wp2_with fail
      go_loopw [55] (fun i wr => ∃ (j : Nat) (F : Nat → Prop) (M : List It), j ≤ len2 ∧ M.length ≤ 101 ∧ i = .int .i64 (j : Int) ∧ Hid (ON w wr X F b M M)) (fun i _ => len2 - (intOf i).toNat)
      case atStart => exact ⟨0, F0, M0, Nat.zero_le _, hM0, rfl, HT⟩
      case round =>
        clear HT hM0
        obtain ⟨j, F, M, hj, hM, rfl, HT⟩ := hrel
        by_cases hlt : j < len2
        · obtain ⟨t, ht⟩ : ∃ t, zs[j]? = some t := ⟨zs[j]'(by rw [HLz.out]; exact hlt), List.getElem?_eq_getElem _⟩
          obtain ⟨a', c', e0, hc⟩ := HRz.out _ HT.out.mine.1
          injection e0 with e0 e2 e1
          clear e2
          subst e0 e1
          obtain ⟨g1, o1, rfl, hc2⟩ := hc (by rw [HLz.out]; omega)
          have c0 := hc2 j t ht
          clear hc hc2 ht
          by_cases e0 : 50 < j
          · have e1 : (50 : Int) < (j : Int) := by omega
            clear e0
            go_wp2_with fail
            go_meet
            case rel => exact ⟨rfl, rfl, F, M, hM, HT⟩
          · have e1 : decide ((50 : Int) < (j : Int)) = false := by simp; omega
            have hdue := due_any t (by omega) wr HT.out.good
            have HSr := hid (good_srt HT.out.good)
            have HWf := hid (good_wf HT.out.good)
            clear e0
            go_wp2_with fail
            refine hdue.mono ?_
            rintro e w3 ⟨v3, rfl, o3, t3, g3⟩
            have HT3 := hid (on_tn HT.out t3 g3)
            obtain ⟨B0, hB0⟩ : ∃ B0, wr.heap.size = B0 := ⟨_, rfl⟩
            rw [hB0] at o3
            have HO3 := hid o3
            have hn : (due M t).length ≤ 101 := Nat.le_trans (due_len M t) hM
            have HIl := hid (ids_len (due M t))
            have HGt : Hid (∀ k, k < (due M t).length → ∃ x, (due M t)[k]? = some x) := hid (fun k hk => ⟨(due M t)[k], List.getElem?_eq_getElem hk⟩)
            clear hB0
            obtain ⟨va, vc, hv3, hcell⟩ := rw_own o3
            have HCe := hid hcell
            rw [HIl.out] at hv3
            subst hv3
            clear hdue o3 t3 g3 c0 HT hcell
            generalize hnn : (due M t).length = n at *
            have HNn := hid hnn
            clear hnn
            go_wp2_with fail
            go_loopw [67] (fun i wr => ∃ k : Nat, k ≤ n ∧ i = .int .i64 (k : Int) ∧ wr = w3) (fun i _ => n - (intOf i).toNat)
            case atStart => exact ⟨0, Nat.zero_le _, rfl, rfl⟩
            case round =>
              obtain ⟨k, hk, rfl, rfl⟩ := hrel
              by_cases hkn : k < n
              · obtain ⟨x, hx⟩ := HGt.out k hkn
                obtain ⟨q1, q2⟩ := due_le (List.mem_of_getElem? hx)
                obtain ⟨g5, o5, rfl, hc5⟩ := HCe.out (by rw [HIl.out]; omega)
                have c5 := hc5 k _ (ids_get hx)
                have hl1 := (tr_look HT3.out.map q1 (HWf.out x q1).1).2
                have d1 : decide (t < x.1) = false := by simp; omega
                rcases Nat.eq_zero_or_pos k with hk0 | hk0
                · have d2 : decide (0 < k) = false := by simp; omega
                  clear hc5 hx q1 q2 hk0
                  go_wp2_with fail
                  go_roundw
                  case rel => exact ⟨k + 1, by omega, by go_num, trivial⟩
                  case measure => simp [intOf]; omega
                · obtain ⟨p, rfl⟩ : ∃ p, k = p + 1 := ⟨k - 1, by omega⟩
                  obtain ⟨y, hy⟩ := HGt.out p (by omega)
                  have q3 := (due_le (List.mem_of_getElem? hy)).1
                  have c6 := hc5 p _ (ids_get hy)
                  have hl2 := (tr_look HT3.out.map q3 (HWf.out y q3).1).1
                  have hri := due_rise HSr.out hx hy
                  have d3 : decide (x.1 < y.1) = false := by simp; omega
                  clear hc5 hx hy q1 q2 q3 hri
                  go_wp2_with fail
                  go_roundw
                  case rel => exact ⟨p + 1 + 1, by omega, by go_num, trivial⟩
                  case measure => simp [intOf]; omega
              · have hke : k = n := by omega
                subst hke
                clear hkn hk
                have HT4 : Hid (ON w wr X F b (aft M t) ((due M t).drop 0 ++ aft M t)) := hid ⟨HT3.out.good, HT3.out.mine, tr_perm HT3.out.map (parted M t), HT3.out.out, HT3.out.new⟩
                clear HT3 HCe
                go_wp2_with fail
                go_loopw [103] (fun i wr => ∃ m : Nat, m ≤ k ∧ i = .int .i64 (m : Int) ∧ Hid (ON w wr X F b (aft M t) ((due M t).drop m ++ aft M t)) ∧ Hid (OwnI wr B0 (.slice va k vc) (ids (due M t)))) (fun i _ => k - (intOf i).toNat)
                case atStart => exact ⟨0, Nat.zero_le _, rfl, HT4, HO3⟩
                case round =>
                  clear HT4 HO3
                  obtain ⟨m, hm, rfl, HT, HO⟩ := hrel
                  by_cases hmk : m < k
                  · obtain ⟨x, hx⟩ := HGt.out m hmk
                    obtain ⟨q1, q2⟩ := due_le (List.mem_of_getElem? hx)
                    obtain ⟨a5, c5, e5, hc5⟩ := rw_own HO.out
                    injection e5 with e5 e6 e7
                    subst e5 e7
                    clear e6
                    obtain ⟨g5, o5, rfl, hc6⟩ := hc5 (by rw [HIl.out]; omega)
                    have c6 := hc6 m _ (ids_get hx)
                    have hR : (due M t).drop m ++ aft M t = x :: ((due M t).drop (m + 1) ++ aft M t) := by rw [drop_on hx]; rfl
                    have hmp := HT.out.map
                    rw [hR] at hmp
                    obtain ⟨w4, hrun, m4, t4⟩ := tr_del hmp (uni_drop HSr.out t hx) (HWf.out x q1).1 0
                    have HT4 := hid (on_turned HT.out t4 m4)
                    have HO4 := hid (own_turned HO.out t4)
                    clear hx q1 q2 hc5 hc6 hR hmp m4 t4 HT HO
                    go_wp2_with fail
                    go_roundw
                    case rel => exact ⟨m + 1, by omega, by go_num, HT4, HO4⟩
                    case measure => simp [intOf]; omega
                  · have hme : m = k := by omega
                    subst hme
                    have HT5 : Hid (ON w wr X F b (aft M t) (aft M t)) := hid (by
                      have h := HT.out
                      rw [List.drop_eq_nil_of_le (by rw [HNn.out]; omega)] at h
                      exact h)
                    obtain ⟨D, hown, hD⟩ := tr_owns HT5.out.map
                    have HDd := hid hD
                    have HOw := hid hown
                    obtain ⟨w5, hw5⟩ : ∃ w5, w5 = wr := ⟨_, rfl⟩
                    subst hw5
                    have hAl : (aft M t).length ≤ 101 := Nat.le_trans (aft_len M t) hM
                    clear HT HO hmk hm hD hown
                    go_wp2_with (at_range; go_must (refine wpList_range_own _ rfl (.tmp 110) 47 rfl 3 26 keyed3 Try.underlying47 (plainElem Try.prog 26) b (Maps.size D) D rfl HOw.out ?_; intro w6 hrg6 hg6 hs6))
                    have HG6 : Hid (Kept w5 w6) := hid (kept_grown (kept_refl w5) hg6 (fun k hk => by cases hk))
                    have HR6 := hid hrg6
                    clear hrg6 hg6 hs6
                    go_frame
                    generalize hrr : w5.heap.size = r at *
                    have HRr := hid hrr
                    clear hrr
                    go_loopw [21] (fun _ wq => ∃ (left : Lit → Bool) (cnt : Nat), Hid (wq.ranges Try.prog 3 (plainElem Try.prog 26) b r (Maps.size D) D left cnt) ∧ Hid (∀ kl, left kl = true → Maps.has D kl = true) ∧ Hid (Kept w5 wq)) (fun _ wq => wq.rangeLeft b r)
                    case atStart => exact ⟨_, _, HR6, hid (fun _ h => h), HG6⟩
                    case round =>
                      clear HR6 HG6
                      obtain ⟨left, cnt, HR, HLf, HG⟩ := hrel
                      go_wp2_with (at_next; go_must (refine wpList_next_ranges_ii _ rfl (.tmp 111) rfl 3 26 .i64 .u64 keyed3 Try.underlying3 Try.underlying26 b r (Maps.size D) D left cnt rfl HR.out ?_ ?_))
                      · intro _ _
                        have HT8 := hid (on_kept HT5.out HG.out)
                        go_wp2_with fail
                        go_roundw
                        case rel => exact ⟨j + 1, F, aft M t, by omega, hAl, by go_num, HT8⟩
                        case measure => simp [intOf]; omega
                      · intro x c w7 cnt1 hwx hwc hlx hat hrg1 hlt1 hg1 hs1 hen
                        have hgt := aft_gt (HDd.out x c (HLf.out _ hlx) hat)
                        have d5 : decide (c ≤ t) = false := by simp; exact hgt
                        have HR7 := hid hrg1
                        have HG7 : Hid (Kept w5 w7) := hid (kept_grown HG.out hg1 (fun k hk => by injection hk with hk; have := HRr.out; omega))
                        have HLf7 : Hid (∀ kl, (left kl && !kl.sameKey (.int .i64 x)) = true → Maps.has D kl = true) := hid (fun kl h => HLf.out kl (by simp at h; exact h.1))
                        have HMe : Hid (w7.rangeLeft b r < wr.rangeLeft b r) := hid (by rw [hrg1.left_eq, HR.out.left_eq]; exact hlt1)
                        clear hat hrg1 hlt1 hg1 hs1 hgt hlx
                        go_wp2_with fail
                        go_roundw
                        case rel => exact ⟨_, _, HR7, HLf7, HG7⟩
                        case measure => exact HMe.out
        · go_wp2_with fail
          go_meet
          case rel => exact ⟨rfl, rfl, F, M, hM, HT⟩
    case rest =>
      clear HT
      obtain ⟨rfl, rfl, F, M, hM, HT⟩ := hcut
      go_wp2_with fail
      refine (fixed_any _).mono ?_
      rintro e w3 ⟨rfl, k3⟩
      have HT3 := hid (on_kept HT.out k3)
      have hlen := len_any w3 HT3.out.good
      have hml := fun ty => tr_len HT3.out.map ty
      have heq : (((M.length : Nat) : Int) == ((M.length : Nat) : Int)) = true := by simp
      clear k3 HT
      go_wp2_with fail
      refine hlen.mono ?_
      rintro e w4 ⟨rfl, rfl⟩
      clear hlen
      go_wp2_with fail
      go_ret
      exact ⟨by first | rfl | simp, HT3.out.mine.1⟩
end Go.Proofs.Ytdmgdmhggmehgaa
