/- The law that of two that were used the one that was used later stands first, walked: it answers true and turns nothing that was there. -/
import Derived.Test.YtnpfjfolpfokoaaMaps
namespace Go.Proofs.Ytnpfjfolpfokoaa
open Go.ChangeShapes Go.WideShapes Go.ChangeAt Go.RowKit
set_option linter.unusedVariables false
set_option linter.unusedSimpArgs false

/- When each number was used last, and how they stand. -/
structure Bh (l : List Nat) (M : Nat → Option Nat) (j : Nat) : Prop where
  mem : ∀ x, (M x).isSome = true ↔ x ∈ l
  low : ∀ x, x ∈ l → (M x).getD 0 < j
  dec : l.Pairwise (fun x y => (M y).getD 0 < (M x).getD 0)
theorem bh_new : Bh [] (fun _ => none) 0 := ⟨fun x => by simp, fun x h => (by cases h), List.Pairwise.nil⟩
section
variable {l : List Nat} {M : Nat → Option Nat} {j : Nat}
theorem bh_idle (h : Bh l M j) : Bh l M (j + 1) := ⟨h.mem, fun x hx => Nat.lt_succ_of_lt (h.low x hx), h.dec⟩
theorem bh_use (h : Bh l M j) (x : Nat) : Bh (x :: wo l x) (fun q => if q = x then some j else M q) (j + 1) := by
  refine ⟨fun y => ?_, fun y hy => ?_, List.pairwise_cons.2 ⟨fun y hy => ?_, ?_⟩⟩
  · rw [List.mem_cons, mem_wo]
    by_cases e : y = x
    · simp [e]
    · simp only [if_neg e]
      rw [h.mem y]
      simp [e]
  · rcases List.mem_cons.1 hy with e | e
    · simp [e]
    · obtain ⟨h1, h2⟩ := mem_wo.1 e
      simp only [if_neg h2]
      exact Nat.lt_succ_of_lt (h.low y h1)
  · obtain ⟨h1, h2⟩ := mem_wo.1 hy
    simp only [if_neg h2]
    simpa using h.low y h1
  · have h1 : (wo l x).Pairwise (fun x y => (M y).getD 0 < (M x).getD 0) := h.dec.sublist List.filter_sublist
    refine h1.imp_of_mem (fun {a b} ha hb hab => ?_)
    simp only [if_neg (mem_wo.1 ha).2, if_neg (mem_wo.1 hb).2]
    exact hab
theorem bh_count (h : Bh l M j) (hd : l.Nodup) (x : Nat) : l.length + (if M x = none then 1 else 0) = (x :: wo l x).length := by
  by_cases hx : x ∈ l
  · have : M x ≠ none := by
      have := (h.mem x).2 hx
      intro e; rw [e] at this; cases this
    rw [if_neg this]
    obtain ⟨p, q, rfl⟩ := List.append_of_mem hx
    rw [wo_mid hd]
    simp
    omega
  · have : M x = none := by
      cases e : M x with
      | none => rfl
      | some y => exact absurd ((h.mem x).1 (by rw [e]; rfl)) hx
    rw [if_pos this, wo_not hx]
    rfl
theorem bh_at (h : Bh l M j) {m : Nat} (hm : m + 1 < l.length) : (M (nth l 0 (m + 1))).getD 0 < (M (nth l 0 m)).getD 0 := by
  rw [nth_lt hm, nth_lt (show m < l.length by omega)]
  exact List.pairwise_iff_getElem.1 h.dec m (m + 1) (by omega) hm (by omega)
end
set_option maxHeartbeats 3200000 in
set_option maxRecDepth 100000 in
theorem behind_walk (a : Int) (oa : Option Addr) (len cap : Nat) (xs : List Int) (w : World) (wa : (Lit.int .u8 a).wf = true) (hr : Rw w (.slice oa len cap) xs) (hl : xs.length = len) (hm : len ≤ maxLen) :
    Calls Try.prog 6 #[.int .u8 a, .slice oa len cap] w fun e w' => e = .returned (.bool true) ∧ Kept w w' := by
  obtain ⟨ha0, ha1⟩ := bounds_u8 wa
  obtain ⟨N, rfl⟩ := Int.eq_ofNat_of_zero_le ha0
  obtain ⟨k, hk, hk1, hk2⟩ : ∃ k : Nat, (1 : Int) + (N : Int) = (k : Int) ∧ 1 ≤ k ∧ k ≤ 1024 := ⟨1 + N, by omega, by omega, by omega⟩
  have HRw := hid hr
  have HLn := hid hl
  unfold maxLen at hm
  clear wa hr hl
  by_cases h3 : 300 < len
  · have e3 : decide ((300 : Int) < (len : Int)) = true := by simp; omega
    clear h3
    go_enter Try.func6, Try.ntmps6
    go_wp2_with fail
    refine (new_any k hk1 hk2 _).mono ?_
    rintro e w1 ⟨X, R, rfl, hX, hR, k1, g1⟩
    have HK1 := hid k1
    clear hX hR g1 k1
    go_wp2_with fail
    refine (fixed_any _).mono ?_
    rintro e w2 ⟨rfl, k2⟩
    have HK2 := hid (kept_trans HK1.out k2)
    clear k2
    go_wp2_with fail
    refine (fixed_any _).mono ?_
    rintro e w3 ⟨rfl, k3⟩
    go_wp2_with fail
    go_ret
    exact ⟨rfl, kept_trans HK2.out k3⟩
  · have e3 : decide ((300 : Int) < (len : Int)) = false := by simp; omega
    have hmm := @run_makeMap Try.prog
    go_enter Try.func6, Try.ntmps6
    go_wp2_with fail
    refine (new_any k hk1 hk2 _).mono ?_
    rintro e w1 ⟨X, R, rfl, hX, hR, k1, g1⟩
    have HR := hid hR
    have HG1 := hid g1
    have HK1 := hid k1
    clear hX hR g1 k1
    go_wp2_with fail
    refine (fixed_any _).mono ?_
    rintro e w2 ⟨rfl, k2⟩
    have HB := hid (kept_trans HK1.out k2).2
    have HG2 := hid (good_alloc (good_kept HG1.out k2) (.map #[] 0))
    have HK2 := hid (kept_alloc (kept_trans HK1.out k2) (.map #[] 0))
    have HL2 := hid (lasts_made w2)
    clear HG1 HK1 k2
    go_wp2_with fail
    clear hmm e3
    generalize w2.alloc (.map #[] 0) = w3 at *
    generalize w2.heap.size = Bm at *
    go_loopw [43] (fun i wr => ∃ (j : Nat) (l : List Nat) (M : Nat → Option Nat), i = .int .i64 (j : Int) ∧ j ≤ len ∧ Hid (Good wr X R k l) ∧ Hid (Kept w wr) ∧ Hid (∃ n, n ≤ j ∧ Lasts wr Bm n M l.length) ∧ Hid (Bh l M j)) (fun i _ => len - (intOf i).toNat)
    case atStart => exact ⟨0, [], _, rfl, Nat.zero_le _, HG2, HK2, hid ⟨0, Nat.le_refl _, HL2.out⟩, hid bh_new⟩
    case round =>
      obtain ⟨j, l, M, rfl, hj, HG, HK, HLs, HBh⟩ := hrel
      clear HG2 HK2 HL2
      by_cases hlt : j < len
      · obtain ⟨a5, c5, e5, h5⟩ := rw_kept HRw.out HK.out
        injection e5 with e5 e6 e7
        subst e5 e7
        clear e6
        obtain ⟨g5, o5, rfl, h6⟩ := h5 (by rw [HLn.out]; omega)
        have hxl : j < xs.length := by rw [HLn.out]; exact hlt
        have c0 := h6 j xs[j] (by simp [hxl])
        generalize xs[j] = z at *
        clear h5 h6 hxl
        obtain ⟨n, hn, hLs⟩ := HLs.out
        have HLn2 := hid hLs
        clear hLs HLs
        by_cases hz : 0 ≤ z ∧ z < (k : Int)
        · obtain ⟨x, rfl⟩ := Int.eq_ofNat_of_zero_le hz.1
          have hxk : x < k := by omega
          clear hz
          go_wp2_with fail
          refine (use_any x hxk _ HG.out).mono ?_
          rintro e w4 ⟨rfl, t4, g4⟩
          obtain ⟨w5, hup, hL5, ht5⟩ := lasts_put (lasts_turn HLn2.out HG.out t4) (by omega) x (by omega) j (by omega)
          rw [bh_count HBh.out (good_once HG.out) x] at hL5
          have HL5 := hid hL5
          have HG5 := hid (good_turned g4 ht5)
          have HK5 := hid (kept_turned (kept_turn HK.out HR.out t4) HB.out ht5)
          have HB5 := hid (bh_use HBh.out x)
          clear c0 t4 g4 hL5 ht5 HG HK HLn2 HBh
          go_wp2_with fail
          go_roundw
          case rel => exact ⟨j + 1, _, _, by go_num, by omega, HG5, HK5, hid ⟨n + 1, by omega, HL5.out⟩, HB5⟩
          case measure => simp [intOf]; omega
        · have HU := hid (use_bad z hz wr HG.out)
          clear hz
          go_wp2_with fail
          refine HU.out.mono ?_
          rintro e w4 ⟨rfl, rfl⟩
          go_wp2_with fail
          go_roundw
          case rel => exact ⟨j + 1, l, M, by go_num, by omega, HG, HK, hid ⟨n, by omega, HLn2.out⟩, hid (bh_idle HBh.out)⟩
          case measure => simp [intOf]; omega
      · obtain ⟨n, hn, hLs⟩ := HLs.out
        have HL5 := hid hLs
        clear hLs HLs
        go_wp2_with fail
        refine (order_any _ HG.out).mono ?_
        rintro e w4 ⟨v, rfl, o4, k4⟩
        have HK4 := hid (kept_trans HK.out k4)
        have HL4 := hid (lasts_kept HL5.out k4)
        have HO4 := hid o4
        have hlen := good_len HG.out
        have HLow := hid (good_lt HG.out)
        obtain ⟨va, vc, rfl, -⟩ := rw_own o4
        have HCl := hid (cs_len l)
        have HCg : Hid (∀ m, m < l.length → (cs l)[m]? = some ((nth l 0 m : Nat) : Int)) := hid (fun m hm => by rw [nth_lt hm]; unfold cs; simp [hm])
        have HTn : Hid (∀ j, j < l.length → nth l 0 j < k ∧ (M (nth l 0 j)).isSome = true ∧ (M (nth l 0 j)).getD 0 ≤ 300) := hid (fun j hj => by
          have hmem : nth l 0 j ∈ l := by rw [nth_lt hj]; exact List.getElem_mem hj
          exact ⟨HLow.out _ hmem, (HBh.out.mem _).2 hmem, by have := HBh.out.low _ hmem; omega⟩)
        have HTb := hid (fun m (h : m + 1 < l.length) => bh_at HBh.out h)
        rw [HCl.out] at HO4 ⊢
        generalize hL : l.length = L at *
        clear o4 k4 HG HK HL5 HBh hL hn
        go_wp2_with fail
        obtain ⟨wk, hwk⟩ : ∃ x, x = wr := ⟨_, rfl⟩
        subst hwk
        go_loopw [60] (fun i wr => ∃ (j : Nat), i = .int .i64 (j : Int) ∧ j ≤ L ∧ Hid (Kept w wr) ∧ Hid (OwnI wr wk.heap.size (.slice va L vc) (cs l)) ∧ Hid (Lasts wr Bm n M L)) (fun i _ => L - (intOf i).toNat)
        case atStart => exact ⟨0, rfl, Nat.zero_le _, HK4, HO4, HL4⟩
        case round =>
          obtain ⟨j, rfl, hj, HK6, HO6, HL6⟩ := hrel
          clear HK4 HO4 HL4
          by_cases hlt : j < L
          · obtain ⟨t1, t2, t3⟩ := HTn.out j hlt
            have hg := HCg.out j hlt
            obtain ⟨a5, c5, e5, h5⟩ := rw_own HO6.out
            injection e5 with e5 e6 e7
            subst e5 e7
            clear e6
            obtain ⟨g5, o5, rfl, h6⟩ := h5 (by rw [HCl.out]; omega)
            have c0 := h6 j _ hg
            have hlook := lasts_lookok HL6.out (nth l 0 j) (by omega)
            rw [t2] at hlook
            match j, hj, hlt, c0, hlook, t1, t3 with
            | 0, hj, hlt, c0, hlook, t1, t3 =>
              rw [Nat.add_zero] at c0
              generalize nth l 0 0 = x at *
              generalize (M x).getD 0 = y at *
              clear h5 h6 hg t2
              have q1 : decide ((0 : Int) < 0) = false := rfl
              go_wp2_with fail
              go_quiet (fail)
              go_wp2_with fail
              go_roundw
              case rel => exact ⟨1, by go_num, by omega, hid (kept_drewN HK6.out _), hid (own_stays HO6.out (kept_drewN (kept_refl _) _)), hid (lasts_kept HL6.out (kept_drewN (kept_refl _) _))⟩
              case measure => simp [intOf]; omega
            | m + 1, hj, hlt, c0, hlook, t1, t3 =>
              obtain ⟨s1, s2, s3⟩ := HTn.out m (by omega)
              have c1 := h6 m _ (HCg.out m (by omega))
              have hlk1 := fun q => lasts_look (lasts_kept HL6.out (kept_drewN (kept_refl wr) q)) (nth l 0 m) (by omega)
              have hlk2 := fun q => lasts_look (lasts_kept HL6.out (kept_drewN (kept_refl wr) q)) (nth l 0 (m + 1)) (by omega)
              have hlt2 := HTb.out m hlt
              generalize nth l 0 (m + 1) = x at *
              generalize nth l 0 m = x' at *
              generalize (M x).getD 0 = y at *
              generalize (M x').getD 0 = y' at *
              have q1 : decide ((0 : Int) < ((m + 1 : Nat) : Int)) = true := by simp
              have q2 : decide ((y' : Int) ≤ (y : Int)) = false := by simp; omega
              clear h5 h6 hg t2 s2
              go_wp2_with fail
              go_quiet (fail)
              go_wp2_with fail
              go_roundw
              case rel => exact ⟨m + 2, by go_num, by omega, hid (kept_drewN HK6.out _), hid (own_stays HO6.out (kept_drewN (kept_refl _) _)), hid (lasts_kept HL6.out (kept_drewN (kept_refl _) _))⟩
              case measure => simp [intOf]; omega
          · have hln := lasts_len HL6.out 3
            go_wp2_with fail
            go_ret
            exact ⟨rfl, HK6.out⟩
end Go.Proofs.Ytnpfjfolpfokoaa
