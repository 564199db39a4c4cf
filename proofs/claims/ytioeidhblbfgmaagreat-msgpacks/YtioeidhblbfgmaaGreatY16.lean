/- The contracts of the reference's MayNews, MaySeen and May. Texts have at most as many bytes as a text may have. -/
import Derived.Test.YtioeidhblbfgmaaGreatY14
import Derived.Test.YtioeidhblbfgmaaGreatY15

namespace Go.Proofs.YtioeidhblbfgmaaGreat
open Go.ChangeShapes Go.WideShapes Go.ChangeAt Go.RowKit
set_option linter.unusedVariables false
set_option linter.unusedSimpArgs false
set_option maxRecDepth 100000

set_option maxHeartbeats 1600000 in
theorem mayNews_any (x : Nw) (w : World) : Calls Tryz.prog 35 #[.agg #[.int .u8 x.node, .int .u8 x.st, .int .u32 x.inc]] w fun e w' => e = .returned (.bool (mayN x)) ∧ Kept w w' := by
  have HE : Hid (mayN x = (decide (x.node < 64) && (decide (1 ≤ x.st) && decide (x.st ≤ 4)))) := hid rfl
  have HK := hid (kept_alloc (kept_refl w) (.cells #[.int .u8 x.node, .int .u8 x.st, .int .u32 x.inc] 79))
  obtain ⟨b0, b1, b2, -⟩ := at_cells3 (at_new w #[.int .u8 x.node, .int .u8 x.st, .int .u32 x.inc] 79)
  generalize mayN x = out at *
  by_cases h1 : x.node < 64
  · have _ := h1
    by_cases h2 : 1 ≤ x.st
    · have _ := h2
      by_cases h3 : x.st ≤ 4
      · have _ := h3
        have HO : Hid (true = out) := hid (by rw [HE.out]; simp [h1, h2, h3])
        clear HE
        go_enter Tryz.func35, Tryz.ntmps35
        go_wp2_with fail
        go_ret
        exact ⟨ret_bool HO.out, HK.out⟩
      · have _ := h3
        have HO : Hid (false = out) := hid (by rw [HE.out]; simp [h1, h2, h3])
        have hdec : decide (x.st ≤ 4) = false := decide_eq_false h3
        clear HE
        go_enter Tryz.func35, Tryz.ntmps35
        go_wp2_with fail
        go_ret
        exact ⟨ret_bool HO.out, HK.out⟩
    · have _ := h2
      have HO : Hid (false = out) := hid (by rw [HE.out]; simp [h1, h2])
      have hdec : decide (1 ≤ x.st) = false := decide_eq_false h2
      clear HE
      go_enter Tryz.func35, Tryz.ntmps35
      go_wp2_with fail
      go_ret
      exact ⟨ret_bool HO.out, HK.out⟩
  · have _ := h1
    have HO : Hid (false = out) := hid (by rw [HE.out]; simp [h1])
    have hdec : decide (x.node < 64) = false := decide_eq_false h1
    clear HE
    go_enter Tryz.func35, Tryz.ntmps35
    go_wp2_with fail
    go_ret
    exact ⟨ret_bool HO.out, HK.out⟩
set_option maxHeartbeats 3200000 in
theorem maySeen_any (x : Sn) (hk : x.key.size ≤ maxLen) (w : World) : Calls Tryz.prog 38 #[.agg #[.string x.key, .int .u64 x.s.p, .int .u32 x.s.l, .int .u8 x.s.n, .int .u8 x.kind]] w fun e w' => e = .returned (.bool (mayS x)) ∧ Kept w w' := by
  have HE : Hid (mayS x = (keyMay x.key && (decide (x.s.p ≤ 281474976710655) && (decide (x.s.n < 64) && (decide (1 ≤ x.kind) && decide (x.kind ≤ 3)))))) := hid rfl
  have HK := hid (kept_alloc (kept_refl w) (.cells #[.string x.key, .int .u64 x.s.p, .int .u32 x.s.l, .int .u8 x.s.n, .int .u8 x.kind] 59))
  obtain ⟨b0, b1, b2, b3, b4, -⟩ := at_cells5 (at_new w #[.string x.key, .int .u64 x.s.p, .int .u32 x.s.l, .int .u8 x.s.n, .int .u8 x.kind] 59)
  have hM := fun u => refKeyMay_any x.key hk u
  generalize mayS x = out at *
  cases h0 : keyMay x.key with
  | false =>
    rw [h0] at hM
    have HO : Hid (false = out) := hid (by rw [HE.out, h0]; rfl)
    clear HE hk h0
    go_enter Tryz.func38, Tryz.ntmps38
    go_wp2_with fail
    refine (hM _).mono ?_
    rintro e w1 ⟨rfl, rfl⟩
    go_wp2_with fail
    go_ret
    exact ⟨ret_bool HO.out, HK.out⟩
  | true =>
    rw [h0] at hM
    have HE2 : Hid (out = (decide (x.s.p ≤ 281474976710655) && (decide (x.s.n < 64) && (decide (1 ≤ x.kind) && decide (x.kind ≤ 3))))) := hid (by rw [HE.out, h0]; rfl)
    clear HE hk h0
    by_cases h1 : x.s.p ≤ 281474976710655
    · have _ := h1
      by_cases h2 : x.s.n < 64
      · have _ := h2
        by_cases h3 : 1 ≤ x.kind
        · have _ := h3
          by_cases h4 : x.kind ≤ 3
          · have _ := h4
            have HO : Hid (true = out) := hid (by rw [HE2.out]; simp [h1, h2, h3, h4])
            clear HE2
            go_enter Tryz.func38, Tryz.ntmps38
            go_wp2_with fail
            refine (hM _).mono ?_
            rintro e w1 ⟨rfl, rfl⟩
            go_wp2_with fail
            go_ret
            exact ⟨ret_bool HO.out, HK.out⟩
          · have _ := h4
            have HO : Hid (false = out) := hid (by rw [HE2.out]; simp [h1, h2, h3, h4])
            have hdec : decide (x.kind ≤ 3) = false := decide_eq_false h4
            clear HE2
            go_enter Tryz.func38, Tryz.ntmps38
            go_wp2_with fail
            refine (hM _).mono ?_
            rintro e w1 ⟨rfl, rfl⟩
            go_wp2_with fail
            go_ret
            exact ⟨ret_bool HO.out, HK.out⟩
        · have _ := h3
          have HO : Hid (false = out) := hid (by rw [HE2.out]; simp [h1, h2, h3])
          have hdec : decide (1 ≤ x.kind) = false := decide_eq_false h3
          clear HE2
          go_enter Tryz.func38, Tryz.ntmps38
          go_wp2_with fail
          refine (hM _).mono ?_
          rintro e w1 ⟨rfl, rfl⟩
          go_wp2_with fail
          go_ret
          exact ⟨ret_bool HO.out, HK.out⟩
      · have _ := h2
        have HO : Hid (false = out) := hid (by rw [HE2.out]; simp [h1, h2])
        have hdec : decide (x.s.n < 64) = false := decide_eq_false h2
        clear HE2
        go_enter Tryz.func38, Tryz.ntmps38
        go_wp2_with fail
        refine (hM _).mono ?_
        rintro e w1 ⟨rfl, rfl⟩
        go_wp2_with fail
        go_ret
        exact ⟨ret_bool HO.out, HK.out⟩
    · have _ := h1
      have HO : Hid (false = out) := hid (by rw [HE2.out]; simp [h1])
      have hdec : decide (x.s.p ≤ 281474976710655) = false := decide_eq_false h1
      clear HE2
      go_enter Tryz.func38, Tryz.ntmps38
      go_wp2_with fail
      refine (hM _).mono ?_
      rintro e w1 ⟨rfl, rfl⟩
      go_wp2_with fail
      go_ret
      exact ⟨ret_bool HO.out, HK.out⟩
theorem all_next {α : Type} {p : α → Bool} {l : List α} {k : Nat} {y : α} (h : l[k]? = some y) : (l.take (k + 1)).all p = ((l.take k).all p && p y) := by
  rw [List.take_add_one, h]
  simp
theorem all_no {α : Type} {p : α → Bool} {l : List α} {k : Nat} {y : α} (h : l[k]? = some y) (hp : p y = false) : l.all p = false := by
  rw [List.all_eq_false]
  exact ⟨y, List.mem_of_getElem? h, by rw [hp]; simp⟩
set_option maxHeartbeats 12800000 in
theorem may_any (m : Ms) (ok : MsOk m) (w : World) (va vk vr vs vd : Value) (h : MsR w va vk vr vs vd m) : Calls Tryz.prog 17 #[msgV m va vk vr vs vd] w fun e w' => e = .returned (.bool (mayM m)) ∧ Kept w w' := by
  have HM := hid h
  have HOk := hid ok
  have HE : Hid (mayM m = (mayHead m && (mayLen m && (m.news.all mayN && (m.keys.all keyMay && (m.recs.all mayR && m.seen.all mayS)))))) := hid rfl
  unfold mayHead mayLen at HE
  obtain ⟨na, nc, rfl, hn1, hn2⟩ := rg_is HM.out.n
  obtain ⟨ka, kc, rfl, hk1, hk2⟩ := rg_is HM.out.k
  obtain ⟨ra, rc, rfl, hr1, hr2⟩ := rg_is HM.out.r
  obtain ⟨sa, sc, rfl, hs1, hs2⟩ := rg_is HM.out.s
  obtain ⟨da, dc, rfl, hd1, hd2⟩ := rg_is HM.out.d
  generalize mayM m = out at *
  obtain ⟨k, f, t, id, tg, rn, fl, ns, ks, rs, ss, ds⟩ := m
  unfold msgV
  simp only at HM HOk HE h ⊢
  obtain ⟨n1, hn⟩ : ∃ n, ns.length = n := ⟨_, rfl⟩
  obtain ⟨n2, hk⟩ : ∃ n, ks.length = n := ⟨_, rfl⟩
  obtain ⟨n3, hr⟩ : ∃ n, rs.length = n := ⟨_, rfl⟩
  obtain ⟨n4, hs⟩ : ∃ n, ss.length = n := ⟨_, rfl⟩
  obtain ⟨n5, hd⟩ : ∃ n, ds.length = n := ⟨_, rfl⟩
  have HGN : Hid (∀ i, i < n1 → ∃ y, ns[i]? = some y) := hid (fun i hi => ⟨ns[i]'(by omega), List.getElem?_eq_getElem _⟩)
  have HPN : Hid (0 < n1 → ∃ g o, na = some ⟨g, o, none⟩) := hid (fun hp => by
    obtain ⟨g, o, c, e⟩ := rg_pos HM.out.n (by show 0 < ns.length; omega)
    injection e with e1
    exact ⟨g, o, e1⟩)
  have HTN : Hid (ns.take n1 = ns) := hid (by rw [← hn]; exact List.take_length)
  have HGK : Hid (∀ i, i < n2 → ∃ y, ks[i]? = some y) := hid (fun i hi => ⟨ks[i]'(by omega), List.getElem?_eq_getElem _⟩)
  have HPK : Hid (0 < n2 → ∃ g o, ka = some ⟨g, o, none⟩) := hid (fun hp => by
    obtain ⟨g, o, c, e⟩ := rg_pos HM.out.k (by show 0 < ks.length; omega)
    injection e with e1
    exact ⟨g, o, e1⟩)
  have HTK : Hid (ks.take n2 = ks) := hid (by rw [← hk]; exact List.take_length)
  have HGR : Hid (∀ i, i < n3 → ∃ y, rs[i]? = some y) := hid (fun i hi => ⟨rs[i]'(by omega), List.getElem?_eq_getElem _⟩)
  have HPR : Hid (0 < n3 → ∃ g o, ra = some ⟨g, o, none⟩) := hid (fun hp => by
    obtain ⟨g, o, c, e⟩ := rg_pos HM.out.r (by show 0 < rs.length; omega)
    injection e with e1
    exact ⟨g, o, e1⟩)
  have HTR : Hid (rs.take n3 = rs) := hid (by rw [← hr]; exact List.take_length)
  have HGS : Hid (∀ i, i < n4 → ∃ y, ss[i]? = some y) := hid (fun i hi => ⟨ss[i]'(by omega), List.getElem?_eq_getElem _⟩)
  have HPS : Hid (0 < n4 → ∃ g o, sa = some ⟨g, o, none⟩) := hid (fun hp => by
    obtain ⟨g, o, c, e⟩ := rg_pos HM.out.s (by show 0 < ss.length; omega)
    injection e with e1
    exact ⟨g, o, e1⟩)
  have HTS : Hid (ss.take n4 = ss) := hid (by rw [← hs]; exact List.take_length)
  simp only [hn, hk, hr, hs, hd] at HM HE h hn1 hk1 hr1 hs1 hd1 ⊢
  unfold maxLen at hn2 hk2 hr2 hs2 hd2
  have q1 : n1 ≤ 9223372036854775807 := by omega
  have q2 : n2 ≤ 9223372036854775807 := by omega
  have q3 : n3 ≤ 9223372036854775807 := by omega
  have q4 : n4 ≤ 9223372036854775807 := by omega
  clear hn1 hk1 hr1 hs1 hd1
  have k1 := kept_alloc (kept_refl w) (.cells #[.int .u8 k, .int .u8 f, .int .u8 t, .int .u32 id, .int .u8 tg, .int .u8 rn, .bool fl, .slice na n1 nc, .slice ka n2 kc, .slice ra n3 rc, .slice sa n4 sc, .slice da n5 dc] 29)
  have a1 := at_new w #[.int .u8 k, .int .u8 f, .int .u8 t, .int .u32 id, .int .u8 tg, .int .u8 rn, .bool fl, .slice na n1 nc, .slice ka n2 kc, .slice ra n3 rc, .slice sa n4 sc, .slice da n5 dc] 29
  obtain ⟨w1, hw1⟩ : ∃ u, w.alloc (.cells #[.int .u8 k, .int .u8 f, .int .u8 t, .int .u32 id, .int .u8 tg, .int .u8 rn, .bool fl, .slice na n1 nc, .slice ka n2 kc, .slice ra n3 rc, .slice sa n4 sc, .slice da n5 dc] 29) = u := ⟨_, rfl⟩
  obtain ⟨X, hX⟩ : ∃ u, w.heap.size = u := ⟨_, rfl⟩
  rw [hw1] at k1 a1
  rw [hX] at a1
  have HX := hid a1
  have HK := hid k1
  obtain ⟨⟨c0, c1, c2, c3, c4, c5, c6, c7, c8, c9, ca, cb⟩, -⟩ := cells12 HX.out
  clear a1 k1 h ok hn hk hr hs hd hn2 hk2 hr2 hs2 hd2
  by_cases h1 : ¬ k < 1
  · have _ := h1
    by_cases h2 : ¬ 14 < k
    · have _ := h2
      by_cases h3 : ¬ 63 < f
      · have _ := h3
        by_cases h4 : ¬ 63 < t
        · have _ := h4
          by_cases h5 : ¬ 63 < tg
          · have _ := h5
            by_cases h6 : ¬ 63 < rn
            · have _ := h6
              by_cases h7 : ¬ 4096 < n1
              · have _ := h7
                by_cases h8 : ¬ 4096 < n2
                · have _ := h8
                  by_cases h9 : ¬ 4096 < n3
                  · have _ := h9
                    by_cases h10 : ¬ 4096 < n4
                    · have _ := h10
                      by_cases h11 : ¬ 4096 < n5
                      · have _ := h11
                        have z1 : ¬ (4096 : Int) < (n1 : Int) := by omega
                        have z2 : ¬ (4096 : Int) < (n2 : Int) := by omega
                        have z3 : ¬ (4096 : Int) < (n3 : Int) := by omega
                        have z4 : ¬ (4096 : Int) < (n4 : Int) := by omega
                        have z5 : ¬ (4096 : Int) < (n5 : Int) := by omega
                        have HE2 : Hid (out = (ns.all mayN && (ks.all keyMay && (rs.all mayR && ss.all mayS)))) := hid (by rw [HE.out]; simp [show 1 ≤ k by omega, show k ≤ 14 by omega, show f ≤ 63 by omega, show t ≤ 63 by omega, show tg ≤ 63 by omega, show rn ≤ 63 by omega, show n1 ≤ 4096 by omega, show n2 ≤ 4096 by omega, show n3 ≤ 4096 by omega, show n4 ≤ 4096 by omega, show n5 ≤ 4096 by omega])
                        clear HE
                        go_enter Tryz.func17, Tryz.ntmps17
                        go_wp2_with fail
                        clear hw1 hX c0 c1 c2 c3 c4 c5 c6 c7 c8 c9 ca cb z1 z2 z3 z4 z5 h1 h2 h3 h4 h5 h6 h7 h8 h9 h10 h11
                        go_loopw [66] (fun iv wr => ∃ j : Nat, j ≤ n1 ∧ iv = .int .i64 (j : Int) ∧ (ns.take j).all mayN = true ∧ Hid (At wr X #[.int .u8 k, .int .u8 f, .int .u8 t, .int .u32 id, .int .u8 tg, .int .u8 rn, .bool fl, .slice na n1 nc, .slice ka n2 kc, .slice ra n3 rc, .slice sa n4 sc, .slice da n5 dc] 29) ∧ Hid (Kept w wr)) (fun iv _ => n1 - (intOf iv).toNat)
                        case atStart => exact ⟨0, Nat.zero_le _, rfl, rfl, HX, HK⟩
                        case round =>
                          obtain ⟨j, hj, rfl, hal, HY, HV⟩ := hrel
                          clear HX HK
                          have HX := HY
                          have HW := HV
                          clear HY HV
                          obtain ⟨⟨c0, c1, c2, c3, c4, c5, c6, c7, c8, c9, ca, cb⟩, -⟩ := cells12 HX.out
                          have HAl := hid hal
                          clear hal
                          by_cases hlt : j < n1
                          · have hltz : (j : Int) < (n1 : Int) := by omega
                            obtain ⟨y, hy⟩ := HGN.out j hlt
                            obtain ⟨g, o, rfl⟩ := HPN.out (by omega)
                            obtain ⟨p0, p1, p2⟩ := rg_N (rg_kept encN_ok HM.out.n HW.out) hy
                            have HY := hid hy
                            have hcon := fun u => mayNews_any y u
                            clear hy
                            go_wp2_with fail
                            refine (hcon _).mono ?_
                            rintro e w5 ⟨rfl, k5⟩
                            clear hcon
                            cases hp : mayN y with
                            | false =>
                              have HO : Hid (false = out) := hid (by rw [HE2.out, all_no HY.out hp]; simp)
                              have HK5 := hid (kept_trans HW.out k5)
                              clear k5
                              go_wp2_with fail
                              go_ret
                              exact ⟨ret_bool HO.out, HK5.out⟩
                            | true =>
                              have HK5 := hid (kept_trans HW.out k5)
                              have HX5 := hid (at_kept HX.out k5)
                              have hal2 : (ns.take (j + 1)).all mayN = true := by rw [all_next HY.out, HAl.out, hp]; rfl
                              clear k5 hp
                              go_wp2_with fail
                              go_roundw
                              case rel => exact ⟨j + 1, by omega, by go_num, hal2, HX5, HK5⟩
                              case measure => simp [intOf]; omega
                          · have hltz : ¬ (j : Int) < (n1 : Int) := by omega
                            have hje : n1 = j := by omega
                            subst hje
                            have HE3 : Hid (out = (ks.all keyMay && (rs.all mayR && ss.all mayS))) := hid (by have h9 := HAl.out; rw [HTN.out] at h9; rw [HE2.out, h9]; rfl)
                            clear HE2 HAl
                            go_wp2_with fail
                            clear c0 c1 c2 c3 c4 c5 c6 c7 c8 c9 ca cb hltz
                            go_loopw [80] (fun iv wr => ∃ j : Nat, j ≤ n2 ∧ iv = .int .i64 (j : Int) ∧ (ks.take j).all keyMay = true ∧ Hid (At wr X #[.int .u8 k, .int .u8 f, .int .u8 t, .int .u32 id, .int .u8 tg, .int .u8 rn, .bool fl, .slice na n1 nc, .slice ka n2 kc, .slice ra n3 rc, .slice sa n4 sc, .slice da n5 dc] 29) ∧ Hid (Kept w wr)) (fun iv _ => n2 - (intOf iv).toNat)
                            case atStart => exact ⟨0, Nat.zero_le _, rfl, rfl, HX, HW⟩
                            case round =>
                              obtain ⟨j, hj, rfl, hal, HY, HV⟩ := hrel
                              clear HX HW
                              have HX := HY
                              have HW := HV
                              clear HY HV
                              obtain ⟨⟨c0, c1, c2, c3, c4, c5, c6, c7, c8, c9, ca, cb⟩, -⟩ := cells12 HX.out
                              have HAl := hid hal
                              clear hal
                              by_cases hlt : j < n2
                              · have hltz : (j : Int) < (n2 : Int) := by omega
                                obtain ⟨y, hy⟩ := HGK.out j hlt
                                obtain ⟨g, o, rfl⟩ := HPK.out (by omega)
                                have p0 := rg_K (rg_kept encK_ok HM.out.k HW.out) hy
                                have HY := hid hy
                                have hcon := fun u => refKeyMay_any y (HOk.out.keys y (List.mem_of_getElem? hy)) u
                                clear hy
                                go_wp2_with fail
                                refine (hcon _).mono ?_
                                rintro e w5 ⟨rfl, rfl⟩
                                clear hcon
                                cases hp : keyMay y with
                                | false =>
                                  have HO : Hid (false = out) := hid (by rw [HE3.out, all_no HY.out hp]; simp)
                                  have HK5 := hid (HW.out)
                                  skip
                                  go_wp2_with fail
                                  go_ret
                                  exact ⟨ret_bool HO.out, HK5.out⟩
                                | true =>
                                  have HK5 := hid (HW.out)
                                  have HX5 := hid (HX.out)
                                  have hal2 : (ks.take (j + 1)).all keyMay = true := by rw [all_next HY.out, HAl.out, hp]; rfl
                                  clear hp
                                  go_wp2_with fail
                                  go_roundw
                                  case rel => exact ⟨j + 1, by omega, by go_num, hal2, HX5, HK5⟩
                                  case measure => simp [intOf]; omega
                              · have hltz : ¬ (j : Int) < (n2 : Int) := by omega
                                have hje : n2 = j := by omega
                                subst hje
                                have HE4 : Hid (out = (rs.all mayR && ss.all mayS)) := hid (by have h9 := HAl.out; rw [HTK.out] at h9; rw [HE3.out, h9]; rfl)
                                clear HE3 HAl
                                go_wp2_with fail
                                clear c0 c1 c2 c3 c4 c5 c6 c7 c8 c9 ca cb hltz
                                go_loopw [94] (fun iv wr => ∃ j : Nat, j ≤ n3 ∧ iv = .int .i64 (j : Int) ∧ (rs.take j).all mayR = true ∧ Hid (At wr X #[.int .u8 k, .int .u8 f, .int .u8 t, .int .u32 id, .int .u8 tg, .int .u8 rn, .bool fl, .slice na n1 nc, .slice ka n2 kc, .slice ra n3 rc, .slice sa n4 sc, .slice da n5 dc] 29) ∧ Hid (Kept w wr)) (fun iv _ => n3 - (intOf iv).toNat)
                                case atStart => exact ⟨0, Nat.zero_le _, rfl, rfl, HX, HW⟩
                                case round =>
                                  obtain ⟨j, hj, rfl, hal, HY, HV⟩ := hrel
                                  clear HX HW
                                  have HX := HY
                                  have HW := HV
                                  clear HY HV
                                  obtain ⟨⟨c0, c1, c2, c3, c4, c5, c6, c7, c8, c9, ca, cb⟩, -⟩ := cells12 HX.out
                                  have HAl := hid hal
                                  clear hal
                                  by_cases hlt : j < n3
                                  · have hltz : (j : Int) < (n3 : Int) := by omega
                                    obtain ⟨y, hy⟩ := HGR.out j hlt
                                    obtain ⟨g, o, rfl⟩ := HPR.out (by omega)
                                    obtain ⟨p0, p1, p2, p3, p4, p5, p6, p7⟩ := rg_R (rg_kept encR_ok HM.out.r HW.out) hy
                                    have HY := hid hy
                                    have hcon := fun u => refMay_any y (HOk.out.recs y (List.mem_of_getElem? hy)) u
                                    clear hy
                                    go_wp2_with fail
                                    refine (hcon _).mono ?_
                                    rintro e w5 ⟨rfl, k5⟩
                                    clear hcon
                                    cases hp : mayR y with
                                    | false =>
                                      have HO : Hid (false = out) := hid (by rw [HE4.out, all_no HY.out hp]; simp)
                                      have HK5 := hid (kept_trans HW.out k5)
                                      clear k5
                                      go_wp2_with fail
                                      go_ret
                                      exact ⟨ret_bool HO.out, HK5.out⟩
                                    | true =>
                                      have HK5 := hid (kept_trans HW.out k5)
                                      have HX5 := hid (at_kept HX.out k5)
                                      have hal2 : (rs.take (j + 1)).all mayR = true := by rw [all_next HY.out, HAl.out, hp]; rfl
                                      clear k5 hp
                                      go_wp2_with fail
                                      go_roundw
                                      case rel => exact ⟨j + 1, by omega, by go_num, hal2, HX5, HK5⟩
                                      case measure => simp [intOf]; omega
                                  · have hltz : ¬ (j : Int) < (n3 : Int) := by omega
                                    have hje : n3 = j := by omega
                                    subst hje
                                    have HE5 : Hid (out = ss.all mayS) := hid (by have h9 := HAl.out; rw [HTR.out] at h9; rw [HE4.out, h9]; rfl)
                                    clear HE4 HAl
                                    go_wp2_with fail
                                    clear c0 c1 c2 c3 c4 c5 c6 c7 c8 c9 ca cb hltz
                                    go_loopw [108] (fun iv wr => ∃ j : Nat, j ≤ n4 ∧ iv = .int .i64 (j : Int) ∧ (ss.take j).all mayS = true ∧ Hid (At wr X #[.int .u8 k, .int .u8 f, .int .u8 t, .int .u32 id, .int .u8 tg, .int .u8 rn, .bool fl, .slice na n1 nc, .slice ka n2 kc, .slice ra n3 rc, .slice sa n4 sc, .slice da n5 dc] 29) ∧ Hid (Kept w wr)) (fun iv _ => n4 - (intOf iv).toNat)
                                    case atStart => exact ⟨0, Nat.zero_le _, rfl, rfl, HX, HW⟩
                                    case round =>
                                      obtain ⟨j, hj, rfl, hal, HY, HV⟩ := hrel
                                      clear HX HW
                                      have HX := HY
                                      have HW := HV
                                      clear HY HV
                                      obtain ⟨⟨c0, c1, c2, c3, c4, c5, c6, c7, c8, c9, ca, cb⟩, -⟩ := cells12 HX.out
                                      have HAl := hid hal
                                      clear hal
                                      by_cases hlt : j < n4
                                      · have hltz : (j : Int) < (n4 : Int) := by omega
                                        obtain ⟨y, hy⟩ := HGS.out j hlt
                                        obtain ⟨g, o, rfl⟩ := HPS.out (by omega)
                                        obtain ⟨p0, p1, p2, p3, p4⟩ := rg_S (rg_kept encS_ok HM.out.s HW.out) hy
                                        have HY := hid hy
                                        have hcon := fun u => maySeen_any y (HOk.out.seen y (List.mem_of_getElem? hy)).1 u
                                        clear hy
                                        go_wp2_with fail
                                        refine (hcon _).mono ?_
                                        rintro e w5 ⟨rfl, k5⟩
                                        clear hcon
                                        cases hp : mayS y with
                                        | false =>
                                          have HO : Hid (false = out) := hid (by rw [HE5.out, all_no HY.out hp])
                                          have HK5 := hid (kept_trans HW.out k5)
                                          clear k5
                                          go_wp2_with fail
                                          go_ret
                                          exact ⟨ret_bool HO.out, HK5.out⟩
                                        | true =>
                                          have HK5 := hid (kept_trans HW.out k5)
                                          have HX5 := hid (at_kept HX.out k5)
                                          have hal2 : (ss.take (j + 1)).all mayS = true := by rw [all_next HY.out, HAl.out, hp]; rfl
                                          clear k5 hp
                                          go_wp2_with fail
                                          go_roundw
                                          case rel => exact ⟨j + 1, by omega, by go_num, hal2, HX5, HK5⟩
                                          case measure => simp [intOf]; omega
                                      · have hltz : ¬ (j : Int) < (n4 : Int) := by omega
                                        have hje : n4 = j := by omega
                                        subst hje
                                        have HE6 : Hid (true = out) := hid (by have h9 := HAl.out; rw [HTS.out] at h9; rw [HE5.out, h9])
                                        clear HE5 HAl
                                        go_wp2_with fail
                                        go_ret
                                        exact ⟨ret_bool HE6.out, HW.out⟩
                      · have _ := h11
                        clear HGN HGK HGR HGS HPN HPK HPR HPS HTN HTK HTR HTS HM HOk HX
                        have hx : ¬ (n5 ≤ 4096) := by omega
                        have hz : (4096 : Int) < (n5 : Int) := by omega
                        have HO : Hid (false = out) := hid (by rw [HE.out]; simp [hx])
                        clear HE hx
                        go_enter Tryz.func17, Tryz.ntmps17
                        go_wp2_with fail
                        go_ret
                        exact ⟨ret_bool HO.out, HK.out⟩
                    · have _ := h10
                      clear HGN HGK HGR HGS HPN HPK HPR HPS HTN HTK HTR HTS HM HOk HX
                      have hx : ¬ (n4 ≤ 4096) := by omega
                      have hz : (4096 : Int) < (n4 : Int) := by omega
                      have HO : Hid (false = out) := hid (by rw [HE.out]; simp [hx])
                      clear HE hx
                      go_enter Tryz.func17, Tryz.ntmps17
                      go_wp2_with fail
                      go_ret
                      exact ⟨ret_bool HO.out, HK.out⟩
                  · have _ := h9
                    clear HGN HGK HGR HGS HPN HPK HPR HPS HTN HTK HTR HTS HM HOk HX
                    have hx : ¬ (n3 ≤ 4096) := by omega
                    have hz : (4096 : Int) < (n3 : Int) := by omega
                    have HO : Hid (false = out) := hid (by rw [HE.out]; simp [hx])
                    clear HE hx
                    go_enter Tryz.func17, Tryz.ntmps17
                    go_wp2_with fail
                    go_ret
                    exact ⟨ret_bool HO.out, HK.out⟩
                · have _ := h8
                  clear HGN HGK HGR HGS HPN HPK HPR HPS HTN HTK HTR HTS HM HOk HX
                  have hx : ¬ (n2 ≤ 4096) := by omega
                  have hz : (4096 : Int) < (n2 : Int) := by omega
                  have HO : Hid (false = out) := hid (by rw [HE.out]; simp [hx])
                  clear HE hx
                  go_enter Tryz.func17, Tryz.ntmps17
                  go_wp2_with fail
                  go_ret
                  exact ⟨ret_bool HO.out, HK.out⟩
              · have _ := h7
                clear HGN HGK HGR HGS HPN HPK HPR HPS HTN HTK HTR HTS HM HOk HX
                have hx : ¬ (n1 ≤ 4096) := by omega
                have hz : (4096 : Int) < (n1 : Int) := by omega
                have HO : Hid (false = out) := hid (by rw [HE.out]; simp [hx])
                clear HE hx
                go_enter Tryz.func17, Tryz.ntmps17
                go_wp2_with fail
                go_ret
                exact ⟨ret_bool HO.out, HK.out⟩
            · have _ := h6
              clear HGN HGK HGR HGS HPN HPK HPR HPS HTN HTK HTR HTS HM HOk HX
              have hx : ¬ (rn ≤ 63) := by omega
              have HO : Hid (false = out) := hid (by rw [HE.out]; simp [hx])
              clear HE hx
              go_enter Tryz.func17, Tryz.ntmps17
              go_wp2_with fail
              go_ret
              exact ⟨ret_bool HO.out, HK.out⟩
          · have _ := h5
            clear HGN HGK HGR HGS HPN HPK HPR HPS HTN HTK HTR HTS HM HOk HX
            have hx : ¬ (tg ≤ 63) := by omega
            have HO : Hid (false = out) := hid (by rw [HE.out]; simp [hx])
            clear HE hx
            go_enter Tryz.func17, Tryz.ntmps17
            go_wp2_with fail
            go_ret
            exact ⟨ret_bool HO.out, HK.out⟩
        · have _ := h4
          clear HGN HGK HGR HGS HPN HPK HPR HPS HTN HTK HTR HTS HM HOk HX
          have hx : ¬ (t ≤ 63) := by omega
          have HO : Hid (false = out) := hid (by rw [HE.out]; simp [hx])
          clear HE hx
          go_enter Tryz.func17, Tryz.ntmps17
          go_wp2_with fail
          go_ret
          exact ⟨ret_bool HO.out, HK.out⟩
      · have _ := h3
        clear HGN HGK HGR HGS HPN HPK HPR HPS HTN HTK HTR HTS HM HOk HX
        have hx : ¬ (f ≤ 63) := by omega
        have HO : Hid (false = out) := hid (by rw [HE.out]; simp [hx])
        clear HE hx
        go_enter Tryz.func17, Tryz.ntmps17
        go_wp2_with fail
        go_ret
        exact ⟨ret_bool HO.out, HK.out⟩
    · have _ := h2
      clear HGN HGK HGR HGS HPN HPK HPR HPS HTN HTK HTR HTS HM HOk HX
      have hx : ¬ (k ≤ 14) := by omega
      have HO : Hid (false = out) := hid (by rw [HE.out]; simp [hx])
      clear HE hx
      go_enter Tryz.func17, Tryz.ntmps17
      go_wp2_with fail
      go_ret
      exact ⟨ret_bool HO.out, HK.out⟩
  · have _ := h1
    clear HGN HGK HGR HGS HPN HPK HPR HPS HTN HTK HTR HTS HM HOk HX
    have hx : ¬ (1 ≤ k) := by omega
    have HO : Hid (false = out) := hid (by rw [HE.out]; simp [hx])
    clear HE hx
    go_enter Tryz.func17, Tryz.ntmps17
    go_wp2_with fail
    go_ret
    exact ⟨ret_bool HO.out, HK.out⟩
end Go.Proofs.YtioeidhblbfgmaaGreat
