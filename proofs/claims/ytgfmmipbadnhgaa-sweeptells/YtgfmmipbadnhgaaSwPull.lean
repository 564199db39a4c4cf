/- The contract of the reference's Pull. -/
import Derived.Test.YtgfmmipbadnhgaaSwIns
namespace Go.Proofs.Ytgfmmipbadnhgaa
open Go.ChangeShapes Go.WideShapes Go.ChangeAt Go.RowKit
set_option linter.unusedVariables false
set_option linter.unusedSimpArgs false
set_option maxRecDepth 100000

set_option maxHeartbeats 6400000 in
theorem rpull_any (l : List R) (t : List Sn) (hn : l.length ≤ 2000) (ht : t.length ≤ 2000) (v u : Value) (w : World) (h : Rg encR 8 w v l) (hu : Rg encS 5 w u t) : Calls Try.prog 18 #[v, u] w (GRowN encK 1 9 (pullR l [] t) w) := by
  have HR := hid h
  have HU := hid hu
  obtain ⟨a, cap, rfl, -, -, -, -⟩ := hu
  have HG : Hid (∀ k, k < t.length → ∃ y, t[k]? = some y) := hid (fun k hk => ⟨t[k], List.getElem?_eq_getElem hk⟩)
  have HP : Hid (0 < t.length → ∃ g o, a = some ⟨g, o, none⟩) := hid (fun hp => by
    obtain ⟨g, o, c, e⟩ := rg_pos HU.out hp
    injection e with e1
    exact ⟨g, o, e1⟩)
  have HT : Hid (t.take t.length = t) := hid List.take_length
  have HEnd : Hid (∀ v u, Og encK 1 9 u w.heap.size v (pullR l [] t) → v ≠ .slice none 0 0 → Kept w u → GRowN encK 1 9 (pullR l [] t) w (.returned v) u) := hid (fun v u h1 h2 h3 => ⟨v, rfl, h1, h2, h3⟩)
  have HO0 := hid (builtK w)
  have HK0 := hid (kept_alloc (kept_refl w) (.cells #[] 9))
  have HSl : Hid ((sums l).length ≤ 4096) := hid (by rw [sums_len]; omega)
  have HSm := hid (fun u' (h : Rg encR 8 u' v l) => rsum_any l hn _ u' h)
  have HCv := hid (fun v' x u' (h : Rg encS 5 u' v' (sums l)) => covered_any (sums l) HSl.out v' x u' h)
  generalize hnn : t.length = N at *
  clear hnn h
  go_enter Try.func18, Try.ntmps18
  go_wp2_with fail
  generalize w.alloc (.cells #[] 9) = w0 at *
  refine (HSm.out _ (rg_kept encR_ok HR.out HK0.out)).mono ?_
  rintro e w1 ⟨v1, rfl, o1, n1, k1⟩
  have HS1 := hid o1
  have HO1 := hid (og_stays HO0.out k1)
  have HK1 := hid (kept_trans HK0.out k1)
  clear o1 n1 k1 HO0 HK0 HSm
  go_wp2_with fail
  generalize w0.heap.size = B1 at *
  generalize hB0 : w.heap.size = B0 at *
  have HB0 := hid hB0
  clear hB0
  go_loopw [5, 15] (fun ks j wr => ∃ (k g n p : Nat) (O : List ByteArray), k ≤ N ∧ j = .int .i64 (k : Int) ∧ ks = .slice (some ⟨g, 0, none⟩) n p ∧ n ≤ k ∧ Hid (Og encK 1 9 wr B0 (.slice (some ⟨g, 0, none⟩) n p) O) ∧ Hid (O = pullR l [] (t.take k)) ∧ Hid (Og encS 5 43 wr B1 v1 (sums l)) ∧ Hid (Kept w wr)) (fun _ j _ => N - (intOf j).toNat)
  case atStart => exact ⟨0, B0, 0, 0, [], Nat.zero_le _, rfl, rfl, Nat.le_refl _, HO1, hid rfl, HS1, HK1⟩
  case round =>
    obtain ⟨k, g, n, p, O, hk, rfl, rfl, hnk, HO, HE, HSr, HKr⟩ := hrel
    clear HO1 HS1 HK1
    by_cases hlt : k < N
    · obtain ⟨x, hx⟩ := HG.out k hlt
      obtain ⟨gu, ou, rfl⟩ := HP.out (by omega)
      have HNx := hid (pullR_next l hx)
      have HHx := hid hx
      obtain ⟨s0, s1, s2, s3, s4⟩ := rg_S (rg_kept encS_ok HU.out HKr.out) hx
      have hC := HCv.out v1 x wr (rg_own encS_ok HSr.out)
      clear hx
      go_wp2_with fail
      refine hC.mono ?_
      rintro e w2 ⟨rfl, k2⟩
      have HO2 := hid (og_stays HO.out k2)
      have HS2 := hid (og_stays HSr.out k2)
      have HK2 := hid (kept_trans HKr.out k2)
      clear s0 s1 s2 s3 s4 hC k2 HO HSr HKr
      cases hc : cov (sums l) x with
      | true =>
        rw [hc, if_pos rfl] at HNx
        go_wp2_with fail
        go_roundw
        case rel => exact ⟨k + 1, g, n, p, O, by omega, by go_num, rfl, by omega, HO2, hid (by rw [HNx.out]; exact HE.out), HS2, HK2⟩
        case measure => simp [intOf]; omega
      | false =>
        rw [hc, if_neg (by simp)] at HNx
        clear hc
        obtain ⟨hnO, hp1, hp2⟩ := og_len encK_ok HO2.out
        have HnO := hid hnO
        have HGo : Hid (∀ m, m < n → ∃ y, O[m]? = some y) := hid (fun m hm => ⟨O[m]'(by omega), List.getElem?_eq_getElem (by omega)⟩)
        clear hnO
        go_wp2_with fail
        go_loopw [8] (fun j wi => ∃ (m : Nat), m ≤ n ∧ j = .int .i64 (m : Int) ∧ Hid (∀ i y, i < m → O[i]? = some y → cmpB y x.key < 0) ∧ ∃ d, wi = w2.drewN d) (fun j _ => n - (intOf j).toNat)
        case atStart => exact ⟨0, Nat.zero_le _, rfl, hid (fun i y hi => absurd hi (Nat.not_lt_zero _)), 0, rfl⟩
        case round =>
          obtain ⟨m, hmn, rfl, HLo, d, rfl⟩ := hrel
          obtain ⟨r0, -⟩ := rg_S (rg_kept encS_ok HU.out HK2.out) HHx.out
          by_cases hlt2 : m < n
          · obtain ⟨y, hy⟩ := HGo.out m hlt2
            have y0 := rg_K (rg_own encK_ok HO2.out) hy
            rw [Nat.zero_add] at y0
            by_cases hc : cmpB y x.key < 0
            · have hb := key_lt hc
              have HLo2 : Hid (∀ i y, i < m + 1 → O[i]? = some y → cmpB y x.key < 0) := hid (fun i z hi hz => by
                rcases Nat.lt_succ_iff_lt_or_eq.1 hi with h1 | h1
                · exact HLo.out i z h1 hz
                · rw [h1, hy] at hz
                  injection hz with hz
                  rw [← hz]; exact hc)
              clear hc hy
              go_wp2_with fail
              go_quiet (fail)
              go_wp2_with fail
              go_roundw
              case rel => exact ⟨m + 1, by omega, by go_num, HLo2, _, rfl⟩
              case measure => simp [intOf]; omega
            · have hb := key_nlt hc
              have HHy := hid hy
              have Hc := hid hc
              clear hc hy
              go_wp2_with fail
              go_quiet (fail)
              have HK3 := hid (kept_drewN (kept_drewN HK2.out d) nq)
              have HO3 := hid (og_stays HO2.out (kept_drewN (kept_drewN (kept_refl w2) d) nq))
              have HS3 := hid (og_stays HS2.out (kept_drewN (kept_drewN (kept_refl w2) d) nq))
              clear y0 r0 HK2 HO2 HS2 hb
              generalize (w2.drewN d).drewN nq = w3 at *
              obtain ⟨r0, -⟩ := rg_S (rg_kept encS_ok HU.out HK3.out) HHx.out
              have y0 := rg_K (rg_own encK_ok HO3.out) HHy.out
              rw [Nat.zero_add] at y0
              clear nq
              cases hs3 : sameT y x.key with
              | true =>
                have hk2 : (y.toList == x.key.toList) = true := hs3
                have HIns := hid (ins_old x.key O m HLo.out (by rw [HHy.out, (sameT_iff _ _).1 hs3]))
                clear hs3
                go_wp2_with fail
                go_quiet (fail)
                go_wp2_with fail
                have HK4 := hid (kept_drewN HK3.out nq)
                have HO4 := hid (og_stays HO3.out (kept_drewN (kept_refl w3) nq))
                have HS4 := hid (og_stays HS3.out (kept_drewN (kept_refl w3) nq))
                go_roundw
                case rel => exact ⟨k + 1, g, n, p, O, by omega, by go_num, rfl, by omega, HO4, hid (by rw [HNx.out, ← HE.out, HIns.out]), HS4, HK4⟩
                case measure => simp [intOf]; omega
              | false =>
                have hk2 : (y.toList == x.key.toList) = false := hs3
                have HIns := hid (ins_new x.key O m (by rw [HnO.out]; omega) HLo.out (fun z hz => by rw [HHy.out] at hz; injection hz with hz; rw [← hz]; exact ⟨by have := Hc.out; omega, (sameT_false _ _).1 hs3⟩))
                clear hs3
                go_wp2_with fail
                go_quiet (fail)
                have HK4 := hid (kept_drewN HK3.out nq)
                have HO4 := hid (og_stays HO3.out (kept_drewN (kept_refl w3) nq))
                have HS4 := hid (og_stays HS3.out (kept_drewN (kept_refl w3) nq))
                clear y0 r0 HK3 HO3 HS3 hk2
                generalize w3.drewN nq = w4 at *
                have HK5 := hid (kept_alloc (kept_refl w4) (.cells #[] 9))
                have HOz := hid (builtK w4)
                have HGl := hid (Nat.le_refl w4.heap.size)
                have HSa := hid (rg_take (rg_own encK_ok HO4.out) (k := m) (by rw [HnO.out]; omega))
                have HSc := hid (rg_drop (rg_own encK_ok HO4.out) (k := m) (by omega))
                have s1 := slK_hi g n p m hmn hp1 hp2
                have s2 := slK_lo g n p m hmn hp1 hp2
                have Hx4 : Hid (∀ u, Kept w4 u → u.cell? ⟨gu, ou + k * 5, none⟩ = some (.string x.key)) := hid (fun u ku => (rg_S (rg_kept encS_ok HU.out (kept_trans HK4.out ku)) HHx.out).1)
                have HBG : Hid (B0 ≤ w4.heap.size) := hid (by rw [← HB0.out]; exact HK4.out.2)
                generalize hw5 : w4.alloc (.cells #[] 9) = w5 at *
                generalize hG : w4.heap.size = G at *
                have HB5 : Hid (G ≤ w5.heap.size) := hid (by rw [← hG]; exact HK5.out.2)
                have HGe := hid hG
                generalize dropA 1 g p m = dA at s2 HSc
                generalize n - m = n2 at s2 HSc
                generalize p - m = p2 at s2 HSc
                have Hla : Hid (([] : List ByteArray).length + (O.take m).length ≤ 4096) := hid (by have := HnO.out; simp; omega)
                have Hlb : Hid (([] ++ O.take m).length + [x.key].length ≤ 4096) := hid (by have := HnO.out; simp; omega)
                have Hlc : Hid (([] ++ O.take m ++ [x.key]).length + (O.drop m).length ≤ 4096) := hid (by have := HnO.out; simp; omega)
                go_wp2_with (at_builtin; first
                  | (refine wpList_gapp rfl _ _ rfl encK_ok tyK (by decide) G _ _ [] (O.take m) rfl HOz.out rfl (rg_kept encK_ok HSa.out HK5.out) Hla.out HB5.out ?_; intro v6 w6 hown hgrow hnil; have HK6 := hid (kept_gr HK5.out hgrow (fun j hj => by rw [HGe.out]; exact og_lt HOz.out hj)); have HN6 := hid (hnil (fun e => by cases (show Value.slice (some ⟨G, 0, none⟩) 0 0 = .slice none 0 0 from e))); have hx6 := Hx4.out w6 HK6.out; have HO6 := hid (og_stays hown (kept_alloc (kept_refl w6) (.cells #[.string x.key] 9))); have HK7 := hid (kept_alloc HK6.out (.cells #[.string x.key] 9)); have HS7 := hid (rg_alone encK_ok (y := x.key) (at_new w6 #[.string x.key] 9)); have HB7 : Hid (G ≤ (w6.alloc (.cells #[.string x.key] 9)).heap.size) := hid (by rw [← HGe.out]; exact HK7.out.2); clear hown hgrow hnil)
                  | (refine wpList_gapp rfl _ _ rfl encK_ok tyK (by decide) G _ _ ([] ++ O.take m) [x.key] rfl HO6.out rfl HS7.out Hlb.out HB7.out ?_; intro v8 w8 hown hgrow hnil; have HK8 := hid (kept_gr HK7.out hgrow (fun j hj => by rw [HGe.out]; exact og_lt HO6.out hj)); have HN8 := hid (hnil HN6.out); have HO8 := hid hown; have HB8 : Hid (G ≤ w8.heap.size) := hid (by rw [← HGe.out]; exact HK8.out.2); clear hown hgrow hnil)
                  | (refine wpList_gapp rfl _ _ rfl encK_ok tyK (by decide) G _ _ ([] ++ O.take m ++ [x.key]) (O.drop m) rfl HO8.out rfl (rg_kept encK_ok HSc.out HK8.out) Hlc.out HB8.out ?_; intro v9 w9 hown hgrow hnil; have HK9 := hid (kept_gr HK8.out hgrow (fun j hj => by rw [HGe.out]; exact og_lt HO8.out hj)); rw [HIns.out] at hown; obtain ⟨g9, c9, e9⟩ := og_some hown (hnil HN8.out); obtain ⟨n9, hn9⟩ : ∃ n9, (insK x.key O).length = n9 := ⟨_, rfl⟩; rw [hn9] at e9; subst e9; have HO9 := hid hown; have Hn9 := hid hn9; clear hown hgrow hnil hn9))
                have hn9 : n9 ≤ k + 1 := by
                  have h1 := insK_len x.key O
                  have h2 := Hn9.out
                  have h3 := HnO.out
                  omega
                go_roundw
                case rel => exact ⟨k + 1, g9, _, c9, _, by omega, by go_num, rfl, hn9, hid (og_low HO9.out HBG.out), hid (by rw [HNx.out, HE.out]), hid (og_stays HS4.out HK9.out), hid (kept_trans HK4.out HK9.out)⟩
                case measure => simp [intOf]; omega
          · have HIns := hid (ins_new x.key O m (by rw [HnO.out]; omega) HLo.out (fun z hz => by rw [List.getElem?_eq_none (by rw [HnO.out]; omega)] at hz; cases hz))
            go_wp2_with fail
            go_quiet (fail)
            have HK3 := hid (kept_drewN (kept_drewN HK2.out d) nq)
            have HO3 := hid (og_stays HO2.out (kept_drewN (kept_drewN (kept_refl w2) d) nq))
            have HS3 := hid (og_stays HS2.out (kept_drewN (kept_drewN (kept_refl w2) d) nq))
            clear r0 HK2 HO2 HS2
            generalize (w2.drewN d).drewN nq = w3 at *
            clear nq
            go_wp2_with fail
            go_quiet (fail)
            have HK4 := hid (kept_drewN HK3.out nq)
            have HO4 := hid (og_stays HO3.out (kept_drewN (kept_refl w3) nq))
            have HS4 := hid (og_stays HS3.out (kept_drewN (kept_refl w3) nq))
            clear HK3 HO3 HS3
            generalize w3.drewN nq = w4 at *
            have HK5 := hid (kept_alloc (kept_refl w4) (.cells #[] 9))
            have HOz := hid (builtK w4)
            have HGl := hid (Nat.le_refl w4.heap.size)
            have HSa := hid (rg_take (rg_own encK_ok HO4.out) (k := m) (by rw [HnO.out]; omega))
            have HSc := hid (rg_drop (rg_own encK_ok HO4.out) (k := m) (by omega))
            have s1 := slK_hi g n p m hmn hp1 hp2
            have s2 := slK_lo g n p m hmn hp1 hp2
            have Hx4 : Hid (∀ u, Kept w4 u → u.cell? ⟨gu, ou + k * 5, none⟩ = some (.string x.key)) := hid (fun u ku => (rg_S (rg_kept encS_ok HU.out (kept_trans HK4.out ku)) HHx.out).1)
            have HBG : Hid (B0 ≤ w4.heap.size) := hid (by rw [← HB0.out]; exact HK4.out.2)
            generalize hw5 : w4.alloc (.cells #[] 9) = w5 at *
            generalize hG : w4.heap.size = G at *
            have HB5 : Hid (G ≤ w5.heap.size) := hid (by rw [← hG]; exact HK5.out.2)
            have HGe := hid hG
            generalize dropA 1 g p m = dA at s2 HSc
            generalize n - m = n2 at s2 HSc
            generalize p - m = p2 at s2 HSc
            have Hla : Hid (([] : List ByteArray).length + (O.take m).length ≤ 4096) := hid (by have := HnO.out; simp; omega)
            have Hlb : Hid (([] ++ O.take m).length + [x.key].length ≤ 4096) := hid (by have := HnO.out; simp; omega)
            have Hlc : Hid (([] ++ O.take m ++ [x.key]).length + (O.drop m).length ≤ 4096) := hid (by have := HnO.out; simp; omega)
            go_wp2_with (at_builtin; first
              | (refine wpList_gapp rfl _ _ rfl encK_ok tyK (by decide) G _ _ [] (O.take m) rfl HOz.out rfl (rg_kept encK_ok HSa.out HK5.out) Hla.out HB5.out ?_; intro v6 w6 hown hgrow hnil; have HK6 := hid (kept_gr HK5.out hgrow (fun j hj => by rw [HGe.out]; exact og_lt HOz.out hj)); have HN6 := hid (hnil (fun e => by cases (show Value.slice (some ⟨G, 0, none⟩) 0 0 = .slice none 0 0 from e))); have hx6 := Hx4.out w6 HK6.out; have HO6 := hid (og_stays hown (kept_alloc (kept_refl w6) (.cells #[.string x.key] 9))); have HK7 := hid (kept_alloc HK6.out (.cells #[.string x.key] 9)); have HS7 := hid (rg_alone encK_ok (y := x.key) (at_new w6 #[.string x.key] 9)); have HB7 : Hid (G ≤ (w6.alloc (.cells #[.string x.key] 9)).heap.size) := hid (by rw [← HGe.out]; exact HK7.out.2); clear hown hgrow hnil)
              | (refine wpList_gapp rfl _ _ rfl encK_ok tyK (by decide) G _ _ ([] ++ O.take m) [x.key] rfl HO6.out rfl HS7.out Hlb.out HB7.out ?_; intro v8 w8 hown hgrow hnil; have HK8 := hid (kept_gr HK7.out hgrow (fun j hj => by rw [HGe.out]; exact og_lt HO6.out hj)); have HN8 := hid (hnil HN6.out); have HO8 := hid hown; have HB8 : Hid (G ≤ w8.heap.size) := hid (by rw [← HGe.out]; exact HK8.out.2); clear hown hgrow hnil)
              | (refine wpList_gapp rfl _ _ rfl encK_ok tyK (by decide) G _ _ ([] ++ O.take m ++ [x.key]) (O.drop m) rfl HO8.out rfl (rg_kept encK_ok HSc.out HK8.out) Hlc.out HB8.out ?_; intro v9 w9 hown hgrow hnil; have HK9 := hid (kept_gr HK8.out hgrow (fun j hj => by rw [HGe.out]; exact og_lt HO8.out hj)); rw [HIns.out] at hown; obtain ⟨g9, c9, e9⟩ := og_some hown (hnil HN8.out); obtain ⟨n9, hn9⟩ : ∃ n9, (insK x.key O).length = n9 := ⟨_, rfl⟩; rw [hn9] at e9; subst e9; have HO9 := hid hown; have Hn9 := hid hn9; clear hown hgrow hnil hn9))
            have hn9 : n9 ≤ k + 1 := by
              have h1 := insK_len x.key O
              have h2 := Hn9.out
              have h3 := HnO.out
              omega
            go_roundw
            case rel => exact ⟨k + 1, g9, _, c9, _, by omega, by go_num, rfl, hn9, hid (og_low HO9.out HBG.out), hid (by rw [HNx.out, HE.out]), hid (og_stays HS4.out HK9.out), hid (kept_trans HK4.out HK9.out)⟩
            case measure => simp [intOf]; omega
    · have he : k = N := by omega
      subst he
      rw [HT.out] at HE
      rw [HE.out] at HO
      go_wp2_with fail
      go_ret
      exact HEnd.out _ _ HO.out (by simp) HKr.out
end Go.Proofs.Ytgfmmipbadnhgaa
