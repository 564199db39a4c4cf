/- The laws on any order and on the first owner, walked. -/
import Derived.Test.YtfdnfnnagchjcaaRgLaw2
import Derived.Deep.RegionHeld3
namespace Go.Proofs.Ytfdnfnnagchjcaa
open Go.ChangeShapes Go.WideShapes Go.ChangeAt Go.RowKit
set_option linter.unusedVariables false
set_option linter.unusedSimpArgs false
set_option maxRecDepth 100000

/- A row's rest, wherever it lies. -/
theorem rg_rest {α : Type} {enc : α → List Value} {c : Nat} {w : World} {g o n cap k : Nat} {xs : List α} (h : Rg enc c w (.slice (some ⟨g, o, none⟩) n cap) xs) (hk : k < n) : Rg enc c w (.slice (some ⟨g, o + k * c, none⟩) (n - k) (cap - k)) (xs.drop k) := by
  obtain ⟨a', cap', e, h1, h2, h3, h⟩ := h
  injection e with e1 e2 e3
  subst e1 e2 e3
  refine ⟨_, cap - k, by rw [List.length_drop], by rw [List.length_drop]; omega, Nat.le_trans (Nat.sub_le _ _) h2, fun e => (by cases e), fun hp => ?_⟩
  obtain ⟨g', o', e4, hc⟩ := h (by omega)
  injection e4 with e4
  injection e4 with e4 e5
  subst e4 e5
  refine ⟨g, o + k * c, rfl, fun i x j u hx hu => ?_⟩
  rw [List.getElem?_drop] at hx
  have := hc (k + i) x j u hx hu
  rw [Nat.add_mul, ← Nat.add_assoc o] at this
  exact this
theorem slU_lo (q o n cap k : Nat) (hk : k < n) (hn : n ≤ cap) (hc : cap ≤ maxLen) (w : World) : (Instr.slice 22 (.slice (some ⟨q, o, none⟩) n cap) (some (.int .i64 (k : Int))) none none).run Try.prog w = .ok (.slice (some ⟨q, o + k, none⟩) (n - k) (cap - k)) w := by
  unfold maxLen at hc
  have h1 : (k : Int) ≤ (n : Int) := by omega
  have h2 : ¬ ((k : Int) < 0) := by omega
  have h3 : (⟨q, o, none⟩ : Addr).add k = ⟨q, o + k, none⟩ := addr_plus q o k
  have h4 : ¬ cap = k := by omega
  have hr := run_slice_l (P := Try.prog) w 22 (some ⟨q, o, none⟩) n cap Try.underlying22 .i64 (k : Int) (by omega) (by omega)
  rw [hr]
  simp [go_sem, h3, h4]
  try omega
set_option maxHeartbeats 6400000 in
theorem any_walk (hO : OwnersIs) (key : ByteArray) (l : List Int) (x : Int) (hl : U8 l) (h1 : 0 ≤ x) (h2 : x < 256) (v : Value) (w : World) (h : Rg encU 1 w v l) : Calls Try.prog 7 #[.string key, v, .int .u8 x] w fun e w' => e = .returned (.bool true) ∧ Kept w w' := by
  have HO := hid hO
  have HR := hid h
  have HU := hid hl
  have HFx := hid (fun w => fixed_any hO w)
  obtain ⟨a, cap, rfl, hlc, hcm, -, hpos⟩ := h
  have HP : Hid (0 < l.length → ∃ g o, a = some ⟨g, o, none⟩) := hid (fun hp => by
    obtain ⟨g, o, e, _⟩ := hpos hp
    exact ⟨g, o, e⟩)
  have HA := hid (at_new w #[.slice a l.length cap] 22)
  have HK0 := hid (kept_alloc (kept_refl w) (.cells #[.slice a l.length cap] 22))
  clear hO hl hpos
  obtain ⟨len, hlen⟩ : ∃ len, l.length = len := ⟨_, rfl⟩
  have HLen := hid hlen
  rw [hlen] at HA HK0 HR HP hlc ⊢
  clear hlen
  have HLc := hid hlc
  have HCm := hid hcm
  clear hlc hcm
  go_enter Try.func7, Try.ntmps7
  go_wp2_with fail
  refine (great1 key a len cap _ _ _ HA.out).mono ?_
  rintro e w1 ⟨b1, rfl, hb1, rfl⟩
  have HB1 := hid hb1
  clear hb1 HA
  generalize w.alloc (.cells #[.slice a len cap] 22) = w1 at *
  cases b1 with
  | true =>
    go_wp2_with fail
    refine (HFx.out w1).mono ?_
    rintro e w2 ⟨rfl, k2⟩
    have HK2 := hid (kept_trans HK0.out k2)
    clear k2
    go_wp2_with fail
    go_ret
    exact ⟨rfl, HK2.out⟩
  | false =>
    obtain ⟨hk, hn⟩ := HB1.out rfl
    have HKs := hid hk
    have HLs : Hid (l.length ≤ 200) := hid (by rw [HLen.out]; exact hn)
    clear HB1 hk
    by_cases h0 : len = 0
    · have hz : ((len : Int) == 0) = true := by simpa using h0
      clear h0
      go_wp2_with fail
      refine (HFx.out w1).mono ?_
      rintro e w2 ⟨rfl, k2⟩
      have HK2 := hid (kept_trans HK0.out k2)
      clear k2
      go_wp2_with fail
      go_ret
      exact ⟨rfl, HK2.out⟩
    · have hz : ((len : Int) == 0) = false := by
        have : (len : Int) ≠ 0 := by omega
        simpa using this
      obtain ⟨g, o, rfl⟩ := HP.out (by omega)
      obtain ⟨k, hk1, hk2⟩ : ∃ k : Nat, k < len ∧ x.tmod (len : Int) = (k : Int) := by
        refine ⟨(x.tmod (len : Int)).toNat, ?_, ?_⟩
        · have g1 := Int.tmod_lt_of_pos x (b := (len : Int)) (by omega)
          have g2 := Int.tmod_nonneg (len : Int) h1
          omega
        · have g2 := Int.tmod_nonneg (len : Int) h1
          omega
      have hw1 : wrap64 x = x := by unfold wrap64; omega
      have hw2 : wrap64 (k : Int) = (k : Int) := by unfold wrap64; omega
      have hne : ¬ (len : Int) = 0 := by omega
      have hsl := slU_lo g o len cap k hk1 HLc.out HCm.out
      have HRk : Hid (Rg encU 1 w (.slice (some ⟨g, o + k, none⟩) (len - k) (cap - k)) (l.drop k)) := hid (by have := rg_rest HR.out hk1; rw [Nat.mul_one] at this; exact this)
      have HO0 := hid (builtU w1)
      have HK1 := hid (kept_alloc HK0.out (.cells #[] 5))
      have HR1 := hid (rg_kept encU_ok HRk.out HK1.out)
      have HBw : Hid (w1.heap.size ≤ (w1.alloc (.cells #[] 5)).heap.size) := hid (kept_alloc (kept_refl w1) (.cells #[] 5)).2
      have HLw : Hid (w.heap.size ≤ w1.heap.size) := hid HK0.out.2
      have HLd : Hid ((l.drop k).length ≤ 200) := hid (by have := HLs.out; rw [List.length_drop]; omega)
      have HUd : Hid (U8 (l.drop k ++ l)) := hid (fun n hn => by
        rcases List.mem_append.1 hn with hn | hn
        · exact HU.out n (List.mem_of_mem_drop hn)
        · exact HU.out n hn)
      have HLt : Hid ((l.drop k ++ l).length ≤ 400) := hid (by have := HLs.out; have := HLd.out; rw [List.length_append]; omega)
      clear h0 h1 h2 hn
      go_wp2_with (at_builtin; first | (refine wpList_gapp rfl (.tmp 25) (.tmp 28) rfl encU_ok tyU (by decide) w1.heap.size _ _ _ _ rfl HO0.out rfl HR1.out (by have := HLd.out; simp at this ⊢; omega) HBw.out ?_; intro v3 w3 hown3 hgrow3 hnil3; rw [List.nil_append] at hown3; have HO3 := hid hown3; have HK3 := hid (kept_gr HK1.out hgrow3 (fun j hj => by have := og_lt HO0.out hj; have := HLw.out; omega)); have HR3 := hid (rg_kept encU_ok HR.out HK3.out); have HBx : Hid (w1.heap.size ≤ w3.heap.size) := hid (Nat.le_trans HBw.out hgrow3.size); clear hown3 hgrow3 hnil3) | (refine wpList_gapp rfl (.tmp 29) (.tmp 30) rfl encU_ok tyU (by decide) w1.heap.size _ _ _ _ rfl HO3.out rfl HR3.out (by have := HLs.out; have := HLd.out; simp at this ⊢; omega) HBx.out ?_; intro v5 w5 hown5 hgrow5 hnil5; have HRt := hid (rg_own encU_ok hown5); have HK5 := hid (kept_gr HK3.out hgrow5 (fun j hj => by have := og_lt HO3.out hj; have := HLw.out; omega)); have HO5 := hid (builtU w5); have HK6 := hid (kept_alloc HK5.out (.cells #[] 5)); have HRt6 := hid (rg_kept encU_ok HRt.out (kept_alloc (kept_refl w5) (.cells #[] 5))); have HBy : Hid (w5.heap.size ≤ (w5.alloc (.cells #[] 5)).heap.size) := hid (kept_alloc (kept_refl w5) (.cells #[] 5)).2; clear hown5 hgrow5 hnil5) | (refine wpList_gapp rfl (.tmp 32) (.tmp 33) rfl encU_ok tyU (by decide) w5.heap.size _ _ _ _ rfl HO5.out rfl HRt6.out (by have := HLt.out; simp at this ⊢; omega) HBy.out ?_; intro v7 w7 hown7 hgrow7 hnil7))
      rw [List.nil_append] at hown7
      have k7 := kept_gr (kept_alloc (kept_refl w5) (.cells #[] 5)) hgrow7 (fun j hj => og_lt HO5.out hj)
      have HRo := hid (rg_own encU_ok hown7)
      have HRt7 := hid (rg_kept encU_ok HRt.out k7)
      have HK7 := hid (kept_trans HK5.out k7)
      clear hown7 hgrow7 hnil7 k7 HO5 HK6 HRt6 HBy HRt HK5 HO3 HK3 HR3 HBx HO0 HK1 HR1 HBw HRk hsl hk2 hw1 hw2
      refine (HFx.out w7).mono ?_
      rintro e w8 ⟨rfl, k8⟩
      have HRo8 := hid (rg_kept encU_ok HRo.out k8)
      have HRt8 := hid (rg_kept encU_ok HRt7.out k8)
      have HK8 := hid (kept_trans HK7.out k8)
      clear k8 HRo HRt7 HK7
      go_wp2_with fail
      refine (HO.out key (l.drop k ++ l) _ w8 HKs.out (by have := HLt.out; omega) HUd.out HRt8.out).mono ?_
      rintro e w9 ⟨v9, rfl, r9, k9⟩
      rw [owners_turned] at r9
      have HRa := hid r9
      have HRo9 := hid (rg_kept encU_ok HRo8.out k9)
      have HRt9 := hid (rg_kept encU_ok HRt8.out k9)
      have HK9 := hid (kept_trans HK8.out k9)
      clear r9 k9 HRo8 HRt8 HK8
      go_wp2_with fail
      refine (HO.out key l _ w9 HKs.out (by have := HLs.out; omega) HU.out (rg_kept encU_ok HR.out HK9.out)).mono ?_
      rintro e wa ⟨va, rfl, ra, ka⟩
      have HRb := hid ra
      have HRaa := hid (rg_kept encU_ok HRa.out ka)
      have HRoa := hid (rg_kept encU_ok HRo9.out ka)
      have HRta := hid (rg_kept encU_ok HRt9.out ka)
      have HKa := hid (kept_trans HK9.out ka)
      clear ra ka HRa HRo9 HRt9 HK9
      go_wp2_with fail
      refine (sameU_any (owners key l) (by have := owners_len key l; omega) _ _ wa HRaa.out HRb.out).mono ?_
      rintro e wb ⟨rfl, kb⟩
      have HRob := hid (rg_kept encU_ok HRoa.out kb)
      have HRtb := hid (rg_kept encU_ok HRta.out kb)
      have HKb := hid (kept_trans HKa.out kb)
      clear kb HRoa HRta HKa HRaa HRb
      go_wp2_with fail
      refine (sameU_any (l.drop k ++ l) (by have := HLt.out; omega) _ _ wb HRob.out HRtb.out).mono ?_
      rintro e wc ⟨rfl, kc⟩
      have HKc := hid (kept_trans HKb.out kc)
      clear kc HKb
      go_wp2_with fail
      go_ret
      exact ⟨rfl, HKc.out⟩
set_option maxHeartbeats 6400000 in
theorem first_walk (hW : WeightIs) (hO : OwnersIs) (key : ByteArray) (l : List Int) (hl : U8 l) (v : Value) (w : World) (h : Rg encU 1 w v l) : Calls Try.prog 8 #[.string key, v] w fun e w' => e = .returned (.bool true) ∧ Kept w w' := by
  have HO := hid hO
  have HW := hid hW
  have HR := hid h
  have HU := hid hl
  have HFx := hid (fun w => fixed_any hO w)
  obtain ⟨d, cap, rfl, -, -, -, -⟩ := h
  have HG : Hid (∀ k, k < l.length → ∃ y, l[k]? = some y) := hid (fun k hk => ⟨l[k], List.getElem?_eq_getElem hk⟩)
  have HP : Hid (0 < l.length → ∃ g o, d = some ⟨g, o, none⟩) := hid (fun hp => by
    obtain ⟨g, o, c, e⟩ := rg_pos HR.out hp
    injection e with e1
    exact ⟨g, o, e1⟩)
  have HA := hid (at_new w #[.slice d l.length cap] 22)
  have HK0 := hid (kept_alloc (kept_refl w) (.cells #[.slice d l.length cap] 22))
  have HFi := hid (fun n (h1 : 0 ≤ n) (h2 : n < 64) (h3 : n ∈ l) => own_first (W := wt key) (p := mem l) h1 h2 (by unfold mem; rw [decide_eq_true_eq]; exact h3))
  have HIn := hid (fun n (hn : n ∈ owners key l) => owners_in (key := key) (l := l) hn)
  clear hO hW hl
  obtain ⟨len, hlen⟩ : ∃ len, l.length = len := ⟨_, rfl⟩
  have HLen := hid hlen
  rw [hlen] at HA HK0 HR HG HP ⊢
  clear hlen
  go_enter Try.func8, Try.ntmps8
  go_wp2_with fail
  refine (great1 key d len cap _ _ _ HA.out).mono ?_
  rintro e w1 ⟨b1, rfl, hb1, rfl⟩
  have HB1 := hid hb1
  clear hb1 HA
  generalize w.alloc (.cells #[.slice d len cap] 22) = w1 at *
  cases b1 with
  | true =>
    go_wp2_with fail
    refine (HFx.out w1).mono ?_
    rintro e w2 ⟨rfl, k2⟩
    have HK2 := hid (kept_trans HK0.out k2)
    clear k2
    go_wp2_with fail
    go_ret
    exact ⟨rfl, HK2.out⟩
  | false =>
    obtain ⟨hk, hn⟩ := HB1.out rfl
    have HKs := hid hk
    have HLs : Hid (l.length ≤ 200) := hid (by rw [HLen.out]; exact hn)
    have HWt := hid (fun n h1 h2 w => HW.out key n w HKs.out h1 h2)
    clear HB1 hk
    go_wp2_with fail
    refine (HO.out key l _ w1 HKs.out (by have := HLs.out; omega) HU.out (rg_kept encU_ok HR.out HK0.out)).mono ?_
    rintro e w2 ⟨v2, rfl, r2, k2⟩
    have HRo := hid r2
    have HK2 := hid (kept_trans HK0.out k2)
    have HOl := hid (owners_len key l)
    clear r2 k2 HK0
    obtain ⟨d2, cap2, rfl, -, -, -, -⟩ := HRo.out
    have HPo : Hid (0 < (owners key l).length → ∃ g o, d2 = some ⟨g, o, none⟩) := hid (fun hp => by
      obtain ⟨g, o, c, e⟩ := rg_pos HRo.out hp
      injection e with e1
      exact ⟨g, o, e1⟩)
    obtain ⟨pn, hpn⟩ : ∃ pn, (owners key l).length = pn := ⟨_, rfl⟩
    have HPn := hid hpn
    rw [hpn] at HRo HPo ⊢
    clear hpn
    go_wp2_with fail
    obtain ⟨W0, rfl⟩ : ∃ W0, W0 = w2 := ⟨w2, rfl⟩
    go_loopw [18] (fun j wq => ∃ (k : Nat), k ≤ len ∧ j = .int .i64 (k : Int) ∧ Hid (Kept W0 wq)) (fun j _ => len - (intOf j).toNat)
    case atStart => exact ⟨0, Nat.zero_le _, rfl, hid (kept_refl _)⟩
    case round =>
      obtain ⟨k, hk, rfl, HKi⟩ := hrel
      by_cases hlt : k < len
      · obtain ⟨y, hy⟩ := HG.out k hlt
        obtain ⟨g, o, rfl⟩ := HP.out (by omega)
        have c0 := rg_U (rg_kept encU_ok HR.out (kept_trans HK2.out HKi.out)) hy
        have HYb := hid (HU.out y (List.mem_of_getElem? hy))
        have HYm := hid (List.mem_of_getElem? hy)
        clear hy
        by_cases hbig : (63 : Int) < y
        · go_wp2_with fail
          go_roundw
          case rel => exact ⟨k + 1, by omega, by go_num, HKi⟩
          case measure => simp [intOf]; omega
        · obtain ⟨a, r, eo, hc⟩ := HFi.out y HYb.out.1 (by omega) HYm.out
          have EO : Hid (owners key l = a :: r) := hid eo
          have hp0 : 0 < pn := by rw [← HPn.out, EO.out]; simp
          obtain ⟨g2, o2, rfl⟩ := HPo.out hp0
          have c1 := rg_U (i := 0) (x := a) (rg_kept encU_ok HRo.out HKi.out) (by rw [EO.out]; rfl)
          rw [Nat.add_zero] at c1
          have hp1 : (0 : Int) < (pn : Int) := by omega
          by_cases ea : y = a
          · have hb : (y == a) = true := by simpa using ea
            clear ea eo hc
            go_wp2_with fail
            go_roundw
            case rel => exact ⟨k + 1, by omega, by go_num, HKi⟩
            case measure => simp [intOf]; omega
          · have hb : (y == a) = false := by simpa using ea
            obtain ⟨b, hr, hwb, hwa⟩ := hc.resolve_left ea
            have EO2 : Hid (owners key l = [a, b]) := hid (by rw [EO.out, hr])
            have hpn2 : pn = 2 := by rw [← HPn.out, EO2.out]; rfl
            subst hpn2
            have HAb : Hid (0 ≤ a ∧ a < 256) := hid (by have := HIn.out a (by rw [EO2.out]; simp); omega)
            have HBb : Hid (0 ≤ b ∧ b < 256) := hid (by have := HIn.out b (by rw [EO2.out]; simp); omega)
            have HS : Hid (∀ u, Kept W0 u → u.cell? ⟨g2, o2, none⟩ = some (.int .u8 a) ∧ u.cell? ⟨g2, o2 + 1, none⟩ = some (.int .u8 b)) := hid (fun u ku => by
              have s0 := rg_U (i := 0) (x := a) (rg_kept encU_ok HRo.out ku) (by rw [EO2.out]; rfl)
              have s1 := rg_U (i := 1) (x := b) (rg_kept encU_ok HRo.out ku) (by rw [EO2.out]; rfl)
              rw [Nat.add_zero] at s0
              exact ⟨s0, s1⟩)
            have hda : decide (wt key a < wt key y) = false := by simpa using hwa
            have hdb : decide (wt key b < wt key y) = false := by simpa using hwb
            have hS0 := HS.out _ (kept_drew HKi.out)
            rw [show ((2 : Nat) : Int) = 2 from rfl] at *
            clear ea eo hc hr hwa hwb hp0
            generalize wt key = W at *
            go_wp2_with fail
            replace HKi := hid (kept_drew HKi.out)
            refine wp_region_noPanic ?_
            refine wp_region_held_drew (S := (fun w' => (w'.cell? ⟨g2, o2, none⟩ = some (.int .u8 a)) ∧ (w'.cell? ⟨g2, o2 + 1, none⟩ = some (.int .u8 b)))) (by kernel_rfl) (by assumption) (fun hHeld => ?_)
            generalize wr.drew = wz at *
            refine wpAnyH_take (i := 0) (v := .slice (some ⟨g2, o2, none⟩) 2 cap2) rfl (by kernel_rfl) (by kernel_rfl) (by kernel_rfl) (fun _ _ _ h => h) (Or.inl ⟨by rfl, fun w hSw => by (try dsimp only at hSw); go_simp⟩) (by assumption) ?_
            try simp only [List.getElem_toArray, List.getElem_cons_zero, List.getElem_cons_succ, Act.put, List.setIfInBounds_toArray, List.set_cons_zero, List.set_cons_succ]
            refine wpAnyH_take (i := 1) (v := .int .i64 2) rfl (by kernel_rfl) (by kernel_rfl) (by kernel_rfl) (fun _ _ _ h => h) (Or.inl ⟨by rfl, fun w hSw => by (try dsimp only at hSw); go_simp⟩) (by assumption) ?_
            try simp only [List.getElem_toArray, List.getElem_cons_zero, List.getElem_cons_succ, Act.put, List.setIfInBounds_toArray, List.set_cons_zero, List.set_cons_succ]
            refine wpAnyH_take (i := 2) (v := .bool false) rfl (by kernel_rfl) (by kernel_rfl) (by kernel_rfl) (fun _ _ _ h => h) (Or.inl ⟨by rfl, fun w hSw => by (try dsimp only at hSw); go_simp⟩) (by assumption) ?_
            try simp only [List.getElem_toArray, List.getElem_cons_zero, List.getElem_cons_succ, Act.put, List.setIfInBounds_toArray, List.set_cons_zero, List.set_cons_succ]
            refine wpAnyH_take (i := 3) (v := .bool false) rfl (by kernel_rfl) (by kernel_rfl) (by kernel_rfl) (fun _ _ _ h => h) (Or.inl ⟨by rfl, fun w hSw => by (try dsimp only at hSw); go_simp⟩) (by assumption) ?_
            try simp only [List.getElem_toArray, List.getElem_cons_zero, List.getElem_cons_succ, Act.put, List.setIfInBounds_toArray, List.set_cons_zero, List.set_cons_succ]
            refine wpAnyH_take (i := 4) (v := .string key) rfl (by kernel_rfl) (by kernel_rfl) (by kernel_rfl) (fun _ _ _ h => h) (Or.inl ⟨by rfl, fun w hSw => by (try dsimp only at hSw); go_simp⟩) (by assumption) ?_
            try simp only [List.getElem_toArray, List.getElem_cons_zero, List.getElem_cons_succ, Act.put, List.setIfInBounds_toArray, List.set_cons_zero, List.set_cons_succ]
            refine wpAnyH_take (i := 5) (v := .int .u8 y) rfl (by kernel_rfl) (by kernel_rfl) (by kernel_rfl) (fun _ _ _ h => h) (Or.inl ⟨by rfl, fun w hSw => by (try dsimp only at hSw); go_simp⟩) (by assumption) ?_
            try simp only [List.getElem_toArray, List.getElem_cons_zero, List.getElem_cons_succ, Act.put, List.setIfInBounds_toArray, List.set_cons_zero, List.set_cons_succ]
            refine wpAnyH_take (i := 7) (v := .string key) rfl (by kernel_rfl) (by kernel_rfl) (by kernel_rfl) (fun _ _ _ h => h) (Or.inl ⟨by rfl, fun w hSw => by (try dsimp only at hSw); go_simp⟩) (by assumption) ?_
            try simp only [List.getElem_toArray, List.getElem_cons_zero, List.getElem_cons_succ, Act.put, List.setIfInBounds_toArray, List.set_cons_zero, List.set_cons_succ]
            refine wpAnyH_take (i := 8) (v := .slice (some ⟨g2, o2, none⟩) 2 cap2) rfl (by kernel_rfl) (by kernel_rfl) (by kernel_rfl) (fun _ _ _ h => h) (Or.inl ⟨by rfl, fun w hSw => by (try dsimp only at hSw); go_simp⟩) (by assumption) ?_
            try simp only [List.getElem_toArray, List.getElem_cons_zero, List.getElem_cons_succ, Act.put, List.setIfInBounds_toArray, List.set_cons_zero, List.set_cons_succ]
            refine wpAnyH_take (i := 9) (v := .pointer (some ⟨g2, o2 + 1, none⟩)) rfl (by kernel_rfl) (by kernel_rfl) (by kernel_rfl) (fun _ _ _ h => h) (Or.inl ⟨by rfl, fun w hSw => by (try dsimp only at hSw); go_simp⟩) (by assumption) ?_
            try simp only [List.getElem_toArray, List.getElem_cons_zero, List.getElem_cons_succ, Act.put, List.setIfInBounds_toArray, List.set_cons_zero, List.set_cons_succ]
            refine wpAnyH_take (i := 10) (v := .int .u8 b) rfl (by kernel_rfl) (by kernel_rfl) (by kernel_rfl) (fun _ _ _ h => h) (Or.inl ⟨by rfl, fun w hSw => by (try dsimp only at hSw); go_simp⟩) (by assumption) ?_
            try simp only [List.getElem_toArray, List.getElem_cons_zero, List.getElem_cons_succ, Act.put, List.setIfInBounds_toArray, List.set_cons_zero, List.set_cons_succ]
            refine wpAnyH_ready (rs := [6]) (by kernel_rfl) (by simp) ?_
            refine AllReadyH.cons (i := 6) rfl (fun K hK => ?_) AllReadyH.nil
            go_simp
            refine (HWt.out y HYb.out.1 HYb.out.2 _).mono ?_
            rintro e w3 ⟨rfl, h3⟩
            replace HKi := hid (kept_trans HKi.out h3)
            clear h3
            have hS := HS.out _ HKi.out
            clear hHeld
            show K _ _
            refine hK.out _ _ (by assumption) (fun hHeld => ?_)
            clear hK K
            try simp only [List.getElem_toArray, List.getElem_cons_zero, List.getElem_cons_succ, Act.put, List.setIfInBounds_toArray, List.set_cons_zero, List.set_cons_succ]
            refine wpAnyH_ready (rs := [11]) (by kernel_rfl) (by simp) ?_
            refine AllReadyH.cons (i := 11) rfl (fun K hK => ?_) AllReadyH.nil
            go_simp
            refine (HWt.out b HBb.out.1 HBb.out.2 _).mono ?_
            rintro e w3 ⟨rfl, h3⟩
            replace HKi := hid (kept_trans HKi.out h3)
            clear h3
            have hS := HS.out _ HKi.out
            clear hHeld
            show K _ _
            refine hK.out _ _ (by assumption) (fun hHeld => ?_)
            clear hK K
            try simp only [List.getElem_toArray, List.getElem_cons_zero, List.getElem_cons_succ, Act.put, List.setIfInBounds_toArray, List.set_cons_zero, List.set_cons_succ]
            refine wpAnyH_take (i := 12) (v := .bool false) rfl (by kernel_rfl) (by kernel_rfl) (by kernel_rfl) (fun _ _ _ h => h) (Or.inl ⟨by rfl, fun w hSw => by (try dsimp only at hSw); go_simp⟩) (by assumption) ?_
            try simp only [List.getElem_toArray, List.getElem_cons_zero, List.getElem_cons_succ, Act.put, List.setIfInBounds_toArray, List.set_cons_zero, List.set_cons_succ]
            refine wpAnyH_take (i := 13) (v := .bool false) rfl (by kernel_rfl) (by kernel_rfl) (by kernel_rfl) (fun _ _ _ h => h) (Or.inl ⟨by rfl, fun w hSw => by (try dsimp only at hSw); go_simp⟩) (by assumption) ?_
            try simp only [List.getElem_toArray, List.getElem_cons_zero, List.getElem_cons_succ, Act.put, List.setIfInBounds_toArray, List.set_cons_zero, List.set_cons_succ]
            refine wpAnyH_take (i := 14) (v := .bool false) rfl (by kernel_rfl) (by kernel_rfl) (by kernel_rfl) (fun _ _ _ h => h) (Or.inl ⟨by rfl, fun w hSw => by (try dsimp only at hSw); go_simp⟩) (by assumption) ?_
            try simp only [List.getElem_toArray, List.getElem_cons_zero, List.getElem_cons_succ, Act.put, List.setIfInBounds_toArray, List.set_cons_zero, List.set_cons_succ]
            refine wpAnyH_take (i := 15) (v := .string key) rfl (by kernel_rfl) (by kernel_rfl) (by kernel_rfl) (fun _ _ _ h => h) (Or.inl ⟨by rfl, fun w hSw => by (try dsimp only at hSw); go_simp⟩) (by assumption) ?_
            try simp only [List.getElem_toArray, List.getElem_cons_zero, List.getElem_cons_succ, Act.put, List.setIfInBounds_toArray, List.set_cons_zero, List.set_cons_succ]
            refine wpAnyH_take (i := 16) (v := .int .u8 y) rfl (by kernel_rfl) (by kernel_rfl) (by kernel_rfl) (fun _ _ _ h => h) (Or.inl ⟨by rfl, fun w hSw => by (try dsimp only at hSw); go_simp⟩) (by assumption) ?_
            try simp only [List.getElem_toArray, List.getElem_cons_zero, List.getElem_cons_succ, Act.put, List.setIfInBounds_toArray, List.set_cons_zero, List.set_cons_succ]
            refine wpAnyH_take (i := 18) (v := .string key) rfl (by kernel_rfl) (by kernel_rfl) (by kernel_rfl) (fun _ _ _ h => h) (Or.inl ⟨by rfl, fun w hSw => by (try dsimp only at hSw); go_simp⟩) (by assumption) ?_
            try simp only [List.getElem_toArray, List.getElem_cons_zero, List.getElem_cons_succ, Act.put, List.setIfInBounds_toArray, List.set_cons_zero, List.set_cons_succ]
            refine wpAnyH_take (i := 19) (v := .slice (some ⟨g2, o2, none⟩) 2 cap2) rfl (by kernel_rfl) (by kernel_rfl) (by kernel_rfl) (fun _ _ _ h => h) (Or.inl ⟨by rfl, fun w hSw => by (try dsimp only at hSw); go_simp⟩) (by assumption) ?_
            try simp only [List.getElem_toArray, List.getElem_cons_zero, List.getElem_cons_succ, Act.put, List.setIfInBounds_toArray, List.set_cons_zero, List.set_cons_succ]
            refine wpAnyH_take (i := 20) (v := .pointer (some ⟨g2, o2, none⟩)) rfl (by kernel_rfl) (by kernel_rfl) (by kernel_rfl) (fun _ _ _ h => h) (Or.inl ⟨by rfl, fun w hSw => by (try dsimp only at hSw); go_simp⟩) (by assumption) ?_
            try simp only [List.getElem_toArray, List.getElem_cons_zero, List.getElem_cons_succ, Act.put, List.setIfInBounds_toArray, List.set_cons_zero, List.set_cons_succ]
            refine wpAnyH_take (i := 21) (v := .int .u8 a) rfl (by kernel_rfl) (by kernel_rfl) (by kernel_rfl) (fun _ _ _ h => h) (Or.inl ⟨by rfl, fun w hSw => by (try dsimp only at hSw); go_simp⟩) (by assumption) ?_
            try simp only [List.getElem_toArray, List.getElem_cons_zero, List.getElem_cons_succ, Act.put, List.setIfInBounds_toArray, List.set_cons_zero, List.set_cons_succ]
            refine wpAnyH_ready (rs := [17]) (by kernel_rfl) (by simp) ?_
            refine AllReadyH.cons (i := 17) rfl (fun K hK => ?_) AllReadyH.nil
            go_simp
            refine (HWt.out y HYb.out.1 HYb.out.2 _).mono ?_
            rintro e w3 ⟨rfl, h3⟩
            replace HKi := hid (kept_trans HKi.out h3)
            clear h3
            have hS := HS.out _ HKi.out
            clear hHeld
            show K _ _
            refine hK.out _ _ (by assumption) (fun hHeld => ?_)
            clear hK K
            try simp only [List.getElem_toArray, List.getElem_cons_zero, List.getElem_cons_succ, Act.put, List.setIfInBounds_toArray, List.set_cons_zero, List.set_cons_succ]
            refine wpAnyH_ready (rs := [22]) (by kernel_rfl) (by simp) ?_
            refine AllReadyH.cons (i := 22) rfl (fun K hK => ?_) AllReadyH.nil
            go_simp
            refine (HWt.out a HAb.out.1 HAb.out.2 _).mono ?_
            rintro e w3 ⟨rfl, h3⟩
            replace HKi := hid (kept_trans HKi.out h3)
            clear h3
            have hS := HS.out _ HKi.out
            clear hHeld
            show K _ _
            refine hK.out _ _ (by assumption) (fun hHeld => ?_)
            clear hK K
            try simp only [List.getElem_toArray, List.getElem_cons_zero, List.getElem_cons_succ, Act.put, List.setIfInBounds_toArray, List.set_cons_zero, List.set_cons_succ]
            refine wpAnyH_take (i := 23) (v := .bool false) rfl (by kernel_rfl) (by kernel_rfl) (by kernel_rfl) (fun _ _ _ h => h) (Or.inl ⟨by rfl, fun w hSw => by (try dsimp only at hSw); go_simp⟩) (by assumption) ?_
            try simp only [List.getElem_toArray, List.getElem_cons_zero, List.getElem_cons_succ, Act.put, List.setIfInBounds_toArray, List.set_cons_zero, List.set_cons_succ]
            refine wpAnyH_take (i := 24) (v := .bool false) rfl (by kernel_rfl) (by kernel_rfl) (by kernel_rfl) (fun _ _ _ h => h) (Or.inl ⟨by rfl, fun w hSw => by (try dsimp only at hSw); go_simp⟩) (by assumption) ?_
            try simp only [List.getElem_toArray, List.getElem_cons_zero, List.getElem_cons_succ, Act.put, List.setIfInBounds_toArray, List.set_cons_zero, List.set_cons_succ]
            refine wpAnyH_done (by kernel_rfl) ?_ _
            refine NoPanic.normal ?_
            clear hHeld
            go_wp2_with fail
            go_roundw
            case rel => exact ⟨k + 1, by omega, by go_num, HKi⟩
            case measure => simp [intOf]; omega
      · have he : k = len := by omega
        subst he
        go_wp2_with fail
        refine (HFx.out wr).mono ?_
        rintro e w3 ⟨rfl, k3⟩
        have HK3 := hid (kept_trans HK2.out (kept_trans HKi.out k3))
        clear k3
        go_wp2_with fail
        go_ret
        exact ⟨rfl, HK3.out⟩
end Go.Proofs.Ytfdnfnnagchjcaa
