/- The law on what a walk finds, walked: it answers true and turns nothing that was there. -/
import Derived.Test.YtpfelbbhhoilpaaArrays
namespace Go.Proofs.Ytpfelbbhhoilpaa
open Go.ChangeShapes Go.WideShapes Go.ChangeAt Go.RowKit
set_option linter.unusedVariables false
set_option linter.unusedSimpArgs false
set_option maxRecDepth 100000

/- The one ahead of a row's place. -/
def was (l : List Nat) (k : Nat) : Int := if k = 0 then -1 else ((l.getD (k - 1) 0 : Nat) : Int)
theorem was_zero (l : List Nat) : was l 0 = -1 := rfl
theorem was_next {l : List Nat} {k i : Nat} (h : l[k]? = some i) : was l (k + 1) = (i : Int) := by
  unfold was
  rw [if_neg (by omega)]
  simp [List.getD, h]
theorem was_lt {l : List Nat} (hp : l.Pairwise (· < ·)) {k i : Nat} (h : l[k]? = some i) : was l k < (i : Int) := by
  unfold was
  split
  · omega
  · rename_i hk
    obtain ⟨h1, h2⟩ := List.getElem?_eq_some_iff.1 h
    have e : l[k - 1]? = some l[k - 1] := List.getElem?_eq_getElem (by omega)
    have := List.pairwise_iff_getElem.1 hp (k - 1) k (by omega) h1 (by omega)
    simp only [List.getD, e, Option.getD_some]
    omega
set_option maxHeartbeats 6400000 in
theorem down_walk (oa : Option Addr) (len cap b o : Nat) (S : Nat → Fx) (oa' : Option Addr) (len' cap' b' o' : Nat) (S' : Nat → Fx) (w : World) (hr : Row w oa len cap b o S) (hr' : Row w oa' len' cap' b' o' S') :
    Calls Try.prog 6 #[.slice oa len cap, .slice oa' len' cap'] w fun e w' => e = .returned (.bool true) ∧ Kept w w' := by
  have hz31 := zero31
  have HRw := hid hr
  have HRv := hid hr'
  clear hr hr'
  go_enter Try.func6, Try.ntmps6
  go_wp2_with fail
  refine (new_any w).mono ?_
  rintro e w1 ⟨rfl, k1, t1, s1⟩
  obtain ⟨X, hX⟩ : ∃ X, w.heap.size = X := ⟨_, rfl⟩
  have HX := hid hX
  rw [hX] at t1 s1 ⊢
  have HL1 : Hid (w1.heap.size = X + 1) := hid s1
  have HK1 := hid k1
  have HT1 := hid t1
  clear k1 t1 s1 hX
  go_wp2_with fail
  refine (new_any w1).mono ?_
  rintro e w2 ⟨rfl, k2, t2, s2⟩
  obtain ⟨Y, hY⟩ : ∃ Y, w1.heap.size = Y := ⟨_, rfl⟩
  rw [hY] at t2 s2 HL1 ⊢
  have HL2 : Hid (w2.heap.size = Y + 1) := hid s2
  have HK2 := hid (kept_trans HK1.out k2)
  have HT2 := hid (tr_kept HT1.out k2)
  have HU2 := hid t2
  clear k2 t2 s2 hY HK1 HT1
  go_wp2_with fail
  refine (new_any w2).mono ?_
  rintro e w3 ⟨rfl, k3, t3, s3⟩
  obtain ⟨V, hV⟩ : ∃ V, w2.heap.size = V := ⟨_, rfl⟩
  rw [hV] at t3 s3 HL2 ⊢
  have HL : Hid (X < Y ∧ Y < V ∧ w.heap.size = X) := hid ⟨by have := HL1.out; omega, by have := HL2.out; omega, HX.out⟩
  have HK3 := hid (kept_trans HK2.out k3)
  have HT3 := hid (tr_kept HT2.out k3)
  have HU3 := hid (tr_kept HU2.out k3)
  have HV3 := hid t3
  clear k3 t3 s3 hV HK2 HT2 HU2 HL1 HL2 HX
  go_wp2_with fail
  refine (fixed_any w3).mono ?_
  rintro e w4 ⟨rfl, k4⟩
  have HK4 := hid (kept_trans HK3.out k4)
  have HT4 := hid (tr_kept HT3.out k4)
  have HU4 := hid (tr_kept HU3.out k4)
  have HV4 := hid (tr_kept HV3.out k4)
  clear k4 HK3 HT3 HU3 HV3
  have HF4 := hid (flips_any w4 HT4.out (ops_kept HRw.out HK4.out) (fun hl => by have := (HRw.out.2.2.2.1 hl).2; have := HL.out; omega))
  go_wp2_with fail
  refine HF4.out.mono ?_
  rintro e w5 ⟨rfl, t5, r5⟩
  have HT5 := hid r5
  have HK5 := hid (kept_turn HK4.out (by have := HL.out; omega) t5)
  have HU5 := hid (tr_turn HU4.out t5 (by have := HL.out; omega))
  have HV5 := hid (tr_turn HV4.out t5 (by have := HL.out; omega))
  clear t5 r5 HF4 HT4 HK4 HU4 HV4
  have HF5 := hid (flips_any w5 HU5.out (ops_kept HRv.out HK5.out) (fun hl => by have := (HRv.out.2.2.2.1 hl).2; have := HL.out; omega))
  go_wp2_with fail
  refine HF5.out.mono ?_
  rintro e w6 ⟨rfl, t6, r6⟩
  have HU6 := hid r6
  have HK6 := hid (kept_turn HK5.out (by have := HL.out; omega) t6)
  have HT6 := hid (tr_turn HT5.out t6 (by have := HL.out; omega))
  have HV6 := hid (tr_turn HV5.out t6 (by have := HL.out; omega))
  clear t6 r6 HF5 HT5 HK5 HU5 HV5
  have HFv := hid (fun u (h : Tr u V (fun _ => 0)) (k : Kept w u) => flips_any u h (ops_kept HRw.out k) (fun hl => by have := (HRw.out.2.2.2.1 hl).2; have := HL.out; omega))
  generalize fl S (mn len) = L at *
  generalize fl S' (mn len') = M at *
  obtain ⟨w7, A, B, wa, wb, wc, h7⟩ := two31 w6 L M
  have HA7 := hid h7.a1
  have HB7 := hid h7.a2
  have HK7 := hid (kept_trans HK6.out h7.k)
  have HT7 := hid (tr_kept HT6.out h7.k)
  have HU7 := hid (tr_kept HU6.out h7.k)
  have HV7 := hid (tr_kept HV6.out h7.k)
  have HAV : Hid (A ≠ V ∧ B ≠ V ∧ A ≠ X ∧ B ≠ X ∧ A ≠ Y ∧ B ≠ Y) := hid ⟨at_ne h7.a1 HV7.out.1 (by decide), at_ne h7.a2 HV7.out.1 (by decide), at_ne h7.a1 HT7.out.1 (by decide), at_ne h7.a2 HT7.out.1 (by decide), at_ne h7.a1 HU7.out.1 (by decide), at_ne h7.a2 HU7.out.1 (by decide)⟩
  have hal := h7.al
  have hbl := h7.bl
  have hha := h7.ha
  have hhb := h7.hb
  have HS1 := hid h7.st1
  have HS2 := hid h7.st2
  clear h7 HK6 HT6 HU6 HV6
  have HNL : Hid (nv L 64 = nv L 64) := hid rfl
  obtain ⟨na, hna⟩ : ∃ na, nv L 64 = na := ⟨_, rfl⟩
  obtain ⟨nb, hnb⟩ : ∃ nb, nv M 64 = nb := ⟨_, rfl⟩
  have HNA := hid hna
  have HNB := hid hnb
  rw [hna] at HS1 ⊢
  rw [hnb] at HS2 ⊢
  clear hna hnb HNL
  go_wp2_with (first | (refine wpList_store31 rfl _ _ rfl A rfl na rfl wc HS1.out ?_) | (refine wpList_store31 rfl _ _ rfl B rfl nb rfl w7 HS2.out ?_))
  refine (HFv.out _ HV7.out HK7.out).mono ?_
  rintro e w8 ⟨rfl, t8, r8⟩
  have HV8 := hid r8
  have HK8 := hid (kept_turn HK7.out (by have := HL.out; omega) t8)
  have HT8 := hid (tr_turn HT7.out t8 (by have := HL.out; omega))
  have HU8 := hid (tr_turn HU7.out t8 (by have := HL.out; omega))
  have HA8 := hid (at_turn HA7.out t8 HAV.out.1)
  have HB8 := hid (at_turn HB7.out t8 HAV.out.2.1)
  clear t8 r8 HFv HV7 HK7 HT7 HU7 HA7 HB7 HS1 HS2 hal hbl hha hhb HAV HNA HNB
  generalize nv L 64 = nl
  have HW8 := hid (walk_any w8 HT8.out.1 HU8.out.1)
  go_wp2_with fail
  refine HW8.out.mono ?_
  rintro e w9 ⟨v9, rfl, o9, k9⟩
  have HV9 := hid (tr_kept HV8.out k9)
  have HK9 := hid (kept_trans HK8.out k9)
  have HT9 := hid (tr_kept HT8.out k9)
  have HU9 := hid (tr_kept HU8.out k9)
  have HA9 := hid (at_kept HA8.out k9)
  have HB9 := hid (at_kept HB8.out k9)
  have HO9 := hid (rw_own o9)
  clear o9 k9 HV8 HK8 HT8 HU8 HA8 HB8 HW8
  obtain ⟨l, hl⟩ : ∃ l, wk (nod L) (nod M) 1 = l := ⟨_, rfl⟩
  obtain ⟨c, hc⟩ : ∃ c, cn (nod L) (nod M) 1 = c := ⟨_, rfl⟩
  have HWk := hid (wk_all (nod L) (nod M))
  have HRoot := hid (wk_root L M)
  rw [hl, hc] at HWk
  rw [hl] at HRoot HO9
  rw [hc]
  have HIn : Hid (∀ k i, l[k]? = some i → i < 64 ∧ L i ≠ M i ∧ was l k < (i : Int) ∧ was l (k + 1) = (i : Int)) := hid (fun k i h => by
    obtain ⟨g1, g2⟩ := HWk.out.2.1 i (List.mem_of_getElem? h)
    rw [nod_at, nod_at] at g2
    exact ⟨g1, g2, was_lt HWk.out.1 h, was_next h⟩)
  have HCn : Hid (1 ≤ c ∧ c ≤ 127) := hid ⟨HWk.out.2.2.2.1, HWk.out.2.2.2.2⟩
  have hll : l.length ≤ 64 := HWk.out.2.2.1
  clear hl hc HWk
  obtain ⟨a9, c9, rfl, h9⟩ := HO9.out
  rw [cs_len] at h9
  rw [cs_len]
  have H9 := hid h9
  clear h9 HO9
  obtain ⟨n, hn⟩ : ∃ n, l.length = n := ⟨_, rfl⟩
  have HN := hid hn
  rw [hn] at H9 hll HRoot
  rw [hn]
  clear hn
  have HGet : Hid (∀ k, k < n → ∃ i, l[k]? = some i ∧ (cs l)[k]? = some (i : Int)) := hid (fun k hk => by
    have hk' : k < l.length := by rw [HN.out]; exact hk
    refine ⟨l[k], List.getElem?_eq_getElem hk', ?_⟩
    unfold cs
    rw [List.getElem?_map, List.getElem?_eq_getElem hk']
    rfl)
  go_wp2_with fail
  have HW0 : Hid (was l 0 = -1) := hid rfl
  go_loopw [12, 51] (fun v j wr => ∃ k : Nat, k ≤ n ∧ j = .int .i64 (k : Int) ∧ v = .int .i64 (was l k) ∧ Hid (Kept w9 wr)) (fun _ j _ => n - (intOf j).toNat)
  case atStart => exact ⟨0, Nat.zero_le _, rfl, by rw [HW0.out], hid (kept_refl w9)⟩
  case round =>
    obtain ⟨k, hk, rfl, rfl, HKr⟩ := hrel
    by_cases hlt : k < n
    · obtain ⟨g9, p9, rfl, h9⟩ := H9.out (by omega)
      obtain ⟨i, hi, hi2⟩ := HGet.out k hlt
      have e0 := h9 k _ hi2
      have c0 := (kept_cell HKr.out (cell_lt e0)).trans e0
      obtain ⟨f1, f2, f3, f4⟩ := HIn.out k i hi
      have x0 := (at_cell (at_kept HA9.out HKr.out) i).trans (nv_get L f1)
      have y0 := (at_cell (at_kept HB9.out HKr.out) i).trans (nv_get M f1)
      have hne : (L i == M i) = false := by simpa using f2
      have d1 : decide ((i : Int) ≤ was l k) = false := by simp; omega
      have d2 : decide ((63 : Int) < (i : Int)) = false := by simp; omega
      have d3 : (i : Int) < 64 := by omega
      have HF4 := hid f4
      generalize L i = x at *
      generalize M i = y at *
      generalize was l k = z at *
      clear h9 hi hi2 e0 f1 f2 f3 f4
      go_wp2_with fail
      go_quiet (fail)
      go_wp2_with fail
      go_roundw
      case rel => exact ⟨k + 1, by omega, by go_num, by rw [HF4.out], hid (kept_drewN HKr.out _)⟩
      case measure => simp [intOf]; omega
    · have hke : k = n := by omega
      subst hke
      have HVr := hid (tr_kept HV9.out HKr.out)
      have HTr := hid (tr_kept HT9.out HKr.out)
      have HUr := hid (tr_kept HU9.out HKr.out)
      have HKw := hid (kept_trans HK9.out HKr.out)
      have HWr := hid (walk_any wr HTr.out.1 HVr.out.1)
      have HE := hid (wk_eq (N := nod L) (M := nod L) (k := 1) rfl)
      clear HV9 HK9 HT9 HU9 HA9 HB9 HKr HIn HGet H9 HW0
      generalize was l k = z at *
      go_wp2_with fail
      refine HWr.out.mono ?_
      rintro e w10 ⟨v10, rfl, o10, k10⟩
      rw [HE.out.1] at o10
      rw [HE.out.2]
      obtain ⟨a10, c10, rfl⟩ := own_is o10
      have hcs : (cs ([] : List Nat)).length = 0 := rfl
      rw [hcs]
      have HT10 := hid (tr_kept HTr.out k10)
      have HU10 := hid (tr_kept HUr.out k10)
      have HK10 := hid (kept_trans HKw.out k10)
      clear o10 k10 hcs HWr HE HVr HTr HUr HKw
      have hA := root_any _ HT10.out
      have HB := hid (fun w1 (h : Tr w1 Y M) => root_any w1 h)
      have hr1 := HRoot.out
      generalize nod L 1 = r1 at *
      generalize nod M 1 = r2 at *
      obtain ⟨t, ht⟩ : ∃ t, (r1 != r2) = t := ⟨_, rfl⟩
      rw [ht] at hr1
      have hr2 : decide ((0 : Int) < (k : Int)) = t := by rw [← hr1]; congr 1; simp
      have htt : (t == t) = true := by simp
      have hc1 : decide ((1 : Int) ≤ (c : Int)) = true := by have := HCn.out; simp; omega
      have hc2 : decide ((c : Int) ≤ 127) = true := by have := HCn.out; simp; omega
      go_wp2_with fail
      refine hA.mono ?_
      rintro e w11 ⟨rfl, k11⟩
      have HU11 := hid (tr_kept HU10.out k11)
      have HK11 := hid (kept_trans HK10.out k11)
      clear k11 HT10 HU10 HK10 hA
      go_wp2_with fail
      refine (HB.out _ HU11.out).mono ?_
      rintro e w12 ⟨rfl, k12⟩
      go_wp2_with fail
      go_ret
      exact ⟨rfl, kept_trans HK11.out k12⟩
end Go.Proofs.Ytpfelbbhhoilpaa
