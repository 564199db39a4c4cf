/- The contracts of the library's Index and Contains at a row of asks, and of the landed probe's asks. -/
import Derived.Test.YtgmcjnhijgnadaaPrCode2
import Derived.Test.YtgmcjnhijgnadaaPrRef2
namespace Go.Proofs.Ytgmcjnhijgnadaa
open Go.ChangeShapes Go.WideShapes Go.ChangeAt Go.RowKit
set_option linter.unusedVariables false
set_option linter.unusedSimpArgs false
set_option maxRecDepth 100000

def sameA (a b : Ask) : Bool := a.helper == b.helper && a.target == b.target
theorem eq_A (a b : Ask) (w : World) : (Op.equalIn 10000 80 (.agg #[.int .u8 a.helper, .int .u8 a.target]) (.agg #[.int .u8 b.helper, .int .u8 b.target])).run Try.prog w = .ok (sameA a b) w := by
  go_simp
  unfold sameA
  by_cases h1 : a.helper = b.helper <;> by_cases h2 : a.target = b.target <;> simp [h1, h2]
def IdxA (l : List Ask) (a : Ask) (w : World) (e : Ending) (w' : World) : Prop := ∃ z, e = .returned (.int .i64 z) ∧ ((z = -1 ∧ ∀ (j : Nat) (q : Ask), l[j]? = some q → sameA a q = false) ∨ ∃ (i : Nat) (q : Ask), z = (i : Int) ∧ l[i]? = some q ∧ sameA a q = true) ∧ Kept w w'
set_option maxHeartbeats 1600000 in
theorem idxa_any (a : Ask) {l : List Ask} (hl : l.length ≤ 1000) (v : Value) (w : World) (h : Rg encA 2 w v l) : Calls Try.prog 43 #[v, .agg #[.int .u8 a.helper, .int .u8 a.target]] w (IdxA l a w) := by
  have k0 := kept_alloc (kept_refl w) (.cells #[.int .u8 a.helper, .int .u8 a.target] 80)
  have hY := at_new w #[.int .u8 a.helper, .int .u8 a.target] 80
  obtain ⟨w0, hw0⟩ : ∃ u, w.alloc (.cells #[.int .u8 a.helper, .int .u8 a.target] 80) = u := ⟨_, rfl⟩
  obtain ⟨Y, hYY⟩ : ∃ u, w.heap.size = u := ⟨_, rfl⟩
  rw [hw0] at k0 hY
  rw [hYY] at hY
  have HY := hid hY
  have HK0 := hid k0
  have HR := hid (rg_kept encA_ok h k0)
  obtain ⟨b, cap, rfl, -, -, -, -⟩ := h
  have HG : Hid (∀ k : Nat, k < l.length → ∃ y, l[k]? = some y) := hid (fun k hk => ⟨l[k], List.getElem?_eq_getElem hk⟩)
  have HQ : Hid (0 < l.length → ∃ g o, b = some ⟨g, o, none⟩) := hid (fun hp => by
    obtain ⟨g, o, c, e⟩ := rg_pos HR.out hp
    injection e with e1
    exact ⟨g, o, e1⟩)
  have HL : Hid (∀ (j : Nat) (q : Ask), l[j]? = some q → j < l.length) := hid (fun j q hj => (List.getElem?_eq_some_iff.1 hj).1)
  clear hY k0
  generalize hnn : l.length = n at *
  go_enter Try.func43, Try.ntmps43
  go_wp2_with fail
  clear hw0 hYY
  go_loopw [8] (fun j wr => ∃ k : Nat, k ≤ n ∧ j = .int .i64 (k : Int) ∧ Hid (∀ (j : Nat) (q : Ask), j < k → l[j]? = some q → sameA a q = false) ∧ Hid (Kept w0 wr)) (fun j _ => n - (intOf j).toNat)
  case atStart => exact ⟨0, Nat.zero_le _, rfl, hid (fun j q hj => by omega), hid (kept_refl _)⟩
  case round =>
    obtain ⟨k, hk, rfl, HN, HK⟩ := hrel
    by_cases hlt : k < n
    · have hltz : (k : Int) < (n : Int) := by omega
      obtain ⟨y, hy⟩ := HG.out k hlt
      obtain ⟨g1, o, rfl⟩ := HQ.out (by omega)
      obtain ⟨c0, c1⟩ := rg_A (rg_kept encA_ok HR.out HK.out) hy
      have d0 : wr.cell? ⟨Y, 0, none⟩ = some (.int .u8 a.helper) := at_cell (at_kept HY.out HK.out) 0
      have d1 : wr.cell? ⟨Y, 1, none⟩ = some (.int .u8 a.target) := at_cell (at_kept HY.out HK.out) 1
      have heq := eq_A a y
      have HYy := hid hy
      clear hy
      cases hb : sameA a y with
      | false =>
        rw [hb] at heq
        have HB := hid hb
        clear hb
        go_wp2_with fail
        go_quiet (fail)
        go_wp2_with fail
        go_roundw
        case rel =>
          refine ⟨k + 1, by omega, by go_num, hid (fun j q h1 h2 => ?_), hid (kept_drewN HK.out _)⟩
          by_cases e : j = k
          · subst e
            rw [HYy.out] at h2
            injection h2 with h2
            rw [← h2]; exact HB.out
          · exact HN.out j q (by omega) h2
        case measure => simp [intOf]; omega
      | true =>
        rw [hb] at heq
        have HB := hid hb
        clear hb
        go_wp2_with fail
        go_quiet (fail)
        go_wp2_with fail
        go_ret
        exact ⟨_, rfl, .inr ⟨k, y, rfl, HYy.out, HB.out⟩, kept_trans HK0.out (kept_drewN HK.out _)⟩
    · have hltz : ¬ (k : Int) < (n : Int) := by omega
      go_wp2_with fail
      go_ret
      exact ⟨_, rfl, .inl ⟨rfl, fun j q hj => HN.out j q (by have := HL.out j q hj; omega) hj⟩, kept_trans HK0.out HK.out⟩
def anyA (l : List Ask) (a : Ask) : Bool := l.any (sameA a)
theorem contains_any (a : Ask) {l : List Ask} (hl : l.length ≤ 1000) (v : Value) (w : World) (h : Rg encA 2 w v l) : Calls Try.prog 35 #[v, .agg #[.int .u8 a.helper, .int .u8 a.target]] w fun e w' => e = .returned (.bool (anyA l a)) ∧ Kept w w' := by
  have k0 := kept_alloc (kept_refl w) (.cells #[.int .u8 a.helper, .int .u8 a.target] 80)
  have hY := at_new w #[.int .u8 a.helper, .int .u8 a.target] 80
  obtain ⟨w0, hw0⟩ : ∃ u, w.alloc (.cells #[.int .u8 a.helper, .int .u8 a.target] 80) = u := ⟨_, rfl⟩
  rw [hw0] at k0 hY
  have d0 : w0.cell? ⟨w.heap.size, 0, none⟩ = some (.int .u8 a.helper) := at_cell hY 0
  have d1 : w0.cell? ⟨w.heap.size, 1, none⟩ = some (.int .u8 a.target) := at_cell hY 1
  have hC := idxa_any a hl v w0 (rg_kept encA_ok h k0)
  have HK := hid k0
  obtain ⟨b, cap, rfl, -, -, -, -⟩ := h
  clear k0 hY hl
  go_enter Try.func35, Try.ntmps35
  go_wp2_with fail
  refine hC.mono ?_
  rintro e w1 ⟨z, rfl, hz, k1⟩
  have HK1 := hid (kept_trans HK.out k1)
  clear hC k1
  rcases hz with ⟨rfl, hz⟩ | ⟨i, q, rfl, hq, hz⟩
  · have hb : anyA l a = false := by
      unfold anyA
      rw [List.any_eq_false]
      intro x hx
      obtain ⟨j, hj⟩ := List.mem_iff_getElem?.1 hx
      rw [hz j x hj]
      simp
    have HB := hid hb
    clear hz hb
    go_wp2_with fail
    go_ret
    exact ⟨says_bool (by simp [HB.out]), HK1.out⟩
  · have hb : anyA l a = true := by
      unfold anyA
      rw [List.any_eq_true]
      exact ⟨q, List.mem_of_getElem? hq, hz⟩
    have HB := hid hb
    clear hz hb hq
    go_wp2_with fail
    go_ret
    exact ⟨says_bool (by simp [HB.out]), HK1.out⟩
/- The asks, plainly. -/
def mkA (t : Int) (l : List Int) : List Ask := l.map (fun h => ⟨h, t⟩)
theorem mkA_len (t : Int) (l : List Int) : (mkA t l).length = l.length := by unfold mkA; rw [List.length_map]
theorem anyA_mk (t h : Int) : ∀ l : List Int, anyA (mkA t l) ⟨h, t⟩ = decide (h ∈ l)
  | [] => by simp [anyA, mkA]
  | x :: l => by
    have ih := anyA_mk t h l
    unfold anyA mkA at ih ⊢
    rw [List.map_cons, List.any_cons, ih]
    unfold sameA
    by_cases e : h = x
    · simp [e]
    · simp [e]
theorem fold_full {self : Int} {n : Nat} {target : Int} : ∀ (l : List Int) {out : List Int}, out.length = 2 → l.foldl (stepH self n target) out = out
  | [], out, h => rfl
  | x :: l, out, h => by
    have e : stepH self n target out x = out := by
      unfold stepH
      rw [if_pos (by unfold badH; simp [h])]
    rw [List.foldl_cons, e]
    exact fold_full l h
theorem step_bad {self : Int} {n : Nat} {target h : Int} {out : List Int} (hb : h = target ∨ h = self ∨ (n : Int) ≤ h ∨ (out.length < 2 ∧ h ∈ out)) : stepH self n target out h = out := by
  unfold stepH
  rw [if_pos]
  unfold badH
  rcases hb with e | e | e | ⟨e, e2⟩
  · simp [e]
  · simp [e]
  · simp [e]
  · match out, e, e2 with
    | [y], _, e2 =>
      simp at e2
      simp [e2]
    | [], _, e2 => simp at e2
theorem step_good {self : Int} {n : Nat} {target h : Int} {out : List Int} (h1 : h ≠ target) (h2 : h ≠ self) (h3 : ¬ (n : Int) ≤ h) (h4 : out.length < 2) (h5 : h ∉ out) : stepH self n target out h = out ++ [h] := by
  unfold stepH
  rw [if_neg]
  unfold badH
  match out, h4, h5 with
  | [], _, _ => simp [h1, h2]; omega
  | [y], _, h5 =>
    have : ¬ y = h := fun e => h5 (by simp [e])
    simp [h1, h2, this]
    omega
theorem round_at {x : Int} (hx : 0 ≤ x) {l : List Int} {k : Nat} (hk : k < l.length) : (roundH x l)[k]? = l[(fromH x l + k) % l.length]? := by
  have hf : fromH x l < l.length := by
    have h1 := Int.emod_nonneg x (show (l.length : Int) ≠ 0 by omega)
    have h2 := Int.emod_lt_of_pos x (show (0 : Int) < (l.length : Int) by omega)
    unfold fromH
    omega
  unfold roundH
  have hd : (l.drop (fromH x l)).length = l.length - fromH x l := List.length_drop
  generalize fromH x l = f at *
  by_cases h : k < l.length - f
  · rw [List.getElem?_append_left (by omega), List.getElem?_drop, Nat.mod_eq_of_lt (by omega)]
  · rw [List.getElem?_append_right (by omega), hd, List.getElem?_take, if_pos (by omega)]
    congr 1
    have : f + k = (k - (l.length - f)) + l.length := by omega
    rw [this, Nat.add_mod_right, Nat.mod_eq_of_lt (by omega)]
set_option maxHeartbeats 12800000 in
theorem asks_any {X : Nat} {self place : Int} {rv wv : Value} {row : List Int} (target : Int) (x : Int) (hx : 0 ≤ x) (hx2 : x < 18446744073709551616) (l : List Int) (hu : U8 l) (hl : l.length ≤ 100) (hv : Value) (w : World) (hX : At w X #[.int .u8 self, rv, .int .i64 place, wv] 78) (hR : Rg encU 1 w rv row) (hr : Rg encU 1 w hv l) : Calls Try.prog 26 #[.pointer (some ⟨X, 0, none⟩), .int .u8 target, .int .u64 x, hv] w (GRowC encA 2 80 (mkA target (twoH self (row.length + 1) x l target)) w) := by
  have HX := hid hX
  have HR := hid hR
  have HL := hid hr
  obtain ⟨b, cb, rfl, hb1, hb2, -, -⟩ := hr
  unfold maxLen at hb2
  obtain ⟨n, hn⟩ : ∃ n, row.length + 1 = n := ⟨_, rfl⟩
  rw [hn]
  have HE : Hid (l.length ≠ 0 → (roundH x l).foldl (stepH self n target) [] = twoH self n x l target) := hid (fun h => by unfold twoH; rw [if_neg h])
  have HE0 : Hid (l.length = 0 → twoH self n x l target = []) := hid (fun h => by unfold twoH; rw [if_pos h])
  have HRl : Hid ((roundH x l).length = l.length) := hid (by unfold roundH; rw [List.length_append, List.length_drop, List.length_take]; omega)
  have HAt : Hid (∀ k, k < l.length → ∃ y j, (roundH x l)[k]? = some y ∧ l[j]? = some y ∧ j = (fromH x l + k) % l.length ∧ (0 ≤ y ∧ y < 256) ∧ fromH x l < l.length ∧ Int.tmod x (l.length : Int) = (fromH x l : Int)) := hid (fun k hk => by
    have hj : (fromH x l + k) % l.length < l.length := Nat.mod_lt _ (by omega)
    have e := round_at hx hk
    rw [List.getElem?_eq_getElem hj] at e
    have h1 := Int.emod_nonneg x (show (l.length : Int) ≠ 0 by omega)
    have h2 := Int.emod_lt_of_pos x (show (0 : Int) < (l.length : Int) by omega)
    refine ⟨_, _, e, List.getElem?_eq_getElem hj, rfl, hu _ (List.getElem_mem hj), by unfold fromH; omega, ?_⟩
    rw [Int.tmod_eq_emod_of_nonneg hx]
    unfold fromH
    omega)
  have HP : Hid (0 < l.length → ∃ g o, b = some ⟨g, o, none⟩) := hid (fun hp => by
    obtain ⟨g, o, c, e⟩ := rg_pos HL.out hp
    injection e with e1
    exact ⟨g, o, e1⟩)
  have HK0 : Hid (w.heap.size ≤ w.heap.size) := hid (Nat.le_refl _)
  obtain ⟨rl, hrl⟩ : ∃ rl, roundH x l = rl := ⟨_, rfl⟩
  obtain ⟨f, hf⟩ : ∃ f, fromH x l = f := ⟨_, rfl⟩
  rw [hrl] at HE HRl
  simp only [hrl, hf] at HAt
  have HTT : Hid (rl.take rl.length = rl) := hid List.take_length
  have HGRR : Hid (∀ v u xs, xs = twoH self n x l target → Og encA 2 80 u w.heap.size v (mkA target xs) → Kept w u → GRowC encA 2 80 (mkA target (twoH self n x l target)) w (.returned v) u) := hid (fun v u xs e h k => ⟨v, rfl, by rw [← e]; exact h, k⟩)
  have HNR := hid hn
  have hz := zeroA
  have HLc : Hid (l.length = rl.length) := hid HRl.out.symm
  clear hX hR hrl hf hu hb1 hb2 hn
  generalize hmm : l.length = m at *
  clear hmm
  go_enter Try.func26, Try.ntmps26
  go_wp2_with fail
  go_loopw [9, 15] (fun av j wr => ∃ k : Nat, k ≤ m ∧ j = .int .i64 (k : Int) ∧ Hid (Og encA 2 80 wr w.heap.size av (mkA target ((rl.take k).foldl (stepH self n target) []))) ∧ Hid (Kept w wr)) (fun _ j _ => m - (intOf j).toNat)
  case atStart => exact ⟨0, Nat.zero_le _, rfl, hid (og_nil _ _ _ _ _), hid (kept_refl w)⟩
  case round =>
    obtain ⟨k, hk, rfl, HO, HK⟩ := hrel
    by_cases hlt : k < m
    · have hltz : (k : Int) < (m : Int) := by omega
      obtain ⟨y, j, hy, hyl, hj, hyb, hfm, hft⟩ := HAt.out k hlt
      have HNx := hid (fold_next (self := self) (n := n) (target := target) hy)
      have HL2 : Hid (((rl.take k).foldl (stepH self n target) []).length ≤ 2) := hid (fold_len _ _ (by simp))
      have HFull : Hid (((rl.take k).foldl (stepH self n target) []).length = 2 → (rl.take k).foldl (stepH self n target) [] = twoH self n x l target) := hid (fun h => by
        rw [← HE.out (by omega)]
        conv => rhs; rw [← List.take_append_drop k rl, List.foldl_append]
        rw [fold_full _ h])
      generalize (rl.take k).foldl (stepH self n target) [] = out at *
      have HOl : Hid ((mkA target out).length = out.length) := hid (mkA_len _ _)
      obtain ⟨oa, oc, hav, -, -⟩ := og_is encA_ok HO.out
      rw [HOl.out] at hav
      subst hav
      by_cases e2 : out.length = 2
      · have b2 : ((out.length : Int) == 2) = true := by rw [beq_iff_eq]; omega
        have HF := hid (HFull.out e2)
        clear e2 hy hyl hj hft
        go_wp2_with fail
        go_ret
        exact HGRR.out _ _ _ HF.out HO.out HK.out
      · have b2 : ((out.length : Int) == 2) = false := beq_eq_false_iff_ne.2 (by omega)
        have h2 : Hid (out.length < 2) := hid (by have := HL2.out; omega)
        obtain ⟨g9, o9, rfl⟩ := HP.out (by omega)
        have c0 := rg_U (rg_kept encU_ok HL.out HK.out) hyl
        have hm0 : ¬ ((m : Int) = 0) := by omega
        have w1 : IntKind.u64.wrap (m : Int) = (m : Int) := by rw [IntKind.wrap_u64]; omega
        have w2 : IntKind.u64.wrap (k : Int) = (k : Int) := by rw [IntKind.wrap_u64]; omega
        have w3 : IntKind.u64.wrap ((f : Int) + (k : Int)) = (f : Int) + (k : Int) := by rw [IntKind.wrap_u64]; omega
        have hfj : Int.tmod ((f : Int) + (k : Int)) (m : Int) = (j : Int) := by
          rw [Int.tmod_eq_emod_of_nonneg (by omega), hj]
          simp
        have w4 : IntKind.u64.wrap (j : Int) = (j : Int) := by rw [IntKind.wrap_u64]; have := Nat.mod_lt (f + k) (show 0 < m by omega); omega
        have w5 : IntKind.u64.wrap (f : Int) = (f : Int) := by rw [IntKind.wrap_u64]; omega
        have w6 : IntKind.i64.wrap (j : Int) = (j : Int) := IntWalk.i64_in _ (by have := Nat.mod_lt (f + k) (show 0 < m by omega); omega)
        have hjm : (j : Int) < (m : Int) := by have := Nat.mod_lt (f + k) (show 0 < m by omega); omega
        have HKa := hid (kept_alloc (kept_refl wr) (.cells #[.int .u8 y, .int .u8 target] 80))
        have hXa := at_kept HX.out (kept_trans HK.out HKa.out)
        have hRa := rg_kept encU_ok HR.out (kept_trans HK.out HKa.out)
        have HOa := hid (og_stays HO.out HKa.out)
        have hKn := knows_any y hyb.1 hyb.2 _ hXa hRa
        have HNR2 := HNR.out
        clear hy hyl hj
        by_cases e3 : y = target
        · have b3 : (y != target) = false := by simp [e3]
          have HX2 : Hid (stepH self n target out y = out) := hid (step_bad (.inl e3))
          clear e3 hKn hXa hRa HNR2
          go_wp2_with fail
          go_roundw
          case rel => exact ⟨k + 1, by omega, by go_num, hid (by rw [HNx.out, HX2.out]; exact HOa.out), hid (kept_trans HK.out HKa.out)⟩
          case measure => simp [intOf]; omega
        · have b3 : (y != target) = true := by simp [e3]
          cases hkn : (y != self && decide (y ≤ (row.length : Int))) with
          | false =>
            rw [hkn] at hKn
            have HX2 : Hid (stepH self n target out y = out) := hid (step_bad (by
              rw [Bool.and_eq_false_iff] at hkn
              rcases hkn with h | h
              · exact .inr (.inl (by simpa using h))
              · exact .inr (.inr (.inl (by simp at h; omega)))))
            clear e3 hXa hRa HNR2 hkn
            go_wp2_with (go_at_call 34; refine hKn.mono ?_; rintro e w9 ⟨rfl, rfl⟩)
            go_roundw
            case rel => exact ⟨k + 1, by omega, by go_num, hid (by rw [HNx.out, HX2.out]; exact HOa.out), hid (kept_trans HK.out HKa.out)⟩
            case measure => simp [intOf]; omega
          | true =>
            rw [hkn] at hKn
            have hCn := contains_any ⟨y, target⟩ (l := mkA target out) (by rw [HOl.out]; have := h2.out; omega) _ _ (rg_own encA_ok HOa.out)
            rw [Bool.and_eq_true] at hkn
            have HS : Hid (y ≠ self ∧ ¬ (n : Int) ≤ y) := hid ⟨by simpa using hkn.1, by have := hkn.2; simp at this; omega⟩
            rw [anyA_mk] at hCn
            cases hcn : decide (y ∈ out) with
            | true =>
              rw [hcn] at hCn
              have HX2 : Hid (stepH self n target out y = out) := hid (step_bad (.inr (.inr (.inr ⟨h2.out, by simpa using hcn⟩))))
              clear e3 hXa hRa HNR2 hkn hcn
              go_wp2_with (first | (go_at_call 34; refine hKn.mono ?_; rintro e w9 ⟨rfl, rfl⟩) | (go_at_call 35; refine hCn.mono ?_; rintro e w8 ⟨rfl, k8⟩))
              have HK8 := hid k8
              clear k8
              go_roundw
              case rel => exact ⟨k + 1, by omega, by go_num, hid (by rw [HNx.out, HX2.out]; exact og_stays HOa.out HK8.out), hid (kept_trans (kept_trans HK.out HKa.out) HK8.out)⟩
              case measure => simp [intOf]; omega
            | false =>
              rw [hcn] at hCn
              have HX2 : Hid (stepH self n target out y = out ++ [y]) := hid (step_good e3 HS.out.1 HS.out.2 h2.out (by simpa using hcn))
              have HMk : Hid (mkA target out ++ [⟨y, target⟩] = mkA target (out ++ [y])) := hid (by unfold mkA; rw [List.map_append]; rfl)
              have HBx := hid (at_new wr #[.int .u8 y, .int .u8 target] 80)
              clear e3 hXa hRa HNR2 hkn hcn
              go_wp2_with (first | (go_at_call 34; refine hKn.mono ?_; rintro e w9 ⟨rfl, rfl⟩) | (go_at_call 35; refine hCn.mono ?_; rintro e w8 ⟨rfl, k8⟩; have HO8 := hid (og_stays HOa.out k8); have HK8 := hid (kept_trans (kept_trans HK.out HKa.out) k8); have x0 := at_cell (at_kept HBx.out k8) 0; have x1 := at_cell (at_kept HBx.out k8) 1; simp only [List.getElem?_toArray, List.getElem?_cons_zero, List.getElem?_cons_succ] at x0 x1; have hKb := kept_alloc (kept_refl w8) (.cells #[.int .u8 y, .int .u8 target] 80); have HOb := hid (og_stays HO8.out hKb); have HKb := hid (kept_trans HK8.out hKb); have HAl := hid (rg_alone encA_ok (y := (⟨y, target⟩ : Ask)) (at_new w8 #[.int .u8 y, .int .u8 target] 80)); clear hKb k8) | (at_builtin; go_must (refine wpList_gapp rfl (.tmp 53) (.tmp 55) rfl encA_ok tyA (by decide) w.heap.size _ _ _ [⟨y, target⟩] (by rw [← HOl.out]; rfl) HOb.out rfl HAl.out (by rw [HOl.out]; have := h2.out; simp; omega) HKb.out.2 ?_; intro v3 w3 hown3 hgrow3 hnil3)))
              have HK3 := hid (kept_gr HKb.out hgrow3 (fun q hq => by have := og_lt HOb.out hq; omega))
              have HO3 := hid hown3
              clear hown3 hgrow3 hnil3
              go_roundw
              case rel => exact ⟨k + 1, by omega, by go_num, hid (by rw [HNx.out, HX2.out, ← HMk.out]; exact HO3.out), HK3⟩
              case measure => simp [intOf]; omega
    · have hltz : ¬ (k : Int) < (m : Int) := by omega
      have he : k = m := by omega
      have HF : Hid ((rl.take k).foldl (stepH self n target) [] = twoH self n x l target) := hid (by
        rw [he, HLc.out, HTT.out]
        by_cases h0 : m = 0
        · rw [HE0.out h0]
          have : rl = [] := List.eq_nil_of_length_eq_zero (by have := HLc.out; omega)
          rw [this]
          rfl
        · exact HE.out h0)
      clear he
      go_wp2_with fail
      go_ret
      exact HGRR.out _ _ _ HF.out HO.out HK.out
end Go.Proofs.Ytgmcjnhijgnadaa
