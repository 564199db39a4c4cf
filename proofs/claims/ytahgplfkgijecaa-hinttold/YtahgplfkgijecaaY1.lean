/- The landed contracts on stamps and on one record: which stands ahead, which may be. Each answers what the plain function does and turns nothing that was there. The library's comparisons, cmp.Or, and the landed comparison of two records. They turn nothing that was there. Sets of nodes in memory: 64 truths in one block (bv); the contracts of the landed weight, setOf and heaviest. The contracts of the landed heaviest and of its owners. The contract of the landed Owners. -/
import Derived.Test.YtahgplfkgijecaaHtMay
import Derived.Test.YtahgplfkgijecaaHtLaw4
import Derived.Lib.Strings
import Derived.Lib.Slices
import Derived.Lib.Walk
import Derived.Lib.Bytealg
import Derived.BigQuiet
import Derived.Deep.RegionHeld3
import Derived.Test.YtahgplfkgijecaaRgRef
import Derived.Test.YtahgplfkgijecaaGCopy
import Derived.Test.YtahgplfkgijecaaHtCut
import Derived.ChangeKeysEq

namespace Go.Proofs.Ytahgplfkgijecaa
open Go.ChangeShapes Go.WideShapes Go.ChangeAt Go.RowKit
set_option linter.unusedVariables false
set_option linter.unusedSimpArgs false
set_option maxRecDepth 100000

theorem bne_ne {a b : Int} (h : (a != b) = true) : a ≠ b := by simpa using h
theorem bne_eq {a b : Int} (h : (a != b) = false) : a = b := by simpa using h
theorem ahead_any (a b : Stp) (w : World) :
    Calls Try.prog 59 #[.agg #[.int .u64 a.p, .int .u32 a.l, .int .u8 a.n], .agg #[.int .u64 b.p, .int .u32 b.l, .int .u8 b.n]] w fun e w' => e = .returned (.bool (lt a b)) ∧ Kept w w' := by
  have HK : Hid (Kept w ((w.alloc (.cells #[.int .u64 a.p, .int .u32 a.l, .int .u8 a.n] 33)).alloc (.cells #[.int .u64 b.p, .int .u32 b.l, .int .u8 b.n] 33))) := kept_alloc (kept_alloc (kept_refl w) _) _
  by_cases h1 : a.p = b.p
  · by_cases h2 : a.l = b.l
    · have g1 : (a.p != b.p) = false := by simpa using h1
      have g2 : (a.l != b.l) = false := by simpa using h2
      have H : Hid (decide (a.n < b.n) = lt a b) := lt_third h1 h2
      clear h1 h2
      go_enter Try.func59, Try.ntmps59
      go_wp2
      go_ret
      exact ⟨ret_bool H.out, HK.out⟩
    · have g1 : (a.p != b.p) = false := by simpa using h1
      have g2 : (a.l != b.l) = true := by simpa using h2
      have H : Hid (decide (a.l < b.l) = lt a b) := lt_second h1 h2
      clear h1 h2
      go_enter Try.func59, Try.ntmps59
      go_wp2
      go_ret
      exact ⟨ret_bool H.out, HK.out⟩
  · have g1 : (a.p != b.p) = true := by simpa using h1
    have H : Hid (decide (a.p < b.p) = lt a b) := lt_first h1
    clear h1
    go_enter Try.func59, Try.ntmps59
    go_wp2
    go_ret
    exact ⟨ret_bool H.out, HK.out⟩
theorem compare_any (a b : Stp) (w : World) :
    Calls Try.prog 35 #[.agg #[.int .u64 a.p, .int .u32 a.l, .int .u8 a.n], .agg #[.int .u64 b.p, .int .u32 b.l, .int .u8 b.n]] w fun e w' => e = .returned (.int .i64 (cmp a b)) ∧ Kept w w' := by
  have HK : Hid (Kept w ((w.alloc (.cells #[.int .u64 a.p, .int .u32 a.l, .int .u8 a.n] 33)).alloc (.cells #[.int .u64 b.p, .int .u32 b.l, .int .u8 b.n] 33))) := kept_alloc (kept_alloc (kept_refl w) _) _
  have hE := eq_stamp a b
  by_cases h : a = b
  · have hs : same a b = true := (same_iff a b).2 h
    have hC : Hid (0 = cmp a b) := ((cmp_zero a b).2 h).symm
    clear h
    go_enter Try.func35, Try.ntmps35
    go_wp2_with fail
    go_ret
    exact ⟨ret_int hC.out, HK.out⟩
  · have hs : same a b = false := (same_false a b).2 h
    by_cases hl : Lt a b
    · have hC : Hid (-1 = cmp a b) := (cmp_lt hl).symm
      have hL : lt a b = true := (lt_iff a b).2 hl
      clear h hl
      go_enter Try.func35, Try.ntmps35
      go_wp2_with fail
      refine (ahead_any a b _).mono ?_
      rintro e w1 ⟨rfl, h1⟩
      have K1 := kept_trans HK.out h1
      go_wp2_with fail
      go_ret
      exact ⟨ret_int hC.out, K1⟩
    · have hC : Hid (1 = cmp a b) := (cmp_gt (Classical.byContradiction fun hn => h (lt_total hl hn))).symm
      have hL : lt a b = false := (lt_false a b).2 hl
      clear h hl
      go_enter Try.func35, Try.ntmps35
      go_wp2_with fail
      refine (ahead_any a b _).mono ?_
      rintro e w1 ⟨rfl, h1⟩
      have K1 := kept_trans HK.out h1
      go_wp2_with fail
      go_ret
      exact ⟨ret_int hC.out, K1⟩
set_option maxHeartbeats 1600000 in
theorem KeyMay_any (s : ByteArray) (hs : s.size ≤ maxLen) (w : World) :
    Calls Try.prog 46 #[.string s] w fun e w' => e = .returned (.bool (keyMay s)) ∧ w' = w := by
  unfold maxLen at hs
  by_cases h1 : (s.size : Int) < 1
  · have HE : Hid (false = keyMay s) := (key_short s (by omega)).symm
    go_enter Try.func46, Try.ntmps46
    go_wp2
    go_ret
    exact ⟨ret_bool HE.out, rfl⟩
  by_cases h2 : (250 : Int) < (s.size : Int)
  · have HE : Hid (false = keyMay s) := (key_long s (by omega)).symm
    go_enter Try.func46, Try.ntmps46
    go_wp2
    go_ret
    exact ⟨ret_bool HE.out, rfl⟩
  have H1 : Hid (1 ≤ s.size ∧ s.size ≤ 250) := ⟨by omega, by omega⟩
  have d1 : decide ((s.size : Int) < 1) = false := by simpa using h1
  have d2 : decide ((250 : Int) < (s.size : Int)) = false := by simpa using h2
  clear h1 h2
  go_enter Try.func46, Try.ntmps46
  go_wp2
  go_loop [3, 14] (fun i j => ∃ k : Nat, k ≤ s.size ∧ j = .int .i64 k ∧ Hid (∀ q (hq : q < s.size), q < k → good s[q] = true)) (fun _ j => s.size - (intOf j).toNat)
  case atStart => exact ⟨0, Nat.zero_le _, rfl, fun q _ hq => absurd hq (by omega)⟩
  case round =>
    obtain ⟨k, hk, rfl, HG⟩ := hrel
    by_cases hlt : k < s.size
    · by_cases c1 : (s[k].toNat : Int) ≤ 32
      · have HE : Hid (false = keyMay s) := (key_bad s k hlt (good_low _ c1)).symm
        go_wp2
        go_ret
        exact ⟨ret_bool HE.out, rfl⟩
      · by_cases c2 : (s[k].toNat : Int) = 127
        · have HE : Hid (false = keyMay s) := (key_bad s k hlt (good_del _ c2)).symm
          go_wp2
          go_ret
          exact ⟨ret_bool HE.out, rfl⟩
        · have HN : Hid (∀ q (hq : q < s.size), q < k + 1 → good s[q] = true) := fun q hq hl => by
            rcases (show q < k ∨ q = k by omega) with h | rfl
            · exact HG.out q hq h
            · exact good_not _ c1 c2
          go_wp2
          go_round
          case rel => exact ⟨k + 1, by omega, by go_num, HN⟩
          case measure => simp [intOf]; omega
    · have HE : Hid (true = keyMay s) := (key_good s H1.out.1 H1.out.2 (fun q hq => HG.out q hq (by omega))).symm
      go_wp2
      go_ret
      exact ⟨ret_bool HE.out, rfl⟩
theorem stampMay_any (s : Stp) (w : World) :
    Calls Try.prog 47 #[.agg #[.int .u64 s.p, .int .u32 s.l, .int .u8 s.n]] w fun e w' => e = .returned (.bool (stampMay s)) ∧ Kept w w' := by
  have HK : Hid (Kept w (w.alloc (.cells #[.int .u64 s.p, .int .u32 s.l, .int .u8 s.n] 33))) := kept_alloc (kept_refl w) _
  by_cases h1 : s.p ≤ 281474976710655
  · have HE : Hid (decide (s.n < 64) = stampMay s) := by show _ = _; unfold stampMay; simp [h1]
    go_enter Try.func47, Try.ntmps47
    go_wp2
    go_ret
    exact ⟨ret_bool HE.out, HK.out⟩
  · have HE : Hid (false = stampMay s) := by show _ = _; unfold stampMay; simp [h1]
    go_enter Try.func47, Try.ntmps47
    go_wp2
    go_ret
    exact ⟨ret_bool HE.out, HK.out⟩
set_option maxHeartbeats 1600000 in
theorem contentMay_any (r : R) (hb : r.body.size ≤ maxLen) (w : World) :
    Calls Try.prog 48 #[.agg #[.string r.key, .int .u64 r.s.p, .int .u32 r.s.l, .int .u8 r.s.n, .int .u8 r.kind, .int .u32 r.flags, .int .u64 r.exp, .string r.body]] w fun e w' => e = .returned (.bool (contentMay r)) ∧ Kept w w' := by
  have HK : Hid (Kept w (w.alloc (.cells #[.string r.key, .int .u64 r.s.p, .int .u32 r.s.l, .int .u8 r.s.n, .int .u8 r.kind, .int .u32 r.flags, .int .u64 r.exp, .string r.body] 35))) := kept_alloc (kept_refl w) _
  unfold maxLen at hb
  by_cases k1 : r.kind = 1 ∨ r.kind = 2
  · have k3 : (r.kind == 1) = true ∨ ((r.kind == 1) = false ∧ (r.kind == 2) = true) := by
      rcases k1 with h | h <;> simp [h]
    have HE : Hid (contentMay r = (decide (r.flags = 0) && (decide (r.exp = 0) && decide (r.body.size = 0)))) := by
      show _ = _
      unfold contentMay; rw [if_pos k1]
    clear k1
    rcases k3 with k1 | ⟨k1, k2⟩
    all_goals
      by_cases f1 : r.flags = 0
      · have g1 : (r.flags == 0) = true := by simpa using f1
        by_cases f2 : r.exp = 0
        · have g2 : (r.exp == 0) = true := by simpa using f2
          have HE2 : Hid (r.body.toList.isEmpty = contentMay r) := by
            show _ = _
            rw [HE.out, empty_iff, f1, f2]; simp
          clear f1 f2 HE
          go_enter Try.func48, Try.ntmps48
          go_wp2
          go_ret
          exact ⟨ret_bool HE2.out, HK.out⟩
        · have g2 : (r.exp == 0) = false := by simpa using f2
          have HE2 : Hid (false = contentMay r) := by
            show _ = _
            rw [HE.out, decide_eq_false f2]; simp
          clear f1 f2 HE
          go_enter Try.func48, Try.ntmps48
          go_wp2
          go_ret
          exact ⟨ret_bool HE2.out, HK.out⟩
      · have g1 : (r.flags == 0) = false := by simpa using f1
        have HE2 : Hid (false = contentMay r) := by
          show _ = _
          rw [HE.out, decide_eq_false f1]; simp
        clear f1 HE
        go_enter Try.func48, Try.ntmps48
        go_wp2
        go_ret
        exact ⟨ret_bool HE2.out, HK.out⟩
  · have g1 : (r.kind == 1) = false := by simp; omega
    have g2 : (r.kind == 2) = false := by simp; omega
    by_cases k3 : r.kind = 3
    · have g3 : (r.kind == 3) = true := by simpa using k3
      have HE : Hid (contentMay r = (decide (r.exp ≤ 281474976710655) && decide (r.body.size ≤ 1024))) := by
        show _ = _
        unfold contentMay; rw [if_neg k1, if_pos k3]
      clear k1 k3
      by_cases f1 : r.exp ≤ 281474976710655
      · have HE2 : Hid (decide ((r.body.size : Int) ≤ 1024) = contentMay r) := by
          show _ = _
          rw [HE.out, decide_eq_true f1, Bool.true_and]
          rw [Bool.eq_iff_iff, decide_eq_true_iff, decide_eq_true_iff]; omega
        clear HE
        go_enter Try.func48, Try.ntmps48
        go_wp2
        go_ret
        exact ⟨ret_bool HE2.out, HK.out⟩
      · have HE2 : Hid (false = contentMay r) := by
          show _ = _
          rw [HE.out, decide_eq_false f1]; simp
        clear HE
        go_enter Try.func48, Try.ntmps48
        go_wp2
        go_ret
        exact ⟨ret_bool HE2.out, HK.out⟩
    · have g3 : (r.kind == 3) = false := by simpa using k3
      have HE2 : Hid (false = contentMay r) := by
        show _ = _
        unfold contentMay; rw [if_neg k1, if_neg k3]
      clear k1 k3
      go_enter Try.func48, Try.ntmps48
      go_wp2
      go_ret
      exact ⟨ret_bool HE2.out, HK.out⟩
set_option maxHeartbeats 1600000 in
theorem May_any (r : R) (hk : r.key.size ≤ maxLen) (hb : r.body.size ≤ maxLen) (w : World) :
    Calls Try.prog 30 #[.agg #[.string r.key, .int .u64 r.s.p, .int .u32 r.s.l, .int .u8 r.s.n, .int .u8 r.kind, .int .u32 r.flags, .int .u64 r.exp, .string r.body]] w fun e w' => e = .returned (.bool (mayR r)) ∧ Kept w w' := by
  have HK : Hid (Kept w (w.alloc (.cells #[.string r.key, .int .u64 r.s.p, .int .u32 r.s.l, .int .u8 r.s.n, .int .u8 r.kind, .int .u32 r.flags, .int .u64 r.exp, .string r.body] 35))) := kept_alloc (kept_refl w) _
  have A1 : Hid (At (w.alloc (.cells #[.string r.key, .int .u64 r.s.p, .int .u32 r.s.l, .int .u8 r.s.n, .int .u8 r.kind, .int .u32 r.flags, .int .u64 r.exp, .string r.body] 35)) w.heap.size #[.string r.key, .int .u64 r.s.p, .int .u32 r.s.l, .int .u8 r.s.n, .int .u8 r.kind, .int .u32 r.flags, .int .u64 r.exp, .string r.body] 35) := at_new w _ _
  cases h1 : keyMay r.key with
  | false =>
    have HE : Hid (false = mayR r) := by show _ = _; unfold mayR; rw [h1]; rfl
    go_enter Try.func30, Try.ntmps30
    go_wp2_with fail
    refine (KeyMay_any r.key hk _).mono ?_
    rintro e w1 ⟨rfl, rfl⟩
    rw [h1]
    go_wp2_with fail
    go_ret
    exact ⟨ret_bool HE.out, HK.out⟩
  | true =>
    cases h2 : stampMay r.s with
    | false =>
      have HE : Hid (false = mayR r) := by show _ = _; unfold mayR; rw [h1, h2]; rfl
      go_enter Try.func30, Try.ntmps30
      go_wp2_with fail
      refine (KeyMay_any r.key hk _).mono ?_
      rintro e w1 ⟨rfl, rfl⟩
      rw [h1]
      go_wp2_with fail
      refine (stampMay_any r.s _).mono ?_
      rintro e w2 ⟨rfl, k2⟩
      rw [h2]
      have K2 := kept_trans HK.out k2
      clear k2
      go_wp2_with fail
      go_ret
      exact ⟨ret_bool HE.out, K2⟩
    | true =>
      have HE : Hid (contentMay r = mayR r) := by show _ = _; unfold mayR; rw [h1, h2]; rfl
      go_enter Try.func30, Try.ntmps30
      go_wp2_with fail
      refine (KeyMay_any r.key hk _).mono ?_
      rintro e w1 ⟨rfl, rfl⟩
      rw [h1]
      go_wp2_with fail
      refine (stampMay_any r.s _).mono ?_
      rintro e w2 ⟨rfl, k2⟩
      rw [h2]
      have K2 := kept_trans HK.out k2
      obtain ⟨c0, c1, c2, c3, c4, c5, c6, c7⟩ := at_cells8' (at_kept A1.out k2)
      clear k2
      go_wp2_with fail
      refine (contentMay_any r hb _).mono ?_
      rintro e w3 ⟨rfl, k3⟩
      have K3 := kept_trans K2 k3
      clear k3 c0 c1 c2 c3 c4 c5 c6 c7
      go_wp2_with fail
      go_ret
      exact ⟨ret_bool HE.out, K3⟩
end Go.Proofs.Ytahgplfkgijecaa


namespace Go.Proofs.Ytahgplfkgijecaa
open Go.ChangeShapes Go.WideShapes Go.ChangeAt Go.RowKit
set_option linter.unusedVariables false
set_option linter.unusedSimpArgs false
set_option maxRecDepth 100000

theorem nan8 (a : Int) (w : World) : Calls Try.prog 66 #[.int .u8 a] w fun e w' => e = .returned (.bool false) ∧ w' = w := by
  go_enter Try.func66, Try.ntmps66
  go_wp2
  go_ret
  exact ⟨by simp, rfl⟩
theorem nan32 (a : Int) (w : World) : Calls Try.prog 67 #[.int .u32 a] w fun e w' => e = .returned (.bool false) ∧ w' = w := by
  go_enter Try.func67, Try.ntmps67
  go_wp2
  go_ret
  exact ⟨by simp, rfl⟩
theorem nan64 (a : Int) (w : World) : Calls Try.prog 68 #[.int .u64 a] w fun e w' => e = .returned (.bool false) ∧ w' = w := by
  go_enter Try.func68, Try.ntmps68
  go_wp2
  go_ret
  exact ⟨by simp, rfl⟩
theorem cmp8 (a b : Int) (w : World) : Calls Try.prog 53 #[.int .u8 a, .int .u8 b] w fun e w' => e = .returned (.int .i64 (cmpI a b)) ∧ w' = w := by
  rcases cmpI_cases a b with ⟨h, e⟩ | ⟨h, e⟩ | ⟨h, e⟩
  all_goals
    rw [e]
    clear e
    have h1 : decide (a < b) = decide (a < b) := rfl
    go_enter Try.func53, Try.ntmps53
    go_wp2_with (go_at_call 66; refine (nan8 _ _).mono ?_; rintro e w' ⟨rfl, rfl⟩)
    go_ret
    exact ⟨rfl, rfl⟩
theorem cmp32 (a b : Int) (w : World) : Calls Try.prog 54 #[.int .u32 a, .int .u32 b] w fun e w' => e = .returned (.int .i64 (cmpI a b)) ∧ w' = w := by
  rcases cmpI_cases a b with ⟨h, e⟩ | ⟨h, e⟩ | ⟨h, e⟩
  all_goals
    rw [e]
    clear e
    go_enter Try.func54, Try.ntmps54
    go_wp2_with (go_at_call 67; refine (nan32 _ _).mono ?_; rintro e w' ⟨rfl, rfl⟩)
    go_ret
    exact ⟨rfl, rfl⟩
theorem cmp64 (a b : Int) (w : World) : Calls Try.prog 55 #[.int .u64 a, .int .u64 b] w fun e w' => e = .returned (.int .i64 (cmpI a b)) ∧ w' = w := by
  rcases cmpI_cases a b with ⟨h, e⟩ | ⟨h, e⟩ | ⟨h, e⟩
  all_goals
    rw [e]
    clear e
    go_enter Try.func55, Try.ntmps55
    go_wp2_with (go_at_call 68; refine (nan64 _ _).mono ?_; rintro e w' ⟨rfl, rfl⟩)
    go_ret
    exact ⟨rfl, rfl⟩
set_option maxHeartbeats 1000000 in
set_option maxRecDepth 100000 in
theorem cmpInner (a b : ByteArray) (w : World) : Calls Try.prog 65 #[.string a, .string b] w fun e w' => e = .returned (.int .i64 (cmpB a b)) ∧ w' = w := by
  unfold cmpB
  go_enter Try.func65, Try.ntmps65
  go_wp2
  rw [run_callFunc_extern Try.func75 (by kernel_rfl) (by kernel_rfl) (by kernel_rfl) (e := Extern.BytealgCompare.compare) (by kernel_rfl), Lib.run_compareString]
  simp only [Result.andThen]
  rw [Oper.upon_value]
  go_wp2
  go_ret
  exact ⟨rfl, rfl⟩
theorem cmpText (a b : ByteArray) (w : World) : Calls Try.prog 51 #[.string a, .string b] w fun e w' => e = .returned (.int .i64 (cmpB a b)) ∧ w' = w := by
  go_enter Try.func51, Try.ntmps51
  go_wp2_with (go_at_call 65; refine (cmpInner _ _ _).mono ?_; rintro e w' ⟨rfl, rfl⟩)
  go_ret
  exact ⟨rfl, rfl⟩
/- The first that isn't 0. -/
def firstI : List Int → Int
  | [] => 0
  | x :: l => orI x (firstI l)
theorem first_drop (l : List Int) (k : Nat) (hk : k < l.length) : firstI (l.drop k) = orI l[k] (firstI (l.drop (k + 1))) := by
  rw [List.drop_eq_getElem_cons hk]; rfl
set_option maxHeartbeats 1600000 in
theorem or_any (l : List Int) (X : Nat) (w : World) (hl : l.length ≤ 5) (hc : ∀ k (hk : k < l.length), w.cell? ⟨X, k, none⟩ = some (.int .i64 l[k])) :
    Calls Try.prog 52 #[.slice (some ⟨X, 0, none⟩) l.length l.length] w fun e w' => e = .returned (.int .i64 (firstI l)) ∧ w' = w := by
  have HC : Hid (∀ k (hk : k < l.length), w.cell? ⟨X, k, none⟩ = some (.int .i64 l[k])) := hc
  clear hc
  obtain ⟨n, hn⟩ : ∃ n, n = l.length := ⟨_, rfl⟩
  have HL : Hid (l.length = n) := hn.symm
  rw [← hn] at hl ⊢
  clear hn
  go_enter Try.func52, Try.ntmps52
  go_wp2
  go_loop [5, 8] (fun i j => ∃ k : Nat, k ≤ n ∧ j = .int .i64 k ∧ Hid (firstI (l.drop k) = firstI l)) (fun _ j => n - (intOf j).toNat)
  case atStart => exact ⟨0, Nat.zero_le _, rfl, rfl⟩
  case round =>
    obtain ⟨k, hk, rfl, HF⟩ := hrel
    by_cases hlt : k < n
    · have hk' : k < l.length := by rw [HL.out]; exact hlt
      have hcell := HC.out k hk'
      have HN := first_drop l k hk'
      rw [HF.out] at HN
      have HN2 : Hid (firstI l = orI l[k] (firstI (l.drop (k + 1)))) := HN
      clear HN
      generalize l[k] = x at *
      by_cases hx : x = 0
      · have hx' : (x != 0) = false := by simpa using hx
        have HR : Hid (firstI (l.drop (k + 1)) = firstI l) := by show _ = _; rw [HN2.out, hx]; rfl
        clear hx
        go_wp2
        go_round
        case rel => exact ⟨k + 1, by omega, by go_num, HR⟩
        case measure => simp [intOf]; omega
      · have hx' : (x != 0) = true := by simpa using hx
        have HR : Hid (x = firstI l) := by show _ = _; rw [HN2.out]; unfold orI; rw [if_neg hx]
        clear hx
        go_wp2
        go_ret
        exact ⟨ret_int HR.out, rfl⟩
    · have HR : Hid (0 = firstI l) := by
        show _ = _
        have := HF.out
        rw [List.drop_of_length_le (by rw [HL.out]; omega)] at this
        exact this
      go_wp2
      go_ret
      exact ⟨ret_int HR.out, rfl⟩
theorem held16 {X Y T : Nat} {a b : R} {w0 w1 : World} (A0 : At w0 X #[.string a.key, .int .u64 a.s.p, .int .u32 a.s.l, .int .u8 a.s.n, .int .u8 a.kind, .int .u32 a.flags, .int .u64 a.exp, .string a.body] T) (B0 : At w0 Y #[.string b.key, .int .u64 b.s.p, .int .u32 b.s.l, .int .u8 b.s.n, .int .u8 b.kind, .int .u32 b.flags, .int .u64 b.exp, .string b.body] T) (k : Kept w0 w1) : (w1.cell? ⟨X, 0, none⟩ = some (.string a.key) ∧ w1.cell? ⟨X, 1, none⟩ = some (.int .u64 a.s.p) ∧ w1.cell? ⟨X, 2, none⟩ = some (.int .u32 a.s.l) ∧ w1.cell? ⟨X, 3, none⟩ = some (.int .u8 a.s.n) ∧ w1.cell? ⟨X, 4, none⟩ = some (.int .u8 a.kind) ∧ w1.cell? ⟨X, 5, none⟩ = some (.int .u32 a.flags) ∧ w1.cell? ⟨X, 6, none⟩ = some (.int .u64 a.exp) ∧ w1.cell? ⟨X, 7, none⟩ = some (.string a.body)) ∧ (w1.cell? ⟨Y, 0, none⟩ = some (.string b.key) ∧ w1.cell? ⟨Y, 1, none⟩ = some (.int .u64 b.s.p) ∧ w1.cell? ⟨Y, 2, none⟩ = some (.int .u32 b.s.l) ∧ w1.cell? ⟨Y, 3, none⟩ = some (.int .u8 b.s.n) ∧ w1.cell? ⟨Y, 4, none⟩ = some (.int .u8 b.kind) ∧ w1.cell? ⟨Y, 5, none⟩ = some (.int .u32 b.flags) ∧ w1.cell? ⟨Y, 6, none⟩ = some (.int .u64 b.exp) ∧ w1.cell? ⟨Y, 7, none⟩ = some (.string b.body)) :=
  ⟨at_cells8' (at_kept A0 k), at_cells8' (at_kept B0 k)⟩
theorem or5 (x0 x1 x2 x3 x4 : Int) (Z : Nat) (w : World) (h : At w Z #[.int .i64 x0, .int .i64 x1, .int .i64 x2, .int .i64 x3, .int .i64 x4] 3) :
    Calls Try.prog 52 #[.slice (some ⟨Z, 0, none⟩) 5 5] w fun e w' => e = .returned (.int .i64 (orI x0 (orI x1 (orI x2 (orI x3 x4))))) ∧ w' = w := by
  have hc := at_cells5 h
  have := or_any [x0, x1, x2, x3, x4] Z w (by simp) (fun k hk => by
    match k, hk with
    | 0, _ => exact hc.1
    | 1, _ => exact hc.2.1
    | 2, _ => exact hc.2.2.1
    | 3, _ => exact hc.2.2.2.1
    | 4, _ => exact hc.2.2.2.2.1)
  have e : firstI [x0, x1, x2, x3, x4] = orI x0 (orI x1 (orI x2 (orI x3 x4))) := by
    have : orI x4 0 = x4 := by unfold orI; split <;> simp_all
    simp only [firstI, this]
  rw [e] at this
  exact this
set_option maxHeartbeats 1600000 in
set_option maxRecDepth 100000 in
theorem Compare_any (a b : R) (w : World) :
    Calls Try.prog 32 #[.agg #[.string a.key, .int .u64 a.s.p, .int .u32 a.s.l, .int .u8 a.s.n, .int .u8 a.kind, .int .u32 a.flags, .int .u64 a.exp, .string a.body], .agg #[.string b.key, .int .u64 b.s.p, .int .u32 b.s.l, .int .u8 b.s.n, .int .u8 b.kind, .int .u32 b.flags, .int .u64 b.exp, .string b.body]] w fun e w' => e = .returned (.int .i64 (cmpR a b)) ∧ Kept w w' := by
  have K0 := kept_alloc (kept_alloc (kept_refl w) (.cells #[.string a.key, .int .u64 a.s.p, .int .u32 a.s.l, .int .u8 a.s.n, .int .u8 a.kind, .int .u32 a.flags, .int .u64 a.exp, .string a.body] 35)) (.cells #[.string b.key, .int .u64 b.s.p, .int .u32 b.s.l, .int .u8 b.s.n, .int .u8 b.kind, .int .u32 b.flags, .int .u64 b.exp, .string b.body] 35)
  have A0 := at_alloc (at_new w #[.string a.key, .int .u64 a.s.p, .int .u32 a.s.l, .int .u8 a.s.n, .int .u8 a.kind, .int .u32 a.flags, .int .u64 a.exp, .string a.body] 35) (.cells #[.string b.key, .int .u64 b.s.p, .int .u32 b.s.l, .int .u8 b.s.n, .int .u8 b.kind, .int .u32 b.flags, .int .u64 b.exp, .string b.body] 35)
  have B0 := at_new (w.alloc (.cells #[.string a.key, .int .u64 a.s.p, .int .u32 a.s.l, .int .u8 a.s.n, .int .u8 a.kind, .int .u32 a.flags, .int .u64 a.exp, .string a.body] 35)) #[.string b.key, .int .u64 b.s.p, .int .u32 b.s.l, .int .u8 b.s.n, .int .u8 b.kind, .int .u32 b.flags, .int .u64 b.exp, .string b.body] 35
  simp only [World.size_alloc] at B0
  go_enter Try.func32, Try.ntmps32
  go_wp2_with fail
  generalize (w.alloc (.cells #[.string a.key, .int .u64 a.s.p, .int .u32 a.s.l, .int .u8 a.s.n, .int .u8 a.kind, .int .u32 a.flags, .int .u64 a.exp, .string a.body] 35)).alloc (.cells #[.string b.key, .int .u64 b.s.p, .int .u32 b.s.l, .int .u8 b.s.n, .int .u8 b.kind, .int .u32 b.flags, .int .u64 b.exp, .string b.body] 35) = w0 at *
  generalize w.heap.size = X at *
  generalize X + 1 = Y at *
  have k0 : Kept w0 w0.drew := kept_refl w0
  refine wp_region_noPanic ?_
  refine wp_region_held_drew (S := (fun w' => (w'.cell? ⟨X, 0, none⟩ = some (.string a.key) ∧ w'.cell? ⟨X, 1, none⟩ = some (.int .u64 a.s.p) ∧ w'.cell? ⟨X, 2, none⟩ = some (.int .u32 a.s.l) ∧ w'.cell? ⟨X, 3, none⟩ = some (.int .u8 a.s.n) ∧ w'.cell? ⟨X, 4, none⟩ = some (.int .u8 a.kind) ∧ w'.cell? ⟨X, 5, none⟩ = some (.int .u32 a.flags) ∧ w'.cell? ⟨X, 6, none⟩ = some (.int .u64 a.exp) ∧ w'.cell? ⟨X, 7, none⟩ = some (.string a.body)) ∧ (w'.cell? ⟨Y, 0, none⟩ = some (.string b.key) ∧ w'.cell? ⟨Y, 1, none⟩ = some (.int .u64 b.s.p) ∧ w'.cell? ⟨Y, 2, none⟩ = some (.int .u32 b.s.l) ∧ w'.cell? ⟨Y, 3, none⟩ = some (.int .u8 b.s.n) ∧ w'.cell? ⟨Y, 4, none⟩ = some (.int .u8 b.kind) ∧ w'.cell? ⟨Y, 5, none⟩ = some (.int .u32 b.flags) ∧ w'.cell? ⟨Y, 6, none⟩ = some (.int .u64 b.exp) ∧ w'.cell? ⟨Y, 7, none⟩ = some (.string b.body)))) (by kernel_rfl) (held16 A0 B0 (by assumption)) (fun hHeld => ?_)
  refine wpAnyH_take (i := 0) (v := .pointer (some ⟨X, 1, none⟩)) rfl (by kernel_rfl) (by kernel_rfl) (by kernel_rfl) (fun _ _ _ h => h) (Or.inl ⟨by rfl, fun w hSw => by (try dsimp only at hSw); go_simp⟩) (by assumption) ?_
  try simp only [List.getElem_toArray, List.getElem_cons_zero, List.getElem_cons_succ, Act.put, List.setIfInBounds_toArray, List.set_cons_zero, List.set_cons_succ]
  refine wpAnyH_take (i := 1) (v := .agg #[.int .u64 a.s.p, .int .u32 a.s.l, .int .u8 a.s.n]) rfl (by kernel_rfl) (by kernel_rfl) (by kernel_rfl) (fun _ _ _ h => h) (Or.inl ⟨by rfl, fun w hSw => by (try dsimp only at hSw); go_simp⟩) (by assumption) ?_
  try simp only [List.getElem_toArray, List.getElem_cons_zero, List.getElem_cons_succ, Act.put, List.setIfInBounds_toArray, List.set_cons_zero, List.set_cons_succ]
  refine wpAnyH_take (i := 2) (v := .pointer (some ⟨Y, 1, none⟩)) rfl (by kernel_rfl) (by kernel_rfl) (by kernel_rfl) (fun _ _ _ h => h) (Or.inl ⟨by rfl, fun w hSw => by (try dsimp only at hSw); go_simp⟩) (by assumption) ?_
  try simp only [List.getElem_toArray, List.getElem_cons_zero, List.getElem_cons_succ, Act.put, List.setIfInBounds_toArray, List.set_cons_zero, List.set_cons_succ]
  refine wpAnyH_take (i := 3) (v := .agg #[.int .u64 b.s.p, .int .u32 b.s.l, .int .u8 b.s.n]) rfl (by kernel_rfl) (by kernel_rfl) (by kernel_rfl) (fun _ _ _ h => h) (Or.inl ⟨by rfl, fun w hSw => by (try dsimp only at hSw); go_simp⟩) (by assumption) ?_
  try simp only [List.getElem_toArray, List.getElem_cons_zero, List.getElem_cons_succ, Act.put, List.setIfInBounds_toArray, List.set_cons_zero, List.set_cons_succ]
  refine wpAnyH_take (i := 5) (v := .pointer (some ⟨X, 4, none⟩)) rfl (by kernel_rfl) (by kernel_rfl) (by kernel_rfl) (fun _ _ _ h => h) (Or.inl ⟨by rfl, fun w hSw => by (try dsimp only at hSw); go_simp⟩) (by assumption) ?_
  try simp only [List.getElem_toArray, List.getElem_cons_zero, List.getElem_cons_succ, Act.put, List.setIfInBounds_toArray, List.set_cons_zero, List.set_cons_succ]
  refine wpAnyH_take (i := 6) (v := .int .u8 a.kind) rfl (by kernel_rfl) (by kernel_rfl) (by kernel_rfl) (fun _ _ _ h => h) (Or.inl ⟨by rfl, fun w hSw => by (try dsimp only at hSw); go_simp⟩) (by assumption) ?_
  try simp only [List.getElem_toArray, List.getElem_cons_zero, List.getElem_cons_succ, Act.put, List.setIfInBounds_toArray, List.set_cons_zero, List.set_cons_succ]
  refine wpAnyH_take (i := 7) (v := .pointer (some ⟨Y, 4, none⟩)) rfl (by kernel_rfl) (by kernel_rfl) (by kernel_rfl) (fun _ _ _ h => h) (Or.inl ⟨by rfl, fun w hSw => by (try dsimp only at hSw); go_simp⟩) (by assumption) ?_
  try simp only [List.getElem_toArray, List.getElem_cons_zero, List.getElem_cons_succ, Act.put, List.setIfInBounds_toArray, List.set_cons_zero, List.set_cons_succ]
  refine wpAnyH_take (i := 8) (v := .int .u8 b.kind) rfl (by kernel_rfl) (by kernel_rfl) (by kernel_rfl) (fun _ _ _ h => h) (Or.inl ⟨by rfl, fun w hSw => by (try dsimp only at hSw); go_simp⟩) (by assumption) ?_
  try simp only [List.getElem_toArray, List.getElem_cons_zero, List.getElem_cons_succ, Act.put, List.setIfInBounds_toArray, List.set_cons_zero, List.set_cons_succ]
  refine wpAnyH_take (i := 10) (v := .pointer (some ⟨X, 7, none⟩)) rfl (by kernel_rfl) (by kernel_rfl) (by kernel_rfl) (fun _ _ _ h => h) (Or.inl ⟨by rfl, fun w hSw => by (try dsimp only at hSw); go_simp⟩) (by assumption) ?_
  try simp only [List.getElem_toArray, List.getElem_cons_zero, List.getElem_cons_succ, Act.put, List.setIfInBounds_toArray, List.set_cons_zero, List.set_cons_succ]
  refine wpAnyH_take (i := 11) (v := .string a.body) rfl (by kernel_rfl) (by kernel_rfl) (by kernel_rfl) (fun _ _ _ h => h) (Or.inl ⟨by rfl, fun w hSw => by (try dsimp only at hSw); go_simp⟩) (by assumption) ?_
  try simp only [List.getElem_toArray, List.getElem_cons_zero, List.getElem_cons_succ, Act.put, List.setIfInBounds_toArray, List.set_cons_zero, List.set_cons_succ]
  refine wpAnyH_take (i := 12) (v := .pointer (some ⟨Y, 7, none⟩)) rfl (by kernel_rfl) (by kernel_rfl) (by kernel_rfl) (fun _ _ _ h => h) (Or.inl ⟨by rfl, fun w hSw => by (try dsimp only at hSw); go_simp⟩) (by assumption) ?_
  try simp only [List.getElem_toArray, List.getElem_cons_zero, List.getElem_cons_succ, Act.put, List.setIfInBounds_toArray, List.set_cons_zero, List.set_cons_succ]
  refine wpAnyH_take (i := 13) (v := .string b.body) rfl (by kernel_rfl) (by kernel_rfl) (by kernel_rfl) (fun _ _ _ h => h) (Or.inl ⟨by rfl, fun w hSw => by (try dsimp only at hSw); go_simp⟩) (by assumption) ?_
  try simp only [List.getElem_toArray, List.getElem_cons_zero, List.getElem_cons_succ, Act.put, List.setIfInBounds_toArray, List.set_cons_zero, List.set_cons_succ]
  refine wpAnyH_take (i := 15) (v := .pointer (some ⟨X, 5, none⟩)) rfl (by kernel_rfl) (by kernel_rfl) (by kernel_rfl) (fun _ _ _ h => h) (Or.inl ⟨by rfl, fun w hSw => by (try dsimp only at hSw); go_simp⟩) (by assumption) ?_
  try simp only [List.getElem_toArray, List.getElem_cons_zero, List.getElem_cons_succ, Act.put, List.setIfInBounds_toArray, List.set_cons_zero, List.set_cons_succ]
  refine wpAnyH_take (i := 16) (v := .int .u32 a.flags) rfl (by kernel_rfl) (by kernel_rfl) (by kernel_rfl) (fun _ _ _ h => h) (Or.inl ⟨by rfl, fun w hSw => by (try dsimp only at hSw); go_simp⟩) (by assumption) ?_
  try simp only [List.getElem_toArray, List.getElem_cons_zero, List.getElem_cons_succ, Act.put, List.setIfInBounds_toArray, List.set_cons_zero, List.set_cons_succ]
  refine wpAnyH_take (i := 17) (v := .pointer (some ⟨Y, 5, none⟩)) rfl (by kernel_rfl) (by kernel_rfl) (by kernel_rfl) (fun _ _ _ h => h) (Or.inl ⟨by rfl, fun w hSw => by (try dsimp only at hSw); go_simp⟩) (by assumption) ?_
  try simp only [List.getElem_toArray, List.getElem_cons_zero, List.getElem_cons_succ, Act.put, List.setIfInBounds_toArray, List.set_cons_zero, List.set_cons_succ]
  refine wpAnyH_take (i := 18) (v := .int .u32 b.flags) rfl (by kernel_rfl) (by kernel_rfl) (by kernel_rfl) (fun _ _ _ h => h) (Or.inl ⟨by rfl, fun w hSw => by (try dsimp only at hSw); go_simp⟩) (by assumption) ?_
  try simp only [List.getElem_toArray, List.getElem_cons_zero, List.getElem_cons_succ, Act.put, List.setIfInBounds_toArray, List.set_cons_zero, List.set_cons_succ]
  refine wpAnyH_take (i := 20) (v := .pointer (some ⟨X, 6, none⟩)) rfl (by kernel_rfl) (by kernel_rfl) (by kernel_rfl) (fun _ _ _ h => h) (Or.inl ⟨by rfl, fun w hSw => by (try dsimp only at hSw); go_simp⟩) (by assumption) ?_
  try simp only [List.getElem_toArray, List.getElem_cons_zero, List.getElem_cons_succ, Act.put, List.setIfInBounds_toArray, List.set_cons_zero, List.set_cons_succ]
  refine wpAnyH_take (i := 21) (v := .int .u64 a.exp) rfl (by kernel_rfl) (by kernel_rfl) (by kernel_rfl) (fun _ _ _ h => h) (Or.inl ⟨by rfl, fun w hSw => by (try dsimp only at hSw); go_simp⟩) (by assumption) ?_
  try simp only [List.getElem_toArray, List.getElem_cons_zero, List.getElem_cons_succ, Act.put, List.setIfInBounds_toArray, List.set_cons_zero, List.set_cons_succ]
  refine wpAnyH_take (i := 22) (v := .pointer (some ⟨Y, 6, none⟩)) rfl (by kernel_rfl) (by kernel_rfl) (by kernel_rfl) (fun _ _ _ h => h) (Or.inl ⟨by rfl, fun w hSw => by (try dsimp only at hSw); go_simp⟩) (by assumption) ?_
  try simp only [List.getElem_toArray, List.getElem_cons_zero, List.getElem_cons_succ, Act.put, List.setIfInBounds_toArray, List.set_cons_zero, List.set_cons_succ]
  refine wpAnyH_take (i := 23) (v := .int .u64 b.exp) rfl (by kernel_rfl) (by kernel_rfl) (by kernel_rfl) (fun _ _ _ h => h) (Or.inl ⟨by rfl, fun w hSw => by (try dsimp only at hSw); go_simp⟩) (by assumption) ?_
  try simp only [List.getElem_toArray, List.getElem_cons_zero, List.getElem_cons_succ, Act.put, List.setIfInBounds_toArray, List.set_cons_zero, List.set_cons_succ]
  refine wpAnyH_ready (rs := [4]) (by kernel_rfl) (by simp) ?_
  refine AllReadyH.cons (i := 4) rfl (fun K hK => ?_) AllReadyH.nil
  go_simp
  refine (compare_any a.s b.s _).mono ?_
  rintro e w3 ⟨rfl, h3⟩
  replace k0 := kept_trans k0 h3
  clear h3
  clear hHeld
  show K _ _
  refine hK.out _ _ (held16 A0 B0 (by assumption)) (fun hHeld => ?_)
  clear hK K
  try simp only [List.getElem_toArray, List.getElem_cons_zero, List.getElem_cons_succ, Act.put, List.setIfInBounds_toArray, List.set_cons_zero, List.set_cons_succ]
  refine wpAnyH_ready (rs := [9]) (by kernel_rfl) (by simp) ?_
  refine AllReadyH.cons (i := 9) rfl (fun K hK => ?_) AllReadyH.nil
  go_simp
  refine (cmp8 a.kind b.kind _).mono ?_
  rintro e w3 ⟨rfl, rfl⟩
  clear hHeld
  show K _ _
  refine hK.out _ _ (held16 A0 B0 (by assumption)) (fun hHeld => ?_)
  clear hK K
  try simp only [List.getElem_toArray, List.getElem_cons_zero, List.getElem_cons_succ, Act.put, List.setIfInBounds_toArray, List.set_cons_zero, List.set_cons_succ]
  refine wpAnyH_ready (rs := [14]) (by kernel_rfl) (by simp) ?_
  refine AllReadyH.cons (i := 14) rfl (fun K hK => ?_) AllReadyH.nil
  go_simp
  refine (cmpText a.body b.body _).mono ?_
  rintro e w3 ⟨rfl, rfl⟩
  clear hHeld
  show K _ _
  refine hK.out _ _ (held16 A0 B0 (by assumption)) (fun hHeld => ?_)
  clear hK K
  try simp only [List.getElem_toArray, List.getElem_cons_zero, List.getElem_cons_succ, Act.put, List.setIfInBounds_toArray, List.set_cons_zero, List.set_cons_succ]
  refine wpAnyH_ready (rs := [19]) (by kernel_rfl) (by simp) ?_
  refine AllReadyH.cons (i := 19) rfl (fun K hK => ?_) AllReadyH.nil
  go_simp
  refine (cmp32 a.flags b.flags _).mono ?_
  rintro e w3 ⟨rfl, rfl⟩
  clear hHeld
  show K _ _
  refine hK.out _ _ (held16 A0 B0 (by assumption)) (fun hHeld => ?_)
  clear hK K
  try simp only [List.getElem_toArray, List.getElem_cons_zero, List.getElem_cons_succ, Act.put, List.setIfInBounds_toArray, List.set_cons_zero, List.set_cons_succ]
  refine wpAnyH_ready (rs := [24]) (by kernel_rfl) (by simp) ?_
  refine AllReadyH.cons (i := 24) rfl (fun K hK => ?_) AllReadyH.nil
  go_simp
  refine (cmp64 a.exp b.exp _).mono ?_
  rintro e w3 ⟨rfl, rfl⟩
  clear hHeld
  show K _ _
  refine hK.out _ _ (held16 A0 B0 (by assumption)) (fun hHeld => ?_)
  clear hK K
  try simp only [List.getElem_toArray, List.getElem_cons_zero, List.getElem_cons_succ, Act.put, List.setIfInBounds_toArray, List.set_cons_zero, List.set_cons_succ]
  refine wpAnyH_ready (rs := [25]) (by kernel_rfl) (by simp) ?_
  refine AllReadyH.cons (i := 25) rfl (fun K hK => ?_) AllReadyH.nil
  have Z0 := at_new w3 #[.int .i64 (cmp a.s b.s), .int .i64 (cmpI a.kind b.kind), .int .i64 (cmpB a.body b.body), .int .i64 (cmpI a.flags b.flags), .int .i64 (cmpI a.exp b.exp)] 3
  replace k0 := kept_alloc k0 (.cells #[.int .i64 (cmp a.s b.s), .int .i64 (cmpI a.kind b.kind), .int .i64 (cmpB a.body b.body), .int .i64 (cmpI a.flags b.flags), .int .i64 (cmpI a.exp b.exp)] 3)
  go_simp
  clear hHeld
  show K _ _
  refine hK.out _ _ (held16 A0 B0 (by assumption)) (fun hHeld => ?_)
  clear hK K
  try simp only [List.getElem_toArray, List.getElem_cons_zero, List.getElem_cons_succ, Act.put, List.setIfInBounds_toArray, List.set_cons_zero, List.set_cons_succ]
  refine wpAnyH_ready (rs := [26]) (by kernel_rfl) (by simp) ?_
  refine AllReadyH.cons (i := 26) rfl (fun K hK => ?_) AllReadyH.nil
  go_simp
  refine (or5 _ _ _ _ _ _ _ Z0).mono ?_
  rintro e w3 ⟨rfl, rfl⟩
  clear hHeld
  show K _ _
  refine hK.out _ _ (held16 A0 B0 (by assumption)) (fun hHeld => ?_)
  clear hK K
  try simp only [List.getElem_toArray, List.getElem_cons_zero, List.getElem_cons_succ, Act.put, List.setIfInBounds_toArray, List.set_cons_zero, List.set_cons_succ]
  refine wpAnyH_take (i := 27) (v := .int .i64 (orI (cmp a.s b.s) (orI (cmpI a.kind b.kind) (orI (cmpB a.body b.body) (orI (cmpI a.flags b.flags) (cmpI a.exp b.exp)))))) rfl (by kernel_rfl) (by kernel_rfl) (by kernel_rfl) (fun _ _ _ h => h) (Or.inl ⟨by rfl, fun w hSw => by (try dsimp only at hSw); go_simp⟩) (by assumption) ?_
  try simp only [List.getElem_toArray, List.getElem_cons_zero, List.getElem_cons_succ, Act.put, List.setIfInBounds_toArray, List.set_cons_zero, List.set_cons_succ]
  refine wpAnyH_done (by kernel_rfl) ?_ _
  refine NoPanic.normal ?_
  have K1 := kept_trans K0 k0
  go_wp2_with fail
  go_ret
  exact ⟨rfl, K1⟩
end Go.Proofs.Ytahgplfkgijecaa


namespace Go.Proofs.Ytahgplfkgijecaa
open Go.ChangeShapes Go.WideShapes Go.ChangeAt Go.RowKit
set_option linter.unusedVariables false
set_option linter.unusedSimpArgs false
set_option maxRecDepth 100000

theorem wt_any (t n : Int) (h1 : 0 ≤ n) (h2 : n < 256) (w : World) : Calls Try.prog 77 #[.int .u64 t, .int .u8 n] w fun e w' => e = .returned (.int .u64 (twoI t (n + 1))) ∧ w' = w := by
  have e1 := u64_wrap n h1 (by omega)
  have e2 := u64_wrap (n + 1) (by omega) (by omega)
  clear h1 h2
  go_enter Try.func77, Try.ntmps77
  go_wp2_with fail
  refine (two_any _ _ _).mono ?_
  rintro e w' ⟨rfl, rfl⟩
  go_wp2_with fail
  go_ret
  exact ⟨rfl, rfl⟩
/- Truths as cells. -/
def bv (p : Int → Bool) : Array Value := (Array.range 64).map (fun (k : Nat) => Value.bool (p (k : Int)))
theorem bv_size (p : Int → Bool) : (bv p).size = 64 := by simp [bv]
theorem bv_get (p : Int → Bool) {k : Nat} (h : k < 64) : (bv p)[k]? = some (.bool (p (k : Int))) := by
  unfold bv
  rw [Array.getElem?_map, Array.getElem?_range, if_pos h]
  rfl
theorem bv_eq {cs : Array Value} {p : Int → Bool} (hs : cs.size = 64) (h : ∀ k, k < 64 → cs[k]? = some (.bool (p (k : Int)))) : cs = bv p := by
  apply Array.ext (by rw [hs, bv_size])
  intro i h1 h2
  have e1 := h i (by omega)
  have e2 := bv_get p (k := i) (by omega)
  rw [← e2, Array.getElem?_eq_getElem h1, Array.getElem?_eq_getElem h2] at e1
  exact Option.some.inj e1
theorem bv_ext {p q : Int → Bool} (h : ∀ n, 0 ≤ n → n < 64 → p n = q n) : bv p = bv q := bv_eq (bv_size p) (fun k hk => by rw [bv_get p hk, h k (by omega) (by omega)])
def pu (p : Int → Bool) (a : Int) (x : Bool) (n : Int) : Bool := if n = a then x else p n
theorem bv_set (p : Int → Bool) (a : Nat) (h : a < 64) (x : Bool) : (bv p).setIfInBounds a (.bool x) = bv (pu p (a : Int) x) := bv_eq (by simp [bv_size]) (fun k hk => by
  rw [Array.getElem?_setIfInBounds]
  by_cases e : a = k
  · subst e
    rw [if_pos rfl, if_pos (by rw [bv_size]; exact h)]
    simp [pu]
  · rw [if_neg e, bv_get p hk]
    have : ¬ ((k : Int) = (a : Int)) := by omega
    simp [pu, this])
theorem bv_one (p : Int → Bool) : (bv p).all (·.oneCell') = true := by
  rw [Array.all_eq_true_iff_forall_mem]
  intro x hx
  unfold bv at hx
  rw [Array.mem_map] at hx
  obtain ⟨k, _, rfl⟩ := hx
  rfl
theorem bv_wo (p : Int → Bool) (a : Nat) : bv (pu p (a : Int) false) = bv (wo p (a : Int)) := bv_ext (fun n _ _ => by
  unfold pu wo
  by_cases e : n = (a : Int) <;> simp [e])
theorem bv_no : bv (fun _ => false) = bv (mem []) := bv_ext (fun n _ _ => by unfold mem; simp)
theorem bv_more {l : List Int} {y : Nat} : bv (pu (mem l) (y : Int) true) = bv (mem (l ++ [(y : Int)])) := bv_ext (fun n _ _ => by
  unfold pu mem
  by_cases e : n = (y : Int) <;> simp [e])
theorem bv_past {l : List Int} {y : Int} (h : 64 ≤ y) : bv (mem l) = bv (mem (l ++ [y])) := bv_ext (fun n _ h2 => by
  unfold mem
  have : n ≠ y := by omega
  simp [this])
theorem zeroS (w : World) : (zeroValue 105).run Try.prog w = .ok (.agg (bv (fun _ => false))) w := by kernel_rfl
theorem infoS : (Try.prog.info? 105).map (·.size) = some 64 := by kernel_rfl
theorem loadS {w : World} {Z : Nat} {p : Int → Bool} (h : At w Z (bv p) 105) : (loadVar 105 ⟨Z, 0, none⟩).run Try.prog w = .ok (.agg (bv p)) w :=
  run_loadVar_row _ _ 105 105 _ (0, 0) _ h Try.underlying105 rfl (by rw [bv_size]; exact infoS)
theorem storeS {w : World} {Z : Nat} {p q : Int → Bool} (h : At w Z (bv p) 105) : (storeVar 105 ⟨Z, 0, none⟩ (.agg (bv q))).run Try.prog w = .ok () (w.setRow Z (bv q)) :=
  run_storeVar_row _ _ 105 105 _ _ h (by rw [bv_size]; exact infoS) (by rw [bv_size, bv_size]) (bv_one q)
theorem wpList_loadS {ops : Array Oper} {rest : List Oper} {op : Oper} {act : Act} {w : World} {Q : Exit → Act → World → Prop} (hgd : op.guard = none) (x : Operand) (ho : op.op = .load 105 x) (Z : Nat) (hx : act.eval x = .pointer (some ⟨Z, 0, none⟩)) (cs : Array Value)
    (hld : (loadVar 105 ⟨Z, 0, none⟩).run Try.prog w = .ok (.agg cs) w) (h : wpList Try.prog ops Q rest (act.put op.dst (.agg cs)) w) : wpList Try.prog ops Q (op :: rest) act w :=
  wpList_plain hgd fun _ hK => by
    unfold Oper.wp execOp
    simp only [ho, hx, Instr.loadAt, Instr.sureAddr, Sem.run_bind, Sem.run_pure, Result.andThen_ok, hld]
    exact hK _ _ h
theorem wpList_storeS {ops : Array Oper} {rest : List Oper} {op : Oper} {act : Act} {w : World} {Q : Exit → Act → World → Prop} (hgd : op.guard = none) (x y : Operand) (ho : op.op = .store 105 x y) (Z : Nat) (hx : act.eval x = .pointer (some ⟨Z, 0, none⟩)) (cs : Array Value) (hy : act.eval y = .agg cs) (w2 : World)
    (hst : (storeVar 105 ⟨Z, 0, none⟩ (.agg cs)).run Try.prog w = .ok () w2) (h : wpList Try.prog ops Q rest (act.put op.dst undef) w2) : wpList Try.prog ops Q (op :: rest) act w :=
  wpList_plain hgd fun _ hK => by
    unfold Oper.wp execOp
    simp only [ho, hx, hy, Instr.storeAt, Instr.sureAddr, Sem.run_bind, Sem.run_pure, Result.andThen_ok, hst]
    exact hK _ _ h
theorem resS {fn : Func} {p : Tmp} (h : fn.results = #[.cell p 105]) (tmps : Array Value) {w : World} {Z : Nat} {cs : Array Value} (hp : tmps.getD p undef = .pointer (some ⟨Z, 0, none⟩)) (hld : (loadVar 105 ⟨Z, 0, none⟩).run Try.prog w = .ok (.agg cs) w) :
    (results fn tmps).run Try.prog w = .ok (.agg cs) w := by
  have hp' : tmps[p]?.getD undef = .pointer (some ⟨Z, 0, none⟩) := by simpa using hp
  simp [results, h, asAddr, Sem.run_bind, Sem.run_pure, Result.andThen, hp', hld]




set_option maxHeartbeats 3200000 in
theorem set_any (l : List Int) (hu : U8 l) (v : Value) (w : World) (h : Rg encU 1 w v l) : Calls Try.prog 62 #[v] w fun e w' => e = .returned (.agg (bv (mem l))) ∧ Kept w w' := by
  have HR := hid h
  have HU := hid hu
  obtain ⟨a, cap, rfl, hc1, hc2, -, -⟩ := h
  have HG : Hid (∀ k, k < l.length → ∃ y, l[k]? = some y) := hid (fun k hk => ⟨l[k], List.getElem?_eq_getElem hk⟩)
  have HP : Hid (0 < l.length → ∃ g o, a = some ⟨g, o, none⟩) := hid (fun hp => by
    obtain ⟨g, o, c, e⟩ := rg_pos HR.out hp
    injection e with e1
    exact ⟨g, o, e1⟩)
  have HT : Hid (l.take l.length = l) := hid List.take_length
  have hz := zeroS
  unfold maxLen at hc2
  have hm2 : l.length ≤ 9223372036854775807 := by omega
  obtain ⟨R, hR⟩ : ∃ R, w.heap.size = R := ⟨_, rfl⟩
  obtain ⟨w1, hw1⟩ : ∃ w1, w.alloc (.cells (bv (fun _ => false)) 105) = w1 := ⟨_, rfl⟩
  have a1 := at_new w (bv (fun _ => false)) 105
  have k1 := kept_alloc (kept_refl w) (.cells (bv (fun _ => false)) 105)
  have s1 : w1.heap.size = R + 1 := by rw [← hw1, ← hR]; simp
  rw [hw1] at a1 k1
  rw [hR] at a1
  obtain ⟨Z, hZ⟩ : ∃ Z, w1.heap.size = Z := ⟨_, rfl⟩
  obtain ⟨w2, hw2⟩ : ∃ w2, w1.alloc (.cells (bv (fun _ => false)) 105) = w2 := ⟨_, rfl⟩
  have a2 := at_new w1 (bv (fun _ => false)) 105
  have k2 := kept_alloc (kept_refl w1) (.cells (bv (fun _ => false)) 105)
  rw [hw2] at a2 k2
  rw [hZ] at a2
  have HA1 := hid (at_kept a1 k2)
  have HA2 : Hid (At w2 Z (bv (mem [])) 105) := hid (by rw [← bv_no]; exact a2)
  have HK2 := hid (kept_trans k1 k2)
  have HNE : Hid (R ≠ Z ∧ w.heap.size ≤ R ∧ w.heap.size ≤ Z) := hid ⟨by omega, by omega, by omega⟩
  have HO : Hid (∀ u, At u Z (bv (mem l)) 105 → At u R (bv (fun _ => false)) 105 → Kept w u → (loadVar 105 ⟨Z, 0, none⟩).run Try.prog u = .ok (.agg (bv (mem l))) u ∧ (storeVar 105 ⟨R, 0, none⟩ (.agg (bv (mem l)))).run Try.prog u = .ok () (u.setRow R (bv (mem l))) ∧ (loadVar 105 ⟨R, 0, none⟩).run Try.prog (u.setRow R (bv (mem l))) = .ok (.agg (bv (mem l))) (u.setRow R (bv (mem l))) ∧ Kept w (u.setRow R (bv (mem l)))) := hid (fun u h1 h2 h3 => ⟨loadS h1, storeS h2, loadS (at_setRow h2), kept_setRow h3 HNE.out.2.1 _⟩)
  clear a1 k1 s1 a2 k2 hu
  generalize hm : l.length = m at *
  clear hm
  go_enter Try.func62, Try.ntmps62
  go_wp2_with fail
  clear hz hw1 hw2 hR hZ
  go_loopw [8] (fun j wr => ∃ k : Nat, k ≤ m ∧ j = .int .i64 k ∧ Hid (At wr Z (bv (mem (l.take k))) 105) ∧ Hid (At wr R (bv (fun _ => false)) 105) ∧ Hid (Kept w wr)) (fun j _ => m - (intOf j).toNat)
  case atStart => exact ⟨0, Nat.zero_le _, rfl, HA2, HA1, HK2⟩
  case round =>
    obtain ⟨k, hk, rfl, HZ, HRr, HKr⟩ := hrel
    clear HA2 HA1 HK2
    by_cases hlt : k < m
    · obtain ⟨y, hy⟩ := HG.out k hlt
      obtain ⟨g, o, rfl⟩ := HP.out (by omega)
      have c0 := rg_U (rg_kept encU_ok HR.out HKr.out) hy
      have HNx := hid (take_next hy)
      obtain ⟨y0, y1⟩ := HU.out y (List.mem_of_getElem? hy)
      obtain ⟨y, rfl⟩ := Int.eq_ofNat_of_zero_le y0
      clear hy y0
      by_cases e : y < 64
      · have hd : decide ((y : Int) < 64) = true := by simp; omega
        have b1 : (y : Int) < 64 := by omega
        have b2 : ¬ (64 : Int) ≤ (y : Int) := by omega
        have c1 : wr.cell? ⟨Z, y, none⟩ = some (.bool (mem (l.take k) (y : Int))) := (at_cell HZ.out y).trans (bv_get _ e)
        have cf : ∀ j, wr.frozen? ⟨Z, j, none⟩ = false := at_frozen HZ.out
        have HZ3 := hid (at_set HZ.out y (.bool true))
        have HR3 := hid (at_other HRr.out (show R ≠ Z from HNE.out.1) y (.bool true))
        have HK3 := hid (kept_set HKr.out HNE.out.2.2 y (.bool true))
        rw [bv_set _ y e, bv_more, ← HNx.out] at HZ3
        clear e y1 HZ HRr HKr
        go_wp2_with fail
        go_roundw
        case rel => exact ⟨k + 1, by omega, by go_num, HZ3, HR3, HK3⟩
        case measure => simp [intOf]; omega
      · have hd : decide ((y : Int) < 64) = false := by simp; omega
        have HZ3 : Hid (At wr Z (bv (mem (l.take (k + 1)))) 105) := hid (by rw [HNx.out, ← bv_past (by omega)]; exact HZ.out)
        clear e y1 HZ
        go_wp2_with fail
        go_roundw
        case rel => exact ⟨k + 1, by omega, by go_num, HZ3, HRr, HKr⟩
        case measure => simp [intOf]; omega
    · have he : k = m := by omega
      subst he
      rw [HT.out] at HZ
      obtain ⟨e1, e2, e3, e4⟩ := HO.out _ HZ.out HRr.out HKr.out
      have HF := hid e4
      have HL1 := hid e1
      have HL2 := hid e2
      have HL3 := hid e3
      clear e1 e2 e3 e4 HO HZ HRr HKr
      generalize hna : bv (mem l) = na at *
      have HNa := hid hna
      clear hna
      go_wp2_with (first | (refine wpList_loadS rfl _ rfl Z rfl na HL1.out ?_) | (refine wpList_storeS rfl _ _ rfl R rfl na rfl _ HL2.out ?_))
      exact bodyPost_ret (resS Try.results62 _ rfl HL3.out) rfl ⟨by rw [HNa.out], HF.out⟩
end Go.Proofs.Ytahgplfkgijecaa


namespace Go.Proofs.Ytahgplfkgijecaa
open Go.ChangeShapes Go.WideShapes Go.ChangeAt Go.RowKit
set_option linter.unusedVariables false
set_option linter.unusedSimpArgs false
set_option maxRecDepth 100000

def wq (t n : Int) : Int := twoI t (n + 1)
def nd : Option Int → Int
  | none => 0
  | some a => a
theorem two_says {a b : Int} {x y : Bool} (h1 : a = b) (h2 : x = y) : Ending.returned (.tuple #[.int .u8 a, .bool x]) = Ending.returned (.tuple #[.int .u8 b, .bool y]) := by rw [h1, h2]
def HvyC (b : Option Int) (w : World) (e : Ending) (w' : World) : Prop := e = .returned (.tuple #[.int .u8 (nd b), .bool b.isSome]) ∧ Kept w w'
set_option maxHeartbeats 3200000 in
theorem hvy_any (t : Int) (p : Int → Bool) (w : World) : Calls Try.prog 71 #[.int .u64 t, .agg (bv p)] w (HvyC (bst (wq t) p 64) w) := by
  have HWt := hid (fun n h1 h2 u => wt_any t n h1 h2 u)
  have HNx := hid (bst_next (wq t) p)
  have HCi := hid (fun k hk a h => @code_in (wq t) p k hk a h)
  have HWq : Hid (∀ n, wq t n = twoI t (n + 1)) := hid (fun n => rfl)
  have HC : Hid (∀ k, k < 64 → (w.alloc (.cells (bv p) 105)).cell? ⟨w.heap.size, k, none⟩ = some (.bool (p (k : Int)))) := hid (fun k hk => (at_cell (at_new w (bv p) 105) k).trans (bv_get p hk))
  have HK := hid (kept_alloc (kept_refl w) (.cells (bv p) 105))
  have HEnd : Hid (∀ a c u, a = nd (bst (wq t) p 64) → c = (bst (wq t) p 64).isSome → Kept w u → HvyC (bst (wq t) p 64) w (.returned (.tuple #[.int .u8 a, .bool c])) u) := hid (fun a c u h1 h2 h3 => ⟨two_says h1 h2, h3⟩)
  obtain ⟨w1, hw1⟩ : ∃ w1, w.alloc (.cells (bv p) 105) = w1 := ⟨_, rfl⟩
  obtain ⟨P, hP⟩ : ∃ P, w.heap.size = P := ⟨_, rfl⟩
  rw [hw1, hP] at HC
  rw [hw1] at HK
  generalize bv p = na at *
  go_enter Try.func71, Try.ntmps71
  go_wp2_with fail
  clear hw1 hP
  go_loopw [6, 7, 9] (fun o s j wr => ∃ k : Nat, k ≤ 64 ∧ j = .int .u8 (k : Int) ∧ o = .int .u8 (nd (bst (wq t) p k)) ∧ s = .bool (bst (wq t) p k).isSome ∧ wr = w1) (fun _ _ j _ => 64 - (intOf j).toNat)
  case atStart => exact ⟨0, Nat.zero_le _, rfl, rfl, rfl, rfl⟩
  case round =>
    obtain ⟨k, hk, rfl, rfl, rfl, rfl⟩ := hrel
    by_cases hlt : k < 64
    · have hkI : (k : Int) < 64 := by omega
      have d1 : ¬ (64 : Int) ≤ (k : Int) := by omega
      have hd1 : decide ((k : Int) < 64) = true := by simpa using hkI
      have hw1 := u8_wrap ((k : Int) + 1) (by omega) (by omega)
      have c0 := HC.out k hlt
      cases hm : p (k : Int) with
      | false =>
        rw [hm] at c0
        have HR : Hid (bst (wq t) p (k + 1) = bst (wq t) p k) := hid (by
          rw [HNx.out k, hm]
          cases bst (wq t) p k <;> simp)
        clear hm
        go_wp2_with fail
        go_roundw
        case rel => exact ⟨k + 1, by omega, by simp, by rw [HR.out], by rw [HR.out], by simp⟩
        case measure => simp [intOf]; omega
      | true =>
        rw [hm] at c0
        cases hq : bst (wq t) p k with
        | none =>
          have HR : Hid (bst (wq t) p (k + 1) = some (k : Int)) := hid (by rw [HNx.out k, hq]; simp [hm])
          have e5 : (none : Option Int).isSome = false := rfl
          have e6 : nd none = 0 := rfl
          rw [e5, e6]
          clear hq hm e5 e6
          go_wp2_with fail
          go_roundw
          case rel => exact ⟨k + 1, by omega, by simp, by rw [HR.out]; rfl, by rw [HR.out]; rfl, by simp⟩
          case measure => simp [intOf]; omega
        | some b =>
          obtain ⟨b1, b2⟩ := HCi.out k hk b hq
          have e5 : (some b).isSome = true := rfl
          have e6 : nd (some b) = b := rfl
          rw [e5, e6]
          have hWk := HWt.out (k : Int) (by omega) (by omega) wr
          have hWb := HWt.out b b1 (by omega) wr
          rw [← HWq.out] at hWk hWb
          by_cases hgt : wq t b < wq t (k : Int)
          · have HR : Hid (bst (wq t) p (k + 1) = some (k : Int)) := hid (by rw [HNx.out k, hq]; simp [hm, hgt])
            have hd : decide (wq t b < wq t (k : Int)) = true := by simpa using hgt
            clear hq hm b1 b2 hgt e5 e6
            generalize wq t (k : Int) = wk at *
            generalize wq t b = wb at *
            go_wp2_with fail
            refine hWk.mono ?_
            rintro e w' ⟨rfl, rfl⟩
            go_wp2_with fail
            refine hWb.mono ?_
            rintro e w' ⟨rfl, rfl⟩
            clear hWk hWb
            go_wp2_with fail
            go_roundw
            case rel => exact ⟨k + 1, by omega, by simp, by rw [HR.out]; rfl, by rw [HR.out]; rfl, by simp⟩
            case measure => simp [intOf]; omega
          · have HR : Hid (bst (wq t) p (k + 1) = some b) := hid (by rw [HNx.out k, hq]; simp [hgt])
            have hd : decide (wq t b < wq t (k : Int)) = false := by simpa using hgt
            clear hq hm b1 b2 hgt e5 e6
            generalize wq t (k : Int) = wk at *
            generalize wq t b = wb at *
            go_wp2_with fail
            refine hWk.mono ?_
            rintro e w' ⟨rfl, rfl⟩
            go_wp2_with fail
            refine hWb.mono ?_
            rintro e w' ⟨rfl, rfl⟩
            clear hWk hWb
            go_wp2_with fail
            go_roundw
            case rel => exact ⟨k + 1, by omega, by simp, by rw [HR.out]; rfl, by rw [HR.out]; rfl, by simp⟩
            case measure => simp [intOf]; omega
    · have he : k = 64 := by omega
      subst he
      rw [show ((64 : Nat) : Int) = 64 from rfl]
      go_wp2_with fail
      go_ret2
      exact HEnd.out _ _ _ rfl rfl HK.out
/- The first n owners. -/
def pickO (o : Option Int) (f : Int → List Int) : List Int := match o with
  | none => []
  | some a => a :: f a
theorem pickO_none (f : Int → List Int) : pickO none f = [] := rfl
theorem pickO_some (a : Int) (f : Int → List Int) : pickO (some a) f = a :: f a := rfl
def ownN (W : Int → Int) (p : Int → Bool) : Nat → List Int
  | 0 => []
  | n + 1 => pickO (bst W p 64) (fun a => ownN W (wo p a) n)
theorem ownN_next (W : Int → Int) (p : Int → Bool) (n : Nat) : ownN W p (n + 1) = pickO (bst W p 64) (fun a => ownN W (wo p a) n) := by rw [ownN]
theorem ownN_none {W : Int → Int} {p : Int → Bool} (h : bst W p 64 = none) (n : Nat) : ownN W p (n + 1) = [] := by rw [ownN_next, h, pickO_none]
theorem ownN_some {W : Int → Int} {p : Int → Bool} {a : Int} (h : bst W p 64 = some a) (n : Nat) : ownN W p (n + 1) = a :: ownN W (wo p a) n := by rw [ownN_next, h, pickO_some]
theorem ownN_zero (W : Int → Int) (p : Int → Bool) : ownN W p 0 = [] := rfl
theorem ownN_two (W : Int → Int) (p : Int → Bool) : ownN W p 2 = own W p := by
  rcases own_cases W p with ⟨e, g⟩ | ⟨a, e, g1, g2⟩ | ⟨a, b, e, g1, g2⟩
  · rw [e, ownN_none g]
  · rw [e, ownN_some g1, ownN_none g2]
  · rw [e, ownN_some g1, ownN_some g2, ownN_zero]
theorem at_beside {α : Type} {enc : α → List Value} {c : Nat} {T U : TypeId} {w w' : World} {B X : Nat} {v : Value} {xs : List α} {cs : Array Value} (h : At w X cs T) (k : Og enc c U w B v xs) (hTU : T ≠ U) (g : w.grownBy w' v.ownBlock) : At w' X cs T :=
  (g.block X (at_lt h) (fun e => by
    rcases k.2 with ⟨rfl, _⟩ | ⟨g', cap, cur', rfl, _, hg, _⟩
    · cases e
    · injection e with e
      subst e
      exact at_ne h hg hTU rfl)).trans h
set_option maxHeartbeats 3200000 in
theorem owns_t (t : Int) (p : Int → Bool) (w : World) : Calls Try.prog 60 #[.int .u64 t, .agg (bv p)] w (GRowC encU 1 5 (own (wq t) p) w) := by
  have HHv := hid (fun q u => hvy_any t q u)
  have HCi := hid (fun q a h => @code_in (wq t) q 64 (Nat.le_refl _) a h)
  have HA0 := hid (at_new w (bv p) 105)
  have HK0 := hid (kept_alloc (kept_refl w) (.cells (bv p) 105))
  obtain ⟨w1, hw1⟩ : ∃ w1, w.alloc (.cells (bv p) 105) = w1 := ⟨_, rfl⟩
  obtain ⟨P, hP⟩ : ∃ P, w.heap.size = P := ⟨_, rfl⟩
  rw [hw1, hP] at HA0
  rw [hw1] at HK0
  have HPB : Hid (w.heap.size ≤ P ∧ P < w1.heap.size) := hid ⟨by omega, at_lt HA0.out⟩
  obtain ⟨B, hB⟩ : ∃ B, w1.heap.size = B := ⟨_, rfl⟩
  rw [hB] at HPB
  have HBe : Hid (B ≤ w1.heap.size) := hid (by omega)
  have HO0 := hid (og_nil encU 1 5 w1 B)
  have HEnd : Hid (∀ v u xs, xs = own (wq t) p → Og encU 1 5 u B v xs → Kept w u → GRowC encU 1 5 (own (wq t) p) w (.returned v) u) := hid (fun v u xs h1 h2 h3 => ⟨v, rfl, og_low (by rw [← h1]; exact h2) (by have := HPB.out; omega), h3⟩)
  have HS0 : Hid (own (wq t) p = [] ++ ownN (wq t) p 2) := hid (by rw [ownN_two]; rfl)
  generalize own (wq t) p = os at *
  generalize hna : bv p = na at *
  have HNa := hid hna
  clear hna
  go_enter Try.func60, Try.ntmps60
  go_wp2_with fail
  clear hw1 hP hB
  go_loopw [5, 8] (fun ls j wr => ∃ (k : Nat) (q : Int → Bool) (xs : List Int), k ≤ 2 ∧ j = .int .i64 (k : Int) ∧ Hid (At wr P (bv q) 105) ∧ Hid (Og encU 1 5 wr B ls xs) ∧ Hid (Kept w wr) ∧ Hid (B ≤ wr.heap.size) ∧ Hid (os = xs ++ ownN (wq t) q (2 - k) ∧ xs.length = k)) (fun _ j _ => 2 - (intOf j).toNat)
  case atStart => exact ⟨0, p, [], by omega, rfl, hid (by rw [HNa.out]; exact HA0.out), HO0, HK0, HBe, hid ⟨HS0.out, rfl⟩⟩
  case round =>
    obtain ⟨k, q, xs, hk, rfl, HA, HO, HK, HB, HS⟩ := hrel
    clear HA0 HO0 HK0 HBe HS0 HNa
    by_cases hlt : k < 2
    · have HL := hid (loadS HA.out)
      have hH := HHv.out q wr
      cases hq : bst (wq t) q 64 with
      | none =>
        rw [hq] at hH
        have HE : Hid (xs = os) := hid (by
          obtain ⟨n, hn⟩ : ∃ n, 2 - k = n + 1 := ⟨1 - k, by omega⟩
          rw [HS.out.1, hn]
          rw [ownN_none hq, List.append_nil])
        clear hq
        generalize bv q = nq at *
        go_wp2_with (refine wpList_loadS rfl _ rfl P rfl nq HL.out ?_)
        refine hH.mono ?_
        rintro e w2 ⟨rfl, k2⟩
        have e5 : (none : Option Int).isSome = false := rfl
        have e6 : nd none = 0 := rfl
        rw [e5, e6]
        have HO2 := hid (og_stays HO.out k2)
        have HK2 := hid (kept_trans HK.out k2)
        clear hH k2 e5 e6
        go_wp2_with fail
        go_ret
        exact HEnd.out _ _ _ HE.out HO2.out HK2.out
      | some a =>
        rw [hq] at hH
        obtain ⟨b1, b2⟩ := HCi.out q a hq
        obtain ⟨a, rfl⟩ := Int.eq_ofNat_of_zero_le b1
        have hlt64 : a < 64 := by omega
        have d1 : ¬ (64 : Int) ≤ (a : Int) := by omega
        have HS2 : Hid (os = (xs ++ [(a : Int)]) ++ ownN (wq t) (wo q (a : Int)) (2 - (k + 1)) ∧ (xs ++ [(a : Int)]).length = k + 1) := hid ⟨by
          obtain ⟨n, hn⟩ : ∃ n, 2 - k = n + 1 := ⟨1 - k, by omega⟩
          have hn2 : 2 - (k + 1) = n := by omega
          rw [HS.out.1, hn, hn2]
          rw [ownN_some hq, List.append_assoc]; rfl, by rw [List.length_append, HS.out.2]; rfl⟩
        clear hq b1
        have HLl : Hid (xs.length ≤ 2) := hid (by have := HS.out.2; omega)
        have HA' := hid HA.out
        generalize hnq : bv q = nq at HL hH HA'
        have HNq := hid hnq
        clear hnq
        go_wp2_with (refine wpList_loadS rfl _ rfl P rfl nq HL.out ?_)
        refine hH.mono ?_
        rintro e w2 ⟨rfl, k2⟩
        have e5 : (some (a : Int)).isSome = true := rfl
        have e6 : nd (some (a : Int)) = (a : Int) := rfl
        rw [e5, e6]
        have HA2 := hid (at_kept HA.out k2)
        have HO2 := hid (og_stays HO.out k2)
        have HK2 := hid (kept_trans HK.out k2)
        have HB2 : Hid (B ≤ w2.heap.size) := hid (by have := HB.out; have := k2.2; omega)
        clear hH k2 e5 e6 HA HO HK HB HS HL HA' HNq
        have HKa := hid (kept_alloc HK2.out (.cells #[.int .u8 (a : Int)] 5))
        have HAa := hid (at_alloc HA2.out (.cells #[.int .u8 (a : Int)] 5))
        have HOa := hid (og_stays HO2.out (kept_alloc (kept_refl _) (.cells #[.int .u8 (a : Int)] 5)))
        have HAl := hid (rg_alone encU_ok (y := (a : Int)) (at_new w2 #[.int .u8 (a : Int)] 5))
        have HBa : Hid (B ≤ (w2.alloc (.cells #[.int .u8 (a : Int)] 5)).heap.size) := hid (by rw [World.size_alloc]; have := HB2.out; omega)
        go_wp2_with (at_builtin; go_must (refine wpList_gapp rfl (.tmp 18) (.tmp 20) rfl encU_ok tyU (by decide) B _ _ _ _ rfl HOa.out rfl HAl.out (by have := HLl.out; simp; omega) HBa.out ?_; intro v3 w3 hown3 hgrow3 hnil3; have HA3 := hid (at_beside HAa.out HOa.out (by decide) hgrow3); have c1 := (at_cell HA3.out a).trans (bv_get q hlt64); have cf := at_frozen HA3.out))
        have HO4 := hid (og_set hown3 HPB.out.2 a (.bool false))
        have HK4 := hid (kept_set (kept_gr HKa.out hgrow3 (fun j hj => by have := og_lt HOa.out hj; have := HPB.out; omega)) HPB.out.1 a (.bool false))
        have HA4 := hid (at_set HA3.out a (.bool false))
        rw [bv_set _ a hlt64, bv_wo] at HA4
        have HB4 : Hid (B ≤ (w3.setCell ⟨P, a, none⟩ (.bool false)).heap.size) := hid (by rw [World.size_setCell]; have := hgrow3.size; have := HBa.out; omega)
        clear hown3 hgrow3 hnil3 c1 cf
        go_roundw
        case rel => exact ⟨k + 1, wo q (a : Int), xs ++ [(a : Int)], by omega, by go_num, HA4, HO4, HK4, HB4, HS2⟩
        case measure => simp [intOf]; omega
    · have he : k = 2 := by omega
      subst he
      have HE : Hid (xs = os) := hid (by rw [HS.out.1]; rw [show 2 - 2 = 0 from rfl, ownN_zero, List.append_nil])
      go_wp2_with fail
      go_ret
      exact HEnd.out _ _ _ HE.out HO.out HK.out
end Go.Proofs.Ytahgplfkgijecaa


namespace Go.Proofs.Ytahgplfkgijecaa
open Go.ChangeShapes Go.WideShapes Go.ChangeAt Go.RowKit
set_option linter.unusedVariables false
set_option linter.unusedSimpArgs false
set_option maxRecDepth 100000


/- The landed Owners. -/
theorem wq_wt (key : ByteArray) : wq (textI key.data.toList key.size) = wt key := by
  funext n
  rfl
theorem owners_any (key : ByteArray) (l : List Int) (v : Value) (w : World) (hk : key.size ≤ 1000) (hu : U8 l) (h : Rg encU 1 w v l) : Calls Try.prog 38 #[.string key, v] w (GRowC encU 1 5 (owners key l) w) := by
  have HT := hid (fun u => text_any key (by unfold maxLen; omega) u)
  have HS := hid (set_any l hu v w h)
  have HO := hid (fun t p u => owns_t t p u)
  have HE : Hid (own (wq (textI key.data.toList key.size)) (mem l) = owners key l) := hid (by rw [wq_wt]; rfl)
  clear hk hu h
  go_enter Try.func38, Try.ntmps38
  go_wp2_with fail
  refine (HT.out _).mono ?_
  rintro e w' ⟨rfl, rfl⟩
  generalize textI key.data.toList key.size = t at *
  go_wp2_with fail
  refine HS.out.mono ?_
  rintro e w1 ⟨rfl, k1⟩
  have HK1 := hid k1
  have hO := HO.out t (mem l) w1
  rw [HE.out] at hO
  clear k1 HS HO
  generalize bv (mem l) = na at *
  go_wp2_with fail
  refine hO.mono ?_
  rintro e w2 ⟨v2, rfl, o2, k2⟩
  have HO2 := hid (og_low o2 HK1.out.2)
  have HK2 := hid (kept_trans HK1.out k2)
  clear hO o2 k2
  go_wp2_with fail
  go_ret
  exact ⟨v2, rfl, HO2.out, HK2.out⟩





end Go.Proofs.Ytahgplfkgijecaa
