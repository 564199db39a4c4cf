/- The landed contracts on stamps and records: which stands ahead, how two compare; the library's comparisons, cmp.Or. They turn nothing that was there. -/
import Derived.Test.YtjmldnbepajnoaaRAkFixed
import Derived.Test.YtjmldnbepajnoaaRMixMath
import Derived.Lib.Strings
import Derived.Lib.Slices
import Derived.Lib.Walk
import Derived.Lib.Bytealg
import Derived.BigQuiet
import Derived.Deep.RegionHeld3
namespace Go.Proofs.YtjmldnbepajnoaaR
open Go.ChangeShapes Go.WideShapes Go.ChangeAt Go.RowKit
set_option linter.unusedVariables false
set_option linter.unusedSimpArgs false
set_option maxRecDepth 100000

theorem ret_bool {a b : Bool} (h : a = b) : Ending.returned (.bool a) = .returned (.bool b) := by rw [h]
theorem lt_first {a b : Stp} (h : a.p ≠ b.p) : decide (a.p < b.p) = lt a b := by
  rw [Bool.eq_iff_iff, lt_iff]; unfold Lt; simp; omega
theorem lt_second {a b : Stp} (h : a.p = b.p) (k : a.l ≠ b.l) : decide (a.l < b.l) = lt a b := by
  rw [Bool.eq_iff_iff, lt_iff]; unfold Lt; simp; omega
theorem lt_third {a b : Stp} (h : a.p = b.p) (k : a.l = b.l) : decide (a.n < b.n) = lt a b := by
  rw [Bool.eq_iff_iff, lt_iff]; unfold Lt; simp; omega
theorem eq_stamp (a b : Stp) (w : World) : (Op.equalIn 10000 30 (.agg #[.int .u64 a.p, .int .u32 a.l, .int .u8 a.n]) (.agg #[.int .u64 b.p, .int .u32 b.l, .int .u8 b.n])).run Try.prog w = .ok (same a b) w := by
  go_simp
  unfold same
  by_cases h1 : a.p = b.p <;> by_cases h2 : a.l = b.l <;> by_cases h3 : a.n = b.n <;> simp [h1, h2, h3]
theorem bne_ne {a b : Int} (h : (a != b) = true) : a ≠ b := by simpa using h
theorem bne_eq {a b : Int} (h : (a != b) = false) : a = b := by simpa using h
theorem ahead_any (a b : Stp) (w : World) :
    Calls Try.prog 32 #[.agg #[.int .u64 a.p, .int .u32 a.l, .int .u8 a.n], .agg #[.int .u64 b.p, .int .u32 b.l, .int .u8 b.n]] w fun e w' => e = .returned (.bool (lt a b)) ∧ Kept w w' := by
  have HK : Hid (Kept w ((w.alloc (.cells #[.int .u64 a.p, .int .u32 a.l, .int .u8 a.n] 30)).alloc (.cells #[.int .u64 b.p, .int .u32 b.l, .int .u8 b.n] 30))) := kept_alloc (kept_alloc (kept_refl w) _) _
  by_cases h1 : a.p = b.p
  · by_cases h2 : a.l = b.l
    · have g1 : (a.p != b.p) = false := by simpa using h1
      have g2 : (a.l != b.l) = false := by simpa using h2
      have H : Hid (decide (a.n < b.n) = lt a b) := lt_third h1 h2
      clear h1 h2
      go_enter Try.func32, Try.ntmps32
      go_wp2
      go_ret
      exact ⟨ret_bool H.out, HK.out⟩
    · have g1 : (a.p != b.p) = false := by simpa using h1
      have g2 : (a.l != b.l) = true := by simpa using h2
      have H : Hid (decide (a.l < b.l) = lt a b) := lt_second h1 h2
      clear h1 h2
      go_enter Try.func32, Try.ntmps32
      go_wp2
      go_ret
      exact ⟨ret_bool H.out, HK.out⟩
  · have g1 : (a.p != b.p) = true := by simpa using h1
    have H : Hid (decide (a.p < b.p) = lt a b) := lt_first h1
    clear h1
    go_enter Try.func32, Try.ntmps32
    go_wp2
    go_ret
    exact ⟨ret_bool H.out, HK.out⟩
theorem compare_any (a b : Stp) (w : World) :
    Calls Try.prog 26 #[.agg #[.int .u64 a.p, .int .u32 a.l, .int .u8 a.n], .agg #[.int .u64 b.p, .int .u32 b.l, .int .u8 b.n]] w fun e w' => e = .returned (.int .i64 (cmp a b)) ∧ Kept w w' := by
  have HK : Hid (Kept w ((w.alloc (.cells #[.int .u64 a.p, .int .u32 a.l, .int .u8 a.n] 30)).alloc (.cells #[.int .u64 b.p, .int .u32 b.l, .int .u8 b.n] 30))) := kept_alloc (kept_alloc (kept_refl w) _) _
  have hE := eq_stamp a b
  by_cases h : a = b
  · have hs : same a b = true := (same_iff a b).2 h
    have hC : Hid (0 = cmp a b) := ((cmp_zero a b).2 h).symm
    clear h
    go_enter Try.func26, Try.ntmps26
    go_wp2_with fail
    go_ret
    exact ⟨ret_int hC.out, HK.out⟩
  · have hs : same a b = false := (same_false a b).2 h
    by_cases hl : Lt a b
    · have hC : Hid (-1 = cmp a b) := (cmp_lt hl).symm
      have hL : lt a b = true := (lt_iff a b).2 hl
      clear h hl
      go_enter Try.func26, Try.ntmps26
      go_wp2_with fail
      refine (ahead_any a b _).mono ?_
      rintro e w1 ⟨rfl, h1⟩
      have K1 := kept_trans HK.out h1
      go_wp2_with fail
      go_ret
      exact ⟨ret_int hC.out, K1⟩
    · have hC : Hid (1 = cmp a b) := (cmp_gt (Classical.byContradiction fun hn => h (lt_total hl hn))).symm
      have hL : lt a b = false := (lt_false a b).2 hl
      clear h hl
      go_enter Try.func26, Try.ntmps26
      go_wp2_with fail
      refine (ahead_any a b _).mono ?_
      rintro e w1 ⟨rfl, h1⟩
      have K1 := kept_trans HK.out h1
      go_wp2_with fail
      go_ret
      exact ⟨ret_int hC.out, K1⟩
theorem nan8 (a : Int) (w : World) : Calls Try.prog 33 #[.int .u8 a] w fun e w' => e = .returned (.bool false) ∧ w' = w := by
  go_enter Try.func33, Try.ntmps33
  go_wp2
  go_ret
  exact ⟨by simp, rfl⟩
theorem nan32 (a : Int) (w : World) : Calls Try.prog 35 #[.int .u32 a] w fun e w' => e = .returned (.bool false) ∧ w' = w := by
  go_enter Try.func35, Try.ntmps35
  go_wp2
  go_ret
  exact ⟨by simp, rfl⟩
theorem nan64 (a : Int) (w : World) : Calls Try.prog 36 #[.int .u64 a] w fun e w' => e = .returned (.bool false) ∧ w' = w := by
  go_enter Try.func36, Try.ntmps36
  go_wp2
  go_ret
  exact ⟨by simp, rfl⟩
theorem cmp8 (a b : Int) (w : World) : Calls Try.prog 27 #[.int .u8 a, .int .u8 b] w fun e w' => e = .returned (.int .i64 (cmpI a b)) ∧ w' = w := by
  rcases cmpI_cases a b with ⟨h, e⟩ | ⟨h, e⟩ | ⟨h, e⟩
  all_goals
    rw [e]
    clear e
    have h1 : decide (a < b) = decide (a < b) := rfl
    go_enter Try.func27, Try.ntmps27
    go_wp2_with (go_at_call 33; refine (nan8 _ _).mono ?_; rintro e w' ⟨rfl, rfl⟩)
    go_ret
    exact ⟨rfl, rfl⟩
theorem cmp32 (a b : Int) (w : World) : Calls Try.prog 29 #[.int .u32 a, .int .u32 b] w fun e w' => e = .returned (.int .i64 (cmpI a b)) ∧ w' = w := by
  rcases cmpI_cases a b with ⟨h, e⟩ | ⟨h, e⟩ | ⟨h, e⟩
  all_goals
    rw [e]
    clear e
    go_enter Try.func29, Try.ntmps29
    go_wp2_with (go_at_call 35; refine (nan32 _ _).mono ?_; rintro e w' ⟨rfl, rfl⟩)
    go_ret
    exact ⟨rfl, rfl⟩
theorem cmp64 (a b : Int) (w : World) : Calls Try.prog 30 #[.int .u64 a, .int .u64 b] w fun e w' => e = .returned (.int .i64 (cmpI a b)) ∧ w' = w := by
  rcases cmpI_cases a b with ⟨h, e⟩ | ⟨h, e⟩ | ⟨h, e⟩
  all_goals
    rw [e]
    clear e
    go_enter Try.func30, Try.ntmps30
    go_wp2_with (go_at_call 36; refine (nan64 _ _).mono ?_; rintro e w' ⟨rfl, rfl⟩)
    go_ret
    exact ⟨rfl, rfl⟩
set_option maxHeartbeats 1000000 in
set_option maxRecDepth 100000 in
theorem cmpInner (a b : ByteArray) (w : World) : Calls Try.prog 34 #[.string a, .string b] w fun e w' => e = .returned (.int .i64 (cmpB a b)) ∧ w' = w := by
  unfold cmpB
  go_enter Try.func34, Try.ntmps34
  go_wp2
  rw [run_callFunc_extern Try.func37 (by kernel_rfl) (by kernel_rfl) (by kernel_rfl) (e := Extern.BytealgCompare.compare) (by kernel_rfl), Lib.run_compareString]
  simp only [Result.andThen]
  rw [Oper.upon_value]
  go_wp2
  go_ret
  exact ⟨rfl, rfl⟩
theorem cmpText (a b : ByteArray) (w : World) : Calls Try.prog 28 #[.string a, .string b] w fun e w' => e = .returned (.int .i64 (cmpB a b)) ∧ w' = w := by
  go_enter Try.func28, Try.ntmps28
  go_wp2_with (go_at_call 34; refine (cmpInner _ _ _).mono ?_; rintro e w' ⟨rfl, rfl⟩)
  go_ret
  exact ⟨rfl, rfl⟩
/- The first that isn't 0. -/
def firstI : List Int → Int
  | [] => 0
  | x :: l => orI x (firstI l)
theorem first_drop (l : List Int) (k : Nat) (hk : k < l.length) : firstI (l.drop k) = orI l[k] (firstI (l.drop (k + 1))) := by
  rw [List.drop_eq_getElem_cons hk]; rfl
set_option maxHeartbeats 1600000 in
theorem or_any (l : List Int) (X : Nat) (w : World) (hl : l.length ≤ 5) (hc : ∀ k (hk : k < l.length), w.cell? ⟨X, k, none⟩ = some (.int .i64 l[k])) :
    Calls Try.prog 25 #[.slice (some ⟨X, 0, none⟩) l.length l.length] w fun e w' => e = .returned (.int .i64 (firstI l)) ∧ w' = w := by
  have HC : Hid (∀ k (hk : k < l.length), w.cell? ⟨X, k, none⟩ = some (.int .i64 l[k])) := hc
  clear hc
  obtain ⟨n, hn⟩ : ∃ n, n = l.length := ⟨_, rfl⟩
  have HL : Hid (l.length = n) := hn.symm
  rw [← hn] at hl ⊢
  clear hn
  go_enter Try.func25, Try.ntmps25
  go_wp2
  go_loop [5, 8] (fun i j => ∃ k : Nat, k ≤ n ∧ j = .int .i64 k ∧ Hid (firstI (l.drop k) = firstI l)) (fun _ j => n - (intOf j).toNat)
  case atStart => exact ⟨0, Nat.zero_le _, rfl, rfl⟩
  case round =>
    obtain ⟨k, hk, rfl, HF⟩ := hrel
    by_cases hlt : k < n
    · have hk' : k < l.length := by rw [HL.out]; exact hlt
      have hcell := HC.out k hk'
      have HN := first_drop l k hk'
      rw [HF.out] at HN
      have HN2 : Hid (firstI l = orI l[k] (firstI (l.drop (k + 1)))) := HN
      clear HN
      generalize l[k] = x at *
      by_cases hx : x = 0
      · have hx' : (x != 0) = false := by simpa using hx
        have HR : Hid (firstI (l.drop (k + 1)) = firstI l) := by show _ = _; rw [HN2.out, hx]; rfl
        clear hx
        go_wp2
        go_round
        case rel => exact ⟨k + 1, by omega, by go_num, HR⟩
        case measure => simp [intOf]; omega
      · have hx' : (x != 0) = true := by simpa using hx
        have HR : Hid (x = firstI l) := by show _ = _; rw [HN2.out]; unfold orI; rw [if_neg hx]
        clear hx
        go_wp2
        go_ret
        exact ⟨ret_int HR.out, rfl⟩
    · have HR : Hid (0 = firstI l) := by
        show _ = _
        have := HF.out
        rw [List.drop_of_length_le (by rw [HL.out]; omega)] at this
        exact this
      go_wp2
      go_ret
      exact ⟨ret_int HR.out, rfl⟩
theorem held16 {X Y T : Nat} {a b : R} {w0 w1 : World} (A0 : At w0 X #[.string a.key, .int .u64 a.s.p, .int .u32 a.s.l, .int .u8 a.s.n, .int .u8 a.kind, .int .u32 a.flags, .int .u64 a.exp, .string a.body] T) (B0 : At w0 Y #[.string b.key, .int .u64 b.s.p, .int .u32 b.s.l, .int .u8 b.s.n, .int .u8 b.kind, .int .u32 b.flags, .int .u64 b.exp, .string b.body] T) (k : Kept w0 w1) : (w1.cell? ⟨X, 0, none⟩ = some (.string a.key) ∧ w1.cell? ⟨X, 1, none⟩ = some (.int .u64 a.s.p) ∧ w1.cell? ⟨X, 2, none⟩ = some (.int .u32 a.s.l) ∧ w1.cell? ⟨X, 3, none⟩ = some (.int .u8 a.s.n) ∧ w1.cell? ⟨X, 4, none⟩ = some (.int .u8 a.kind) ∧ w1.cell? ⟨X, 5, none⟩ = some (.int .u32 a.flags) ∧ w1.cell? ⟨X, 6, none⟩ = some (.int .u64 a.exp) ∧ w1.cell? ⟨X, 7, none⟩ = some (.string a.body)) ∧ (w1.cell? ⟨Y, 0, none⟩ = some (.string b.key) ∧ w1.cell? ⟨Y, 1, none⟩ = some (.int .u64 b.s.p) ∧ w1.cell? ⟨Y, 2, none⟩ = some (.int .u32 b.s.l) ∧ w1.cell? ⟨Y, 3, none⟩ = some (.int .u8 b.s.n) ∧ w1.cell? ⟨Y, 4, none⟩ = some (.int .u8 b.kind) ∧ w1.cell? ⟨Y, 5, none⟩ = some (.int .u32 b.flags) ∧ w1.cell? ⟨Y, 6, none⟩ = some (.int .u64 b.exp) ∧ w1.cell? ⟨Y, 7, none⟩ = some (.string b.body)) :=
  ⟨at_cells8' (at_kept A0 k), at_cells8' (at_kept B0 k)⟩
theorem or5 (x0 x1 x2 x3 x4 : Int) (Z : Nat) (w : World) (h : At w Z #[.int .i64 x0, .int .i64 x1, .int .i64 x2, .int .i64 x3, .int .i64 x4] 3) :
    Calls Try.prog 25 #[.slice (some ⟨Z, 0, none⟩) 5 5] w fun e w' => e = .returned (.int .i64 (orI x0 (orI x1 (orI x2 (orI x3 x4))))) ∧ w' = w := by
  have hc := at_cells5 h
  have := or_any [x0, x1, x2, x3, x4] Z w (by simp) (fun k hk => by
    match k, hk with
    | 0, _ => exact hc.1
    | 1, _ => exact hc.2.1
    | 2, _ => exact hc.2.2.1
    | 3, _ => exact hc.2.2.2.1
    | 4, _ => exact hc.2.2.2.2.1)
  have e : firstI [x0, x1, x2, x3, x4] = orI x0 (orI x1 (orI x2 (orI x3 x4))) := by
    have : orI x4 0 = x4 := by unfold orI; split <;> simp_all
    simp only [firstI, this]
  rw [e] at this
  exact this
set_option maxHeartbeats 1600000 in
set_option maxRecDepth 100000 in
theorem Compare_any (a b : R) (w : World) :
    Calls Try.prog 20 #[.agg #[.string a.key, .int .u64 a.s.p, .int .u32 a.s.l, .int .u8 a.s.n, .int .u8 a.kind, .int .u32 a.flags, .int .u64 a.exp, .string a.body], .agg #[.string b.key, .int .u64 b.s.p, .int .u32 b.s.l, .int .u8 b.s.n, .int .u8 b.kind, .int .u32 b.flags, .int .u64 b.exp, .string b.body]] w fun e w' => e = .returned (.int .i64 (cmpR a b)) ∧ Kept w w' := by
  have K0 := kept_alloc (kept_alloc (kept_refl w) (.cells #[.string a.key, .int .u64 a.s.p, .int .u32 a.s.l, .int .u8 a.s.n, .int .u8 a.kind, .int .u32 a.flags, .int .u64 a.exp, .string a.body] 32)) (.cells #[.string b.key, .int .u64 b.s.p, .int .u32 b.s.l, .int .u8 b.s.n, .int .u8 b.kind, .int .u32 b.flags, .int .u64 b.exp, .string b.body] 32)
  have A0 := at_alloc (at_new w #[.string a.key, .int .u64 a.s.p, .int .u32 a.s.l, .int .u8 a.s.n, .int .u8 a.kind, .int .u32 a.flags, .int .u64 a.exp, .string a.body] 32) (.cells #[.string b.key, .int .u64 b.s.p, .int .u32 b.s.l, .int .u8 b.s.n, .int .u8 b.kind, .int .u32 b.flags, .int .u64 b.exp, .string b.body] 32)
  have B0 := at_new (w.alloc (.cells #[.string a.key, .int .u64 a.s.p, .int .u32 a.s.l, .int .u8 a.s.n, .int .u8 a.kind, .int .u32 a.flags, .int .u64 a.exp, .string a.body] 32)) #[.string b.key, .int .u64 b.s.p, .int .u32 b.s.l, .int .u8 b.s.n, .int .u8 b.kind, .int .u32 b.flags, .int .u64 b.exp, .string b.body] 32
  simp only [World.size_alloc] at B0
  go_enter Try.func20, Try.ntmps20
  go_wp2_with fail
  generalize (w.alloc (.cells #[.string a.key, .int .u64 a.s.p, .int .u32 a.s.l, .int .u8 a.s.n, .int .u8 a.kind, .int .u32 a.flags, .int .u64 a.exp, .string a.body] 32)).alloc (.cells #[.string b.key, .int .u64 b.s.p, .int .u32 b.s.l, .int .u8 b.s.n, .int .u8 b.kind, .int .u32 b.flags, .int .u64 b.exp, .string b.body] 32) = w0 at *
  generalize w.heap.size = X at *
  generalize X + 1 = Y at *
  have k0 : Kept w0 w0.drew := kept_refl w0
  refine wp_region_noPanic ?_
  refine wp_region_held_drew (S := (fun w' => (w'.cell? ⟨X, 0, none⟩ = some (.string a.key) ∧ w'.cell? ⟨X, 1, none⟩ = some (.int .u64 a.s.p) ∧ w'.cell? ⟨X, 2, none⟩ = some (.int .u32 a.s.l) ∧ w'.cell? ⟨X, 3, none⟩ = some (.int .u8 a.s.n) ∧ w'.cell? ⟨X, 4, none⟩ = some (.int .u8 a.kind) ∧ w'.cell? ⟨X, 5, none⟩ = some (.int .u32 a.flags) ∧ w'.cell? ⟨X, 6, none⟩ = some (.int .u64 a.exp) ∧ w'.cell? ⟨X, 7, none⟩ = some (.string a.body)) ∧ (w'.cell? ⟨Y, 0, none⟩ = some (.string b.key) ∧ w'.cell? ⟨Y, 1, none⟩ = some (.int .u64 b.s.p) ∧ w'.cell? ⟨Y, 2, none⟩ = some (.int .u32 b.s.l) ∧ w'.cell? ⟨Y, 3, none⟩ = some (.int .u8 b.s.n) ∧ w'.cell? ⟨Y, 4, none⟩ = some (.int .u8 b.kind) ∧ w'.cell? ⟨Y, 5, none⟩ = some (.int .u32 b.flags) ∧ w'.cell? ⟨Y, 6, none⟩ = some (.int .u64 b.exp) ∧ w'.cell? ⟨Y, 7, none⟩ = some (.string b.body)))) (by kernel_rfl) (held16 A0 B0 (by assumption)) (fun hHeld => ?_)
  refine wpAnyH_take (i := 0) (v := .pointer (some ⟨X, 1, none⟩)) rfl (by kernel_rfl) (by kernel_rfl) (by kernel_rfl) (fun _ _ _ h => h) (Or.inl ⟨by rfl, fun w hSw => by (try dsimp only at hSw); go_simp⟩) (by assumption) ?_
  try simp only [List.getElem_toArray, List.getElem_cons_zero, List.getElem_cons_succ, Act.put, List.setIfInBounds_toArray, List.set_cons_zero, List.set_cons_succ]
  refine wpAnyH_take (i := 1) (v := .agg #[.int .u64 a.s.p, .int .u32 a.s.l, .int .u8 a.s.n]) rfl (by kernel_rfl) (by kernel_rfl) (by kernel_rfl) (fun _ _ _ h => h) (Or.inl ⟨by rfl, fun w hSw => by (try dsimp only at hSw); go_simp⟩) (by assumption) ?_
  try simp only [List.getElem_toArray, List.getElem_cons_zero, List.getElem_cons_succ, Act.put, List.setIfInBounds_toArray, List.set_cons_zero, List.set_cons_succ]
  refine wpAnyH_take (i := 2) (v := .pointer (some ⟨Y, 1, none⟩)) rfl (by kernel_rfl) (by kernel_rfl) (by kernel_rfl) (fun _ _ _ h => h) (Or.inl ⟨by rfl, fun w hSw => by (try dsimp only at hSw); go_simp⟩) (by assumption) ?_
  try simp only [List.getElem_toArray, List.getElem_cons_zero, List.getElem_cons_succ, Act.put, List.setIfInBounds_toArray, List.set_cons_zero, List.set_cons_succ]
  refine wpAnyH_take (i := 3) (v := .agg #[.int .u64 b.s.p, .int .u32 b.s.l, .int .u8 b.s.n]) rfl (by kernel_rfl) (by kernel_rfl) (by kernel_rfl) (fun _ _ _ h => h) (Or.inl ⟨by rfl, fun w hSw => by (try dsimp only at hSw); go_simp⟩) (by assumption) ?_
  try simp only [List.getElem_toArray, List.getElem_cons_zero, List.getElem_cons_succ, Act.put, List.setIfInBounds_toArray, List.set_cons_zero, List.set_cons_succ]
  refine wpAnyH_take (i := 5) (v := .pointer (some ⟨X, 4, none⟩)) rfl (by kernel_rfl) (by kernel_rfl) (by kernel_rfl) (fun _ _ _ h => h) (Or.inl ⟨by rfl, fun w hSw => by (try dsimp only at hSw); go_simp⟩) (by assumption) ?_
  try simp only [List.getElem_toArray, List.getElem_cons_zero, List.getElem_cons_succ, Act.put, List.setIfInBounds_toArray, List.set_cons_zero, List.set_cons_succ]
  refine wpAnyH_take (i := 6) (v := .int .u8 a.kind) rfl (by kernel_rfl) (by kernel_rfl) (by kernel_rfl) (fun _ _ _ h => h) (Or.inl ⟨by rfl, fun w hSw => by (try dsimp only at hSw); go_simp⟩) (by assumption) ?_
  try simp only [List.getElem_toArray, List.getElem_cons_zero, List.getElem_cons_succ, Act.put, List.setIfInBounds_toArray, List.set_cons_zero, List.set_cons_succ]
  refine wpAnyH_take (i := 7) (v := .pointer (some ⟨Y, 4, none⟩)) rfl (by kernel_rfl) (by kernel_rfl) (by kernel_rfl) (fun _ _ _ h => h) (Or.inl ⟨by rfl, fun w hSw => by (try dsimp only at hSw); go_simp⟩) (by assumption) ?_
  try simp only [List.getElem_toArray, List.getElem_cons_zero, List.getElem_cons_succ, Act.put, List.setIfInBounds_toArray, List.set_cons_zero, List.set_cons_succ]
  refine wpAnyH_take (i := 8) (v := .int .u8 b.kind) rfl (by kernel_rfl) (by kernel_rfl) (by kernel_rfl) (fun _ _ _ h => h) (Or.inl ⟨by rfl, fun w hSw => by (try dsimp only at hSw); go_simp⟩) (by assumption) ?_
  try simp only [List.getElem_toArray, List.getElem_cons_zero, List.getElem_cons_succ, Act.put, List.setIfInBounds_toArray, List.set_cons_zero, List.set_cons_succ]
  refine wpAnyH_take (i := 10) (v := .pointer (some ⟨X, 7, none⟩)) rfl (by kernel_rfl) (by kernel_rfl) (by kernel_rfl) (fun _ _ _ h => h) (Or.inl ⟨by rfl, fun w hSw => by (try dsimp only at hSw); go_simp⟩) (by assumption) ?_
  try simp only [List.getElem_toArray, List.getElem_cons_zero, List.getElem_cons_succ, Act.put, List.setIfInBounds_toArray, List.set_cons_zero, List.set_cons_succ]
  refine wpAnyH_take (i := 11) (v := .string a.body) rfl (by kernel_rfl) (by kernel_rfl) (by kernel_rfl) (fun _ _ _ h => h) (Or.inl ⟨by rfl, fun w hSw => by (try dsimp only at hSw); go_simp⟩) (by assumption) ?_
  try simp only [List.getElem_toArray, List.getElem_cons_zero, List.getElem_cons_succ, Act.put, List.setIfInBounds_toArray, List.set_cons_zero, List.set_cons_succ]
  refine wpAnyH_take (i := 12) (v := .pointer (some ⟨Y, 7, none⟩)) rfl (by kernel_rfl) (by kernel_rfl) (by kernel_rfl) (fun _ _ _ h => h) (Or.inl ⟨by rfl, fun w hSw => by (try dsimp only at hSw); go_simp⟩) (by assumption) ?_
  try simp only [List.getElem_toArray, List.getElem_cons_zero, List.getElem_cons_succ, Act.put, List.setIfInBounds_toArray, List.set_cons_zero, List.set_cons_succ]
  refine wpAnyH_take (i := 13) (v := .string b.body) rfl (by kernel_rfl) (by kernel_rfl) (by kernel_rfl) (fun _ _ _ h => h) (Or.inl ⟨by rfl, fun w hSw => by (try dsimp only at hSw); go_simp⟩) (by assumption) ?_
  try simp only [List.getElem_toArray, List.getElem_cons_zero, List.getElem_cons_succ, Act.put, List.setIfInBounds_toArray, List.set_cons_zero, List.set_cons_succ]
  refine wpAnyH_take (i := 15) (v := .pointer (some ⟨X, 5, none⟩)) rfl (by kernel_rfl) (by kernel_rfl) (by kernel_rfl) (fun _ _ _ h => h) (Or.inl ⟨by rfl, fun w hSw => by (try dsimp only at hSw); go_simp⟩) (by assumption) ?_
  try simp only [List.getElem_toArray, List.getElem_cons_zero, List.getElem_cons_succ, Act.put, List.setIfInBounds_toArray, List.set_cons_zero, List.set_cons_succ]
  refine wpAnyH_take (i := 16) (v := .int .u32 a.flags) rfl (by kernel_rfl) (by kernel_rfl) (by kernel_rfl) (fun _ _ _ h => h) (Or.inl ⟨by rfl, fun w hSw => by (try dsimp only at hSw); go_simp⟩) (by assumption) ?_
  try simp only [List.getElem_toArray, List.getElem_cons_zero, List.getElem_cons_succ, Act.put, List.setIfInBounds_toArray, List.set_cons_zero, List.set_cons_succ]
  refine wpAnyH_take (i := 17) (v := .pointer (some ⟨Y, 5, none⟩)) rfl (by kernel_rfl) (by kernel_rfl) (by kernel_rfl) (fun _ _ _ h => h) (Or.inl ⟨by rfl, fun w hSw => by (try dsimp only at hSw); go_simp⟩) (by assumption) ?_
  try simp only [List.getElem_toArray, List.getElem_cons_zero, List.getElem_cons_succ, Act.put, List.setIfInBounds_toArray, List.set_cons_zero, List.set_cons_succ]
  refine wpAnyH_take (i := 18) (v := .int .u32 b.flags) rfl (by kernel_rfl) (by kernel_rfl) (by kernel_rfl) (fun _ _ _ h => h) (Or.inl ⟨by rfl, fun w hSw => by (try dsimp only at hSw); go_simp⟩) (by assumption) ?_
  try simp only [List.getElem_toArray, List.getElem_cons_zero, List.getElem_cons_succ, Act.put, List.setIfInBounds_toArray, List.set_cons_zero, List.set_cons_succ]
  refine wpAnyH_take (i := 20) (v := .pointer (some ⟨X, 6, none⟩)) rfl (by kernel_rfl) (by kernel_rfl) (by kernel_rfl) (fun _ _ _ h => h) (Or.inl ⟨by rfl, fun w hSw => by (try dsimp only at hSw); go_simp⟩) (by assumption) ?_
  try simp only [List.getElem_toArray, List.getElem_cons_zero, List.getElem_cons_succ, Act.put, List.setIfInBounds_toArray, List.set_cons_zero, List.set_cons_succ]
  refine wpAnyH_take (i := 21) (v := .int .u64 a.exp) rfl (by kernel_rfl) (by kernel_rfl) (by kernel_rfl) (fun _ _ _ h => h) (Or.inl ⟨by rfl, fun w hSw => by (try dsimp only at hSw); go_simp⟩) (by assumption) ?_
  try simp only [List.getElem_toArray, List.getElem_cons_zero, List.getElem_cons_succ, Act.put, List.setIfInBounds_toArray, List.set_cons_zero, List.set_cons_succ]
  refine wpAnyH_take (i := 22) (v := .pointer (some ⟨Y, 6, none⟩)) rfl (by kernel_rfl) (by kernel_rfl) (by kernel_rfl) (fun _ _ _ h => h) (Or.inl ⟨by rfl, fun w hSw => by (try dsimp only at hSw); go_simp⟩) (by assumption) ?_
  try simp only [List.getElem_toArray, List.getElem_cons_zero, List.getElem_cons_succ, Act.put, List.setIfInBounds_toArray, List.set_cons_zero, List.set_cons_succ]
  refine wpAnyH_take (i := 23) (v := .int .u64 b.exp) rfl (by kernel_rfl) (by kernel_rfl) (by kernel_rfl) (fun _ _ _ h => h) (Or.inl ⟨by rfl, fun w hSw => by (try dsimp only at hSw); go_simp⟩) (by assumption) ?_
  try simp only [List.getElem_toArray, List.getElem_cons_zero, List.getElem_cons_succ, Act.put, List.setIfInBounds_toArray, List.set_cons_zero, List.set_cons_succ]
  refine wpAnyH_ready (rs := [4]) (by kernel_rfl) (by simp) ?_
  refine AllReadyH.cons (i := 4) rfl (fun K hK => ?_) AllReadyH.nil
  go_simp
  refine (compare_any a.s b.s _).mono ?_
  rintro e w3 ⟨rfl, h3⟩
  replace k0 := kept_trans k0 h3
  clear h3
  clear hHeld
  show K _ _
  refine hK.out _ _ (held16 A0 B0 (by assumption)) (fun hHeld => ?_)
  clear hK K
  try simp only [List.getElem_toArray, List.getElem_cons_zero, List.getElem_cons_succ, Act.put, List.setIfInBounds_toArray, List.set_cons_zero, List.set_cons_succ]
  refine wpAnyH_ready (rs := [9]) (by kernel_rfl) (by simp) ?_
  refine AllReadyH.cons (i := 9) rfl (fun K hK => ?_) AllReadyH.nil
  go_simp
  refine (cmp8 a.kind b.kind _).mono ?_
  rintro e w3 ⟨rfl, rfl⟩
  clear hHeld
  show K _ _
  refine hK.out _ _ (held16 A0 B0 (by assumption)) (fun hHeld => ?_)
  clear hK K
  try simp only [List.getElem_toArray, List.getElem_cons_zero, List.getElem_cons_succ, Act.put, List.setIfInBounds_toArray, List.set_cons_zero, List.set_cons_succ]
  refine wpAnyH_ready (rs := [14]) (by kernel_rfl) (by simp) ?_
  refine AllReadyH.cons (i := 14) rfl (fun K hK => ?_) AllReadyH.nil
  go_simp
  refine (cmpText a.body b.body _).mono ?_
  rintro e w3 ⟨rfl, rfl⟩
  clear hHeld
  show K _ _
  refine hK.out _ _ (held16 A0 B0 (by assumption)) (fun hHeld => ?_)
  clear hK K
  try simp only [List.getElem_toArray, List.getElem_cons_zero, List.getElem_cons_succ, Act.put, List.setIfInBounds_toArray, List.set_cons_zero, List.set_cons_succ]
  refine wpAnyH_ready (rs := [19]) (by kernel_rfl) (by simp) ?_
  refine AllReadyH.cons (i := 19) rfl (fun K hK => ?_) AllReadyH.nil
  go_simp
  refine (cmp32 a.flags b.flags _).mono ?_
  rintro e w3 ⟨rfl, rfl⟩
  clear hHeld
  show K _ _
  refine hK.out _ _ (held16 A0 B0 (by assumption)) (fun hHeld => ?_)
  clear hK K
  try simp only [List.getElem_toArray, List.getElem_cons_zero, List.getElem_cons_succ, Act.put, List.setIfInBounds_toArray, List.set_cons_zero, List.set_cons_succ]
  refine wpAnyH_ready (rs := [24]) (by kernel_rfl) (by simp) ?_
  refine AllReadyH.cons (i := 24) rfl (fun K hK => ?_) AllReadyH.nil
  go_simp
  refine (cmp64 a.exp b.exp _).mono ?_
  rintro e w3 ⟨rfl, rfl⟩
  clear hHeld
  show K _ _
  refine hK.out _ _ (held16 A0 B0 (by assumption)) (fun hHeld => ?_)
  clear hK K
  try simp only [List.getElem_toArray, List.getElem_cons_zero, List.getElem_cons_succ, Act.put, List.setIfInBounds_toArray, List.set_cons_zero, List.set_cons_succ]
  refine wpAnyH_ready (rs := [25]) (by kernel_rfl) (by simp) ?_
  refine AllReadyH.cons (i := 25) rfl (fun K hK => ?_) AllReadyH.nil
  have Z0 := at_new w3 #[.int .i64 (cmp a.s b.s), .int .i64 (cmpI a.kind b.kind), .int .i64 (cmpB a.body b.body), .int .i64 (cmpI a.flags b.flags), .int .i64 (cmpI a.exp b.exp)] 3
  replace k0 := kept_alloc k0 (.cells #[.int .i64 (cmp a.s b.s), .int .i64 (cmpI a.kind b.kind), .int .i64 (cmpB a.body b.body), .int .i64 (cmpI a.flags b.flags), .int .i64 (cmpI a.exp b.exp)] 3)
  go_simp
  clear hHeld
  show K _ _
  refine hK.out _ _ (held16 A0 B0 (by assumption)) (fun hHeld => ?_)
  clear hK K
  try simp only [List.getElem_toArray, List.getElem_cons_zero, List.getElem_cons_succ, Act.put, List.setIfInBounds_toArray, List.set_cons_zero, List.set_cons_succ]
  refine wpAnyH_ready (rs := [26]) (by kernel_rfl) (by simp) ?_
  refine AllReadyH.cons (i := 26) rfl (fun K hK => ?_) AllReadyH.nil
  go_simp
  refine (or5 _ _ _ _ _ _ _ Z0).mono ?_
  rintro e w3 ⟨rfl, rfl⟩
  clear hHeld
  show K _ _
  refine hK.out _ _ (held16 A0 B0 (by assumption)) (fun hHeld => ?_)
  clear hK K
  try simp only [List.getElem_toArray, List.getElem_cons_zero, List.getElem_cons_succ, Act.put, List.setIfInBounds_toArray, List.set_cons_zero, List.set_cons_succ]
  refine wpAnyH_take (i := 27) (v := .int .i64 (orI (cmp a.s b.s) (orI (cmpI a.kind b.kind) (orI (cmpB a.body b.body) (orI (cmpI a.flags b.flags) (cmpI a.exp b.exp)))))) rfl (by kernel_rfl) (by kernel_rfl) (by kernel_rfl) (fun _ _ _ h => h) (Or.inl ⟨by rfl, fun w hSw => by (try dsimp only at hSw); go_simp⟩) (by assumption) ?_
  try simp only [List.getElem_toArray, List.getElem_cons_zero, List.getElem_cons_succ, Act.put, List.setIfInBounds_toArray, List.set_cons_zero, List.set_cons_succ]
  refine wpAnyH_done (by kernel_rfl) ?_ _
  refine NoPanic.normal ?_
  have K1 := kept_trans K0 k0
  go_wp2_with fail
  go_ret
  exact ⟨rfl, K1⟩
end Go.Proofs.YtjmldnbepajnoaaR
