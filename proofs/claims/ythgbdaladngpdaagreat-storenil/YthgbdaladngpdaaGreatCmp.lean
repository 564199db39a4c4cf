/- The contracts of the library's comparisons and of cmp.Or, of the reference's comparison of texts. They turn nothing. -/
import Derived.Test.YthgbdaladngpdaaGreatMay
import Derived.Lib.Strings
import Derived.Lib.Slices
import Derived.Lib.Walk
import Derived.BigQuiet
namespace Go.Proofs.YthgbdaladngpdaaGreat
open Go.ChangeShapes Go.WideShapes Go.ChangeAt Go.RowKit
set_option linter.unusedVariables false
set_option maxRecDepth 100000
set_option linter.unusedSimpArgs false

theorem nan8 (a : Int) (w : World) : Calls Tryz.prog 98 #[.int .u8 a] w fun e w' => e = .returned (.bool false) ∧ w' = w := by
  go_enter Tryz.func98, Tryz.ntmps98
  go_wp2
  go_ret
  exact ⟨by simp, rfl⟩
theorem nan32 (a : Int) (w : World) : Calls Tryz.prog 99 #[.int .u32 a] w fun e w' => e = .returned (.bool false) ∧ w' = w := by
  go_enter Tryz.func99, Tryz.ntmps99
  go_wp2
  go_ret
  exact ⟨by simp, rfl⟩
theorem nan64 (a : Int) (w : World) : Calls Tryz.prog 100 #[.int .u64 a] w fun e w' => e = .returned (.bool false) ∧ w' = w := by
  go_enter Tryz.func100, Tryz.ntmps100
  go_wp2
  go_ret
  exact ⟨by simp, rfl⟩
theorem cmp8 (a b : Int) (w : World) : Calls Tryz.prog 71 #[.int .u8 a, .int .u8 b] w fun e w' => e = .returned (.int .i64 (cmpI a b)) ∧ w' = w := by
  rcases cmpI_cases a b with ⟨h, e⟩ | ⟨h, e⟩ | ⟨h, e⟩
  all_goals
    rw [e]
    clear e
    have h1 : decide (a < b) = decide (a < b) := rfl
    go_enter Tryz.func71, Tryz.ntmps71
    go_wp2_with (go_at_call 98; refine (nan8 _ _).mono ?_; rintro e w' ⟨rfl, rfl⟩)
    go_ret
    exact ⟨rfl, rfl⟩
theorem cmp32 (a b : Int) (w : World) : Calls Tryz.prog 72 #[.int .u32 a, .int .u32 b] w fun e w' => e = .returned (.int .i64 (cmpI a b)) ∧ w' = w := by
  rcases cmpI_cases a b with ⟨h, e⟩ | ⟨h, e⟩ | ⟨h, e⟩
  all_goals
    rw [e]
    clear e
    go_enter Tryz.func72, Tryz.ntmps72
    go_wp2_with (go_at_call 99; refine (nan32 _ _).mono ?_; rintro e w' ⟨rfl, rfl⟩)
    go_ret
    exact ⟨rfl, rfl⟩
theorem cmp64 (a b : Int) (w : World) : Calls Tryz.prog 73 #[.int .u64 a, .int .u64 b] w fun e w' => e = .returned (.int .i64 (cmpI a b)) ∧ w' = w := by
  rcases cmpI_cases a b with ⟨h, e⟩ | ⟨h, e⟩ | ⟨h, e⟩
  all_goals
    rw [e]
    clear e
    go_enter Tryz.func73, Tryz.ntmps73
    go_wp2_with (go_at_call 100; refine (nan64 _ _).mono ?_; rintro e w' ⟨rfl, rfl⟩)
    go_ret
    exact ⟨rfl, rfl⟩
set_option maxHeartbeats 1000000 in
set_option maxRecDepth 100000 in
theorem cmpInner (a b : ByteArray) (w : World) : Calls Tryz.prog 93 #[.string a, .string b] w fun e w' => e = .returned (.int .i64 (cmpB a b)) ∧ w' = w := by
  unfold cmpB
  go_enter Tryz.func93, Tryz.ntmps93
  go_wp2
  rw [run_callFunc_extern Tryz.func121 (by kernel_rfl) (by kernel_rfl) (by kernel_rfl) (e := Extern.BytealgCompare.compare) (by kernel_rfl), Lib.run_compareString]
  simp only [Result.andThen]
  rw [Oper.upon_value]
  go_wp2
  go_ret
  exact ⟨rfl, rfl⟩
theorem cmpText (a b : ByteArray) (w : World) : Calls Tryz.prog 59 #[.string a, .string b] w fun e w' => e = .returned (.int .i64 (cmpB a b)) ∧ w' = w := by
  go_enter Tryz.func59, Tryz.ntmps59
  go_wp2_with (go_at_call 93; refine (cmpInner _ _ _).mono ?_; rintro e w' ⟨rfl, rfl⟩)
  go_ret
  exact ⟨rfl, rfl⟩
/- The first that isn't 0. -/
def firstI : List Int → Int
  | [] => 0
  | x :: l => orI x (firstI l)
theorem first_drop (l : List Int) (k : Nat) (hk : k < l.length) : firstI (l.drop k) = orI l[k] (firstI (l.drop (k + 1))) := by
  rw [List.drop_eq_getElem_cons hk]; rfl
set_option maxHeartbeats 1600000 in
theorem or_any (l : List Int) (X : Nat) (w : World) (hl : l.length ≤ 5) (hc : ∀ k (hk : k < l.length), w.cell? ⟨X, k, none⟩ = some (.int .i64 l[k])) :
    Calls Tryz.prog 69 #[.slice (some ⟨X, 0, none⟩) l.length l.length] w fun e w' => e = .returned (.int .i64 (firstI l)) ∧ w' = w := by
  have HC : Hid (∀ k (hk : k < l.length), w.cell? ⟨X, k, none⟩ = some (.int .i64 l[k])) := hc
  clear hc
  obtain ⟨n, hn⟩ : ∃ n, n = l.length := ⟨_, rfl⟩
  have HL : Hid (l.length = n) := hn.symm
  rw [← hn] at hl ⊢
  clear hn
  go_enter Tryz.func69, Tryz.ntmps69
  go_wp2
  go_loop [5, 8] (fun i j => ∃ k : Nat, k ≤ n ∧ j = .int .i64 k ∧ Hid (firstI (l.drop k) = firstI l)) (fun _ j => n - (intOf j).toNat)
  case atStart => exact ⟨0, Nat.zero_le _, rfl, rfl⟩
  case round =>
    obtain ⟨k, hk, rfl, HF⟩ := hrel
    by_cases hlt : k < n
    · have hk' : k < l.length := by rw [HL.out]; exact hlt
      have hcell := HC.out k hk'
      have HN := first_drop l k hk'
      rw [HF.out] at HN
      have HN2 : Hid (firstI l = orI l[k] (firstI (l.drop (k + 1)))) := HN
      clear HN
      generalize l[k] = x at *
      by_cases hx : x = 0
      · have hx' : (x != 0) = false := by simpa using hx
        have HR : Hid (firstI (l.drop (k + 1)) = firstI l) := by show _ = _; rw [HN2.out, hx]; rfl
        clear hx
        go_wp2
        go_round
        case rel => exact ⟨k + 1, by omega, by go_num, HR⟩
        case measure => simp [intOf]; omega
      · have hx' : (x != 0) = true := by simpa using hx
        have HR : Hid (x = firstI l) := by show _ = _; rw [HN2.out]; unfold orI; rw [if_neg hx]
        clear hx
        go_wp2
        go_ret
        exact ⟨ret_int HR.out, rfl⟩
    · have HR : Hid (0 = firstI l) := by
        show _ = _
        have := HF.out
        rw [List.drop_of_length_le (by rw [HL.out]; omega)] at this
        exact this
      go_wp2
      go_ret
      exact ⟨ret_int HR.out, rfl⟩
end Go.Proofs.YthgbdaladngpdaaGreat
