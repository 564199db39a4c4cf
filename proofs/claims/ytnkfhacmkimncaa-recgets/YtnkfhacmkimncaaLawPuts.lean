/- The law on a record's bytes, there and back, walked: it answers true and turns nothing that was there. -/
import Derived.Test.YtnkfhacmkimncaaOpen
import Derived.Test.YtnkfhacmkimncaaEqRec
import Derived.Test.YtnkfhacmkimncaaGet
import Derived.Test.YtnkfhacmkimncaaRefPut
import Derived.Test.YtnkfhacmkimncaaLawMay
namespace Go.Proofs.Ytnkfhacmkimncaa
open Go.ChangeShapes Go.WideShapes Go.ChangeAt Go.RowKit
set_option linter.unusedVariables false
set_option linter.unusedSimpArgs false

theorem putR_size (r : R) (h1 : r.key.size ≤ 250) (h2 : r.body.size ≤ 1024) : (putR r).size ≤ 2000 := by
  have s0 := textE_le r.key
  have s1 := encI_size r.s.p
  have s2 := encI_size r.s.l
  have s3 := encI_size r.s.n
  have s4 := encI_size r.kind
  have s5 := encI_size r.flags
  have s6 := encI_size r.exp
  have s7 := textE_le r.body
  unfold putR headB tailB
  split
  · simp only [ByteArray.size_append]; omega
  · simp only [ByteArray.size_append]; omega
theorem puts_start (r : R) (A B : ByteArray) (w : World) :
    Kept w ((w.alloc (.cells #[.string r.key, .int .u64 r.s.p, .int .u32 r.s.l, .int .u8 r.s.n, .int .u8 r.kind, .int .u32 r.flags, .int .u64 r.exp, .string r.body] 27)).alloc (.cells #[.string r.key, .int .u64 r.s.p, .int .u32 r.s.l, .int .u8 r.s.n, .int .u8 r.kind, .int .u32 r.flags, .int .u64 r.exp, .string r.body] 27)) ∧ At ((w.alloc (.cells #[.string r.key, .int .u64 r.s.p, .int .u32 r.s.l, .int .u8 r.s.n, .int .u8 r.kind, .int .u32 r.flags, .int .u64 r.exp, .string r.body] 27)).alloc (.cells #[.string r.key, .int .u64 r.s.p, .int .u32 r.s.l, .int .u8 r.s.n, .int .u8 r.kind, .int .u32 r.flags, .int .u64 r.exp, .string r.body] 27)) w.heap.size #[.string r.key, .int .u64 r.s.p, .int .u32 r.s.l, .int .u8 r.s.n, .int .u8 r.kind, .int .u32 r.flags, .int .u64 r.exp, .string r.body] 27 ∧ At ((w.alloc (.cells #[.string r.key, .int .u64 r.s.p, .int .u32 r.s.l, .int .u8 r.s.n, .int .u8 r.kind, .int .u32 r.flags, .int .u64 r.exp, .string r.body] 27)).alloc (.cells #[.string r.key, .int .u64 r.s.p, .int .u32 r.s.l, .int .u8 r.s.n, .int .u8 r.kind, .int .u32 r.flags, .int .u64 r.exp, .string r.body] 27)) (w.heap.size + 1) #[.string r.key, .int .u64 r.s.p, .int .u32 r.s.l, .int .u8 r.s.n, .int .u8 r.kind, .int .u32 r.flags, .int .u64 r.exp, .string r.body] 27 := by
  have B0 := at_new (w.alloc (.cells #[.string r.key, .int .u64 r.s.p, .int .u32 r.s.l, .int .u8 r.s.n, .int .u8 r.kind, .int .u32 r.flags, .int .u64 r.exp, .string r.body] 27)) #[.string r.key, .int .u64 r.s.p, .int .u32 r.s.l, .int .u8 r.s.n, .int .u8 r.kind, .int .u32 r.flags, .int .u64 r.exp, .string r.body] 27
  simp only [World.size_alloc] at B0
  exact ⟨kept_alloc (kept_alloc (kept_refl w) _) _, at_alloc (at_new w #[.string r.key, .int .u64 r.s.p, .int .u32 r.s.l, .int .u8 r.s.n, .int .u8 r.kind, .int .u32 r.flags, .int .u64 r.exp, .string r.body] 27) _, B0⟩
set_option maxHeartbeats 1600000 in
set_option maxRecDepth 100000 in
theorem puts_fixed (r : R) (A B : ByteArray) (w : World) (h : greatR r = true ∨ (greatR r = false ∧ (1000 : Int) < (A.size : Int)) ∨ (greatR r = false ∧ ¬ (1000 : Int) < (A.size : Int) ∧ (1000 : Int) < (B.size : Int))) :
    Calls Try.prog 7 #[.agg #[.string r.key, .int .u64 r.s.p, .int .u32 r.s.l, .int .u8 r.s.n, .int .u8 r.kind, .int .u32 r.flags, .int .u64 r.exp, .string r.body], .string A, .string B] w fun e w' => e = .returned (.bool true) ∧ Kept w w' := by
  obtain ⟨K0, A0, B0⟩ := puts_start r A B w
  clear A0
  rcases h with h1 | ⟨h1, h2⟩ | ⟨h1, h2, h3⟩
  all_goals
    go_enter Try.func7, Try.ntmps7
    go_wp2_with fail
    generalize (w.alloc (.cells #[.string r.key, .int .u64 r.s.p, .int .u32 r.s.l, .int .u8 r.s.n, .int .u8 r.kind, .int .u32 r.flags, .int .u64 r.exp, .string r.body] 27)).alloc (.cells #[.string r.key, .int .u64 r.s.p, .int .u32 r.s.l, .int .u8 r.s.n, .int .u8 r.kind, .int .u32 r.flags, .int .u64 r.exp, .string r.body] 27) = w0 at *
    generalize w.heap.size = X at *
    generalize X + 1 = Y at *
    refine (great1 r Y _ B0).mono ?_
    rintro e w1 ⟨rfl, k1⟩
    replace K0 := kept_trans K0 k1
    clear k1 B0
    rw [h1]
    clear h1
    go_wp2_with fail
    refine (fixed_any _).mono ?_
    rintro e w2 ⟨rfl, k2⟩
    replace K0 := kept_trans K0 k2
    clear k2
    go_wp2_with fail
    go_ret
    exact ⟨rfl, K0⟩
set_option maxHeartbeats 1600000 in
set_option maxRecDepth 100000 in
theorem puts_refused (r : R) (hr : r.ok) (A B : ByteArray) (w : World) (h1 : greatR r = false) (h2 : ¬ (1000 : Int) < (A.size : Int)) (h3 : ¬ (1000 : Int) < (B.size : Int)) (hm : mayR r = false) :
    Calls Try.prog 7 #[.agg #[.string r.key, .int .u64 r.s.p, .int .u32 r.s.l, .int .u8 r.s.n, .int .u8 r.kind, .int .u32 r.flags, .int .u64 r.exp, .string r.body], .string A, .string B] w fun e w' => e = .returned (.bool true) ∧ Kept w w' := by
  obtain ⟨K0, A0, B0⟩ := puts_start r A B w
  have hP := PutR_any r hr
  have hR := refPutR_any r hr
  have e : putV r = .tuple #[.string ⟨#[]⟩, .int .i64 1] := by unfold putV; rw [if_neg (by rw [hm]; simp)]
  rw [e] at hP hR
  have d2 : decide ((1000 : Int) < (A.size : Int)) = false := decide_eq_false h2
  have d3 : decide ((1000 : Int) < (B.size : Int)) = false := decide_eq_false h3
  clear hm hr e h2 h3
  go_enter Try.func7, Try.ntmps7
  go_wp2_with fail
  generalize (w.alloc (.cells #[.string r.key, .int .u64 r.s.p, .int .u32 r.s.l, .int .u8 r.s.n, .int .u8 r.kind, .int .u32 r.flags, .int .u64 r.exp, .string r.body] 27)).alloc (.cells #[.string r.key, .int .u64 r.s.p, .int .u32 r.s.l, .int .u8 r.s.n, .int .u8 r.kind, .int .u32 r.flags, .int .u64 r.exp, .string r.body] 27) = w0 at *
  generalize w.heap.size = X at *
  generalize X + 1 = Y at *
  refine (great1 r Y _ B0).mono ?_
  rintro e w1 ⟨rfl, k1⟩
  replace K0 := kept_trans K0 k1
  replace A0 := at_kept A0 k1
  clear k1 B0
  rw [h1]
  clear h1
  obtain ⟨c0, c1, c2, c3, c4, c5, c6, c7⟩ := at_cells8' A0
  go_wp2_with fail
  refine (hP _).mono ?_
  rintro e w2 ⟨rfl, k2⟩
  replace K0 := kept_trans K0 k2
  replace A0 := at_kept A0 k2
  clear k2 hP c0 c1 c2 c3 c4 c5 c6 c7
  obtain ⟨c0, c1, c2, c3, c4, c5, c6, c7⟩ := at_cells8' A0
  go_wp2_with fail
  refine (hR _).mono ?_
  rintro e w3 ⟨rfl, k3⟩
  replace K0 := kept_trans K0 k3
  clear k3 hR A0 c0 c1 c2 c3 c4 c5 c6 c7
  go_wp2_with fail
  refine (fixed_any _).mono ?_
  rintro e w4 ⟨rfl, k4⟩
  replace K0 := kept_trans K0 k4
  clear k4
  go_wp2_with fail
  go_ret
  exact ⟨rfl, K0⟩
set_option maxHeartbeats 1600000 in
set_option maxRecDepth 100000 in
theorem puts_back (r : R) (hr : r.ok) (A B : ByteArray) (w : World) (h1 : greatR r = false) (h2 : ¬ (1000 : Int) < (A.size : Int)) (h3 : ¬ (1000 : Int) < (B.size : Int)) (hm : mayR r = true) :
    Calls Try.prog 7 #[.agg #[.string r.key, .int .u64 r.s.p, .int .u32 r.s.l, .int .u8 r.s.n, .int .u8 r.kind, .int .u32 r.flags, .int .u64 r.exp, .string r.body], .string A, .string B] w fun e w' => e = .returned (.bool true) ∧ Kept w w' := by
  obtain ⟨K0, A0, B0⟩ := puts_start r A B w
  have hP := PutR_any r hr
  have hR := refPutR_any r hr
  have e : putV r = .tuple #[.string (putR r), .int .i64 0] := by unfold putV; rw [if_pos hm]
  rw [e] at hP hR
  have hs := hr.2.1
  unfold Stp.ok at hs
  have hf := hr.2.2.2.1
  have hx := hr.2.2.2.2.1
  obtain ⟨⟨f1, f2⟩, f3, f4, f5, f6, f7, f8⟩ := may_facts ⟨hs.1, hs.2.2.1, hs.2.2.2.2.1, hf.1, hx.1⟩ hm
  have hz := putR_size r f2 f7
  have hG := fun w => GetR_any (A ++ putR r ++ B) (by simp only [ByteArray.size_append]; omega) (A.size : Int) w
  rw [getR_put A B r ⟨hs.1, ⟨hs.2.2.1, hs.2.2.2.1⟩, hs.2.2.2.2.1, hf, hx.1⟩ hm] at hG
  unfold recV at hG
  have hEq := eq_self r
  have d2 : decide ((1000 : Int) < (A.size : Int)) = false := decide_eq_false h2
  have d3 : decide ((1000 : Int) < (B.size : Int)) = false := decide_eq_false h3
  have a2 : A.size ≤ 1000 := by omega
  have a3 : B.size ≤ 1000 := by omega
  clear hm hr e h2 h3 hs hf hx f1 f2 f3 f4 f5 f6 f7 f8
  generalize putR r = E at *
  have hz27 := zero27
  go_enter Try.func7, Try.ntmps7
  go_wp2_with fail
  generalize (w.alloc (.cells #[.string r.key, .int .u64 r.s.p, .int .u32 r.s.l, .int .u8 r.s.n, .int .u8 r.kind, .int .u32 r.flags, .int .u64 r.exp, .string r.body] 27)).alloc (.cells #[.string r.key, .int .u64 r.s.p, .int .u32 r.s.l, .int .u8 r.s.n, .int .u8 r.kind, .int .u32 r.flags, .int .u64 r.exp, .string r.body] 27) = w0 at *
  generalize w.heap.size = X at *
  generalize X + 1 = Y at *
  refine (great1 r Y _ B0).mono ?_
  rintro e w1 ⟨rfl, k1⟩
  replace K0 := kept_trans K0 k1
  replace A0 := at_kept A0 k1
  clear k1 B0
  rw [h1]
  clear h1
  obtain ⟨c0, c1, c2, c3, c4, c5, c6, c7⟩ := at_cells8' A0
  go_wp2_with fail
  refine (hP _).mono ?_
  rintro e w2 ⟨rfl, k2⟩
  replace K0 := kept_trans K0 k2
  replace A0 := at_kept A0 k2
  clear k2 hP c0 c1 c2 c3 c4 c5 c6 c7
  obtain ⟨c0, c1, c2, c3, c4, c5, c6, c7⟩ := at_cells8' A0
  go_wp2_with fail
  refine (hR _).mono ?_
  rintro e w3 ⟨rfl, k3⟩
  replace K0 := kept_trans K0 k3
  replace A0 := at_kept A0 k3
  clear k3 hR c0 c1 c2 c3 c4 c5 c6 c7
  go_wp2_with fail
  refine (fixed_any _).mono ?_
  rintro e w4 ⟨rfl, k4⟩
  replace K0 := kept_trans K0 k4
  replace A0 := at_kept A0 k4
  clear k4
  go_wp2_with fail
  refine (hG _).mono ?_
  rintro e w5 ⟨rfl, k5⟩
  replace K0 := kept_trans K0 k5
  replace A0 := at_kept A0 k5
  clear k5 hG
  have KF := hid (kept_alloc K0 (.cells #[.string r.key, .int .u64 r.s.p, .int .u32 r.s.l, .int .u8 r.s.n, .int .u8 r.kind, .int .u32 r.flags, .int .u64 r.exp, .string r.body] 27))
  have hlX := at_lt A0
  obtain ⟨c0, c1, c2, c3, c4, c5, c6, c7⟩ := at_cells8' A0
  clear A0 K0
  go_wp2_with fail
  go_ret
  exact ⟨rfl, KF.out⟩
theorem recPuts_walk (r : R) (A B : ByteArray) (w : World) (hr : r.ok) (hA : A.size ≤ maxLen) (hB : B.size ≤ maxLen) :
    Calls Try.prog 7 #[.agg #[.string r.key, .int .u64 r.s.p, .int .u32 r.s.l, .int .u8 r.s.n, .int .u8 r.kind, .int .u32 r.flags, .int .u64 r.exp, .string r.body], .string A, .string B] w fun e w' => e = .returned (.bool true) ∧ Kept w w' := by
  cases h1 : greatR r with
  | true => exact puts_fixed r A B w (.inl h1)
  | false =>
    by_cases h2 : (1000 : Int) < (A.size : Int)
    · exact puts_fixed r A B w (.inr (.inl ⟨h1, h2⟩))
    · by_cases h3 : (1000 : Int) < (B.size : Int)
      · exact puts_fixed r A B w (.inr (.inr ⟨h1, h2, h3⟩))
      · cases hm : mayR r with
        | true => exact puts_back r hr A B w h1 h2 h3 hm
        | false => exact puts_refused r hr A B w h1 h2 h3 hm
end Go.Proofs.Ytnkfhacmkimncaa
