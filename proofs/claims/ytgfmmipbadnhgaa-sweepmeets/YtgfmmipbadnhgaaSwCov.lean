/- The contracts of the reference's Behind and covered. -/
import Derived.Test.YtgfmmipbadnhgaaSwRows
namespace Go.Proofs.Ytgfmmipbadnhgaa
open Go.ChangeShapes Go.WideShapes Go.ChangeAt Go.RowKit
set_option linter.unusedVariables false
set_option linter.unusedSimpArgs false
set_option maxRecDepth 100000

theorem eq_stamp (a b : Stp) (w : World) : (Op.equalIn 10000 39 (.agg #[.int .u64 a.p, .int .u32 a.l, .int .u8 a.n]) (.agg #[.int .u64 b.p, .int .u32 b.l, .int .u8 b.n])).run Try.prog w = .ok (same a b) w := by
  go_simp
  unfold same
  repeat' split
  all_goals simp_all
def sameT (a b : ByteArray) : Bool := a.toList == b.toList
theorem sameT_iff (a b : ByteArray) : sameT a b = true ↔ a = b := by
  unfold sameT
  rw [ByteArray.toList_eq, ByteArray.toList_eq, beq_iff_eq]
  exact ⟨fun h => by cases a; cases b; simpa using h, fun h => by rw [h]⟩
theorem sameT_false (a b : ByteArray) : sameT a b = false ↔ a ≠ b := by rw [ne_eq, ← sameT_iff]; simp
theorem eq_self_S (x : Sn) (w : World) : (Op.equalIn 10000 43 (.agg #[.string x.key, .int .u64 x.s.p, .int .u32 x.s.l, .int .u8 x.s.n, .int .u8 x.kind]) (.agg #[.string x.key, .int .u64 x.s.p, .int .u32 x.s.l, .int .u8 x.s.n, .int .u8 x.kind])).run Try.prog w = .ok true w := by
  go_simp
theorem eq_self_R (r : R) (w : World) : (Op.equalIn 10000 41 (.agg #[.string r.key, .int .u64 r.s.p, .int .u32 r.s.l, .int .u8 r.s.n, .int .u8 r.kind, .int .u32 r.flags, .int .u64 r.exp, .string r.body]) (.agg #[.string r.key, .int .u64 r.s.p, .int .u32 r.s.l, .int .u8 r.s.n, .int .u8 r.kind, .int .u32 r.flags, .int .u64 r.exp, .string r.body])).run Try.prog w = .ok true w := by
  go_simp
def bhK (a : Stp) (k : Int) (b : Stp) (l : Int) : Bool := lt a b || (same a b && decide (k < l))
set_option maxHeartbeats 800000 in
theorem behind_any (a b : Stp) (k l : Int) (w : World) : Calls Try.prog 30 #[.agg #[.int .u64 a.p, .int .u32 a.l, .int .u8 a.n], .int .u8 k, .agg #[.int .u64 b.p, .int .u32 b.l, .int .u8 b.n], .int .u8 l] w fun e w' => e = .returned (.bool (bhK a k b l)) ∧ Kept w w' := by
  have HL := hid (fun u => less_any a b u)
  have A0 := at_new w #[.int .u64 a.p, .int .u32 a.l, .int .u8 a.n] 39
  have K0 := kept_alloc (kept_refl w) (.cells #[.int .u64 a.p, .int .u32 a.l, .int .u8 a.n] 39)
  obtain ⟨w0, hw0⟩ : ∃ w0, w.alloc (.cells #[.int .u64 a.p, .int .u32 a.l, .int .u8 a.n] 39) = w0 := ⟨_, rfl⟩
  obtain ⟨P, hP⟩ : ∃ P, w.heap.size = P := ⟨_, rfl⟩
  rw [hw0] at A0 K0
  rw [hP] at A0
  have A1 := at_new w0 #[.int .u64 b.p, .int .u32 b.l, .int .u8 b.n] 39
  have K1 := kept_alloc (kept_refl w0) (.cells #[.int .u64 b.p, .int .u32 b.l, .int .u8 b.n] 39)
  obtain ⟨w1, hw1⟩ : ∃ w1, w0.alloc (.cells #[.int .u64 b.p, .int .u32 b.l, .int .u8 b.n] 39) = w1 := ⟨_, rfl⟩
  obtain ⟨Q, hQ⟩ : ∃ Q, w0.heap.size = Q := ⟨_, rfl⟩
  rw [hw1] at A1 K1
  rw [hQ] at A1
  have HA := hid (at_kept A0 K1)
  have HB := hid A1
  have HK := hid (kept_trans K0 K1)
  obtain ⟨p0, p1, p2, -⟩ := at_cells3 HA.out
  obtain ⟨q0, q1, q2, -⟩ := at_cells3 HB.out
  clear A0 A1 K0 K1
  by_cases h : lt a b = true
  · have HE : Hid (bhK a k b l = true) := hid (by unfold bhK; simp [h])
    rw [h] at HL
    go_enter Try.func30, Try.ntmps30
    go_wp2_with fail
    refine (HL.out _).mono ?_
    rintro e w2 ⟨rfl, k2⟩
    go_wp2_with fail
    go_ret
    exact ⟨says_bool HE.out.symm, kept_trans HK.out k2⟩
  · have h' : lt a b = false := by simpa using h
    rw [h'] at HL
    go_enter Try.func30, Try.ntmps30
    go_wp2_with fail
    refine (HL.out _).mono ?_
    rintro e w2 ⟨rfl, k2⟩
    have HK2 := hid (kept_trans HK.out k2)
    have HA2 := hid (at_kept HA.out k2)
    have HB2 := hid (at_kept HB.out k2)
    clear p0 p1 p2 q0 q1 q2
    obtain ⟨p0, p1, p2, -⟩ := at_cells3 HA2.out
    obtain ⟨q0, q1, q2, -⟩ := at_cells3 HB2.out
    have he := eq_stamp a b
    cases hs : same a b with
    | true =>
      rw [hs] at he
      have HE : Hid (bhK a k b l = decide (k < l)) := hid (by unfold bhK; simp [h', hs])
      clear hs h h'
      go_wp2_with fail
      go_ret
      exact ⟨says_bool HE.out.symm, HK2.out⟩
    | false =>
      rw [hs] at he
      have HE : Hid (bhK a k b l = false) := hid (by unfold bhK; simp [h', hs])
      clear hs h h'
      go_wp2_with fail
      go_ret
      exact ⟨says_bool HE.out.symm, HK2.out⟩
theorem bhK_is (x y : Sn) : bhK x.s x.kind y.s y.kind = bh x y := rfl
end Go.Proofs.Ytgfmmipbadnhgaa
