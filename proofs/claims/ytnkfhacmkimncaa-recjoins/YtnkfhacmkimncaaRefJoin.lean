/- The contracts of the reference's comparison and join of two records. They turn nothing that was there. -/
import Derived.Test.YtnkfhacmkimncaaRefCmp
namespace Go.Proofs.Ytnkfhacmkimncaa
open Go.ChangeShapes Go.WideShapes Go.ChangeAt Go.RowKit
set_option linter.unusedVariables false
set_option linter.unusedSimpArgs false

theorem less_true {a b : R} (h : lessR a b = true) : cmpR a b = -1 := by unfold lessR at h; simpa using h
theorem less_false {a b : R} (h : lessR a b = false) : cmpR a b ≠ -1 := by unfold lessR at h; simpa using h
set_option maxHeartbeats 1600000 in
set_option maxRecDepth 100000 in
theorem refCompare_any (a b : R) (ha : a.body.size ≤ maxLen) (hb : b.body.size ≤ maxLen) (w : World) :
    Calls Try.prog 20 #[.agg #[.string a.key, .int .u64 a.s.p, .int .u32 a.s.l, .int .u8 a.s.n, .int .u8 a.kind, .int .u32 a.flags, .int .u64 a.exp, .string a.body], .agg #[.string b.key, .int .u64 b.s.p, .int .u32 b.s.l, .int .u8 b.s.n, .int .u8 b.kind, .int .u32 b.flags, .int .u64 b.exp, .string b.body]] w fun e w' => e = .returned (.int .i64 (cmpR a b)) ∧ Kept w w' := by
  have K0 := kept_alloc (kept_alloc (kept_refl w) (.cells #[.string a.key, .int .u64 a.s.p, .int .u32 a.s.l, .int .u8 a.s.n, .int .u8 a.kind, .int .u32 a.flags, .int .u64 a.exp, .string a.body] 27)) (.cells #[.string b.key, .int .u64 b.s.p, .int .u32 b.s.l, .int .u8 b.s.n, .int .u8 b.kind, .int .u32 b.flags, .int .u64 b.exp, .string b.body] 27)
  have A0 := at_alloc (at_new w #[.string a.key, .int .u64 a.s.p, .int .u32 a.s.l, .int .u8 a.s.n, .int .u8 a.kind, .int .u32 a.flags, .int .u64 a.exp, .string a.body] 27) (.cells #[.string b.key, .int .u64 b.s.p, .int .u32 b.s.l, .int .u8 b.s.n, .int .u8 b.kind, .int .u32 b.flags, .int .u64 b.exp, .string b.body] 27)
  have B0 := at_new (w.alloc (.cells #[.string a.key, .int .u64 a.s.p, .int .u32 a.s.l, .int .u8 a.s.n, .int .u8 a.kind, .int .u32 a.flags, .int .u64 a.exp, .string a.body] 27)) #[.string b.key, .int .u64 b.s.p, .int .u32 b.s.l, .int .u8 b.s.n, .int .u8 b.kind, .int .u32 b.flags, .int .u64 b.exp, .string b.body] 27
  simp only [World.size_alloc] at B0
  have hL := refLess_any a b ha hb
  have hM := refLess_any b a hb ha
  clear ha hb
  cases h1 : lessR a b with
  | true =>
    have HE : Hid (-1 = cmpR a b) := (less_true h1).symm
    rw [h1] at hL
    go_enter Try.func20, Try.ntmps20
    go_wp2_with fail
    generalize (w.alloc (.cells #[.string a.key, .int .u64 a.s.p, .int .u32 a.s.l, .int .u8 a.s.n, .int .u8 a.kind, .int .u32 a.flags, .int .u64 a.exp, .string a.body] 27)).alloc (.cells #[.string b.key, .int .u64 b.s.p, .int .u32 b.s.l, .int .u8 b.s.n, .int .u8 b.kind, .int .u32 b.flags, .int .u64 b.exp, .string b.body] 27) = w0 at *
    refine (hL _).mono ?_
    rintro e w1 ⟨rfl, k1⟩
    replace K0 := kept_trans K0 k1
    clear k1 A0 B0
    go_wp2_with fail
    go_ret
    exact ⟨ret_int HE.out, K0⟩
  | false =>
    rw [h1] at hL
    cases h2 : lessR b a with
    | true =>
      have HE : Hid (1 = cmpR a b) := by
        show _ = _
        have := less_true h2
        rw [good_rec.neg a b] at this
        omega
      rw [h2] at hM
      go_enter Try.func20, Try.ntmps20
      go_wp2_with fail
      generalize (w.alloc (.cells #[.string a.key, .int .u64 a.s.p, .int .u32 a.s.l, .int .u8 a.s.n, .int .u8 a.kind, .int .u32 a.flags, .int .u64 a.exp, .string a.body] 27)).alloc (.cells #[.string b.key, .int .u64 b.s.p, .int .u32 b.s.l, .int .u8 b.s.n, .int .u8 b.kind, .int .u32 b.flags, .int .u64 b.exp, .string b.body] 27) = w0 at *
      generalize w.heap.size = X at *
      generalize X + 1 = Y at *
      refine (hL _).mono ?_
      rintro e w1 ⟨rfl, k1⟩
      replace K0 := kept_trans K0 k1
      obtain ⟨c0, c1, c2, c3, c4, c5, c6, c7⟩ := at_cells8' (at_kept A0 k1)
      obtain ⟨d0, d1, d2, d3, d4, d5, d6, d7⟩ := at_cells8' (at_kept B0 k1)
      clear k1 A0 B0
      go_wp2_with fail
      refine (hM _).mono ?_
      rintro e w2 ⟨rfl, k2⟩
      replace K0 := kept_trans K0 k2
      clear k2 c0 c1 c2 c3 c4 c5 c6 c7 d0 d1 d2 d3 d4 d5 d6 d7
      go_wp2_with fail
      go_ret
      exact ⟨ret_int HE.out, K0⟩
    | false =>
      have HE : Hid (0 = cmpR a b) := by
        show _ = _
        have g1 := less_false h1
        have g2 := less_false h2
        rw [good_rec.neg a b] at g2
        have := good_rec.one a b
        omega
      rw [h2] at hM
      go_enter Try.func20, Try.ntmps20
      go_wp2_with fail
      generalize (w.alloc (.cells #[.string a.key, .int .u64 a.s.p, .int .u32 a.s.l, .int .u8 a.s.n, .int .u8 a.kind, .int .u32 a.flags, .int .u64 a.exp, .string a.body] 27)).alloc (.cells #[.string b.key, .int .u64 b.s.p, .int .u32 b.s.l, .int .u8 b.s.n, .int .u8 b.kind, .int .u32 b.flags, .int .u64 b.exp, .string b.body] 27) = w0 at *
      generalize w.heap.size = X at *
      generalize X + 1 = Y at *
      refine (hL _).mono ?_
      rintro e w1 ⟨rfl, k1⟩
      replace K0 := kept_trans K0 k1
      obtain ⟨c0, c1, c2, c3, c4, c5, c6, c7⟩ := at_cells8' (at_kept A0 k1)
      obtain ⟨d0, d1, d2, d3, d4, d5, d6, d7⟩ := at_cells8' (at_kept B0 k1)
      clear k1 A0 B0
      go_wp2_with fail
      refine (hM _).mono ?_
      rintro e w2 ⟨rfl, k2⟩
      replace K0 := kept_trans K0 k2
      clear k2 c0 c1 c2 c3 c4 c5 c6 c7 d0 d1 d2 d3 d4 d5 d6 d7
      go_wp2_with fail
      go_ret
      exact ⟨ret_int HE.out, K0⟩
set_option maxHeartbeats 1600000 in
set_option maxRecDepth 100000 in
theorem refJoin_any (a b : R) (ha : a.body.size ≤ maxLen) (hb : b.body.size ≤ maxLen) (w : World) :
    Calls Try.prog 22 #[.agg #[.string a.key, .int .u64 a.s.p, .int .u32 a.s.l, .int .u8 a.s.n, .int .u8 a.kind, .int .u32 a.flags, .int .u64 a.exp, .string a.body], .agg #[.string b.key, .int .u64 b.s.p, .int .u32 b.s.l, .int .u8 b.s.n, .int .u8 b.kind, .int .u32 b.flags, .int .u64 b.exp, .string b.body]] w fun e w' => e = .returned (.agg #[.string (joinR a b).key, .int .u64 (joinR a b).s.p, .int .u32 (joinR a b).s.l, .int .u8 (joinR a b).s.n, .int .u8 (joinR a b).kind, .int .u32 (joinR a b).flags, .int .u64 (joinR a b).exp, .string (joinR a b).body]) ∧ Kept w w' := by
  have hz := zero27
  have K0 := kept_alloc (kept_alloc (kept_alloc (kept_refl w) (.cells #[.string a.key, .int .u64 a.s.p, .int .u32 a.s.l, .int .u8 a.s.n, .int .u8 a.kind, .int .u32 a.flags, .int .u64 a.exp, .string a.body] 27)) (.cells #[.string b.key, .int .u64 b.s.p, .int .u32 b.s.l, .int .u8 b.s.n, .int .u8 b.kind, .int .u32 b.flags, .int .u64 b.exp, .string b.body] 27)) (.cells #[.string zeroR.key, .int .u64 zeroR.s.p, .int .u32 zeroR.s.l, .int .u8 zeroR.s.n, .int .u8 zeroR.kind, .int .u32 zeroR.flags, .int .u64 zeroR.exp, .string zeroR.body] 27)
  have A0 := at_alloc (at_alloc (at_new w #[.string a.key, .int .u64 a.s.p, .int .u32 a.s.l, .int .u8 a.s.n, .int .u8 a.kind, .int .u32 a.flags, .int .u64 a.exp, .string a.body] 27) (.cells #[.string b.key, .int .u64 b.s.p, .int .u32 b.s.l, .int .u8 b.s.n, .int .u8 b.kind, .int .u32 b.flags, .int .u64 b.exp, .string b.body] 27)) (.cells #[.string zeroR.key, .int .u64 zeroR.s.p, .int .u32 zeroR.s.l, .int .u8 zeroR.s.n, .int .u8 zeroR.kind, .int .u32 zeroR.flags, .int .u64 zeroR.exp, .string zeroR.body] 27)
  have B0 := at_alloc (at_new (w.alloc (.cells #[.string a.key, .int .u64 a.s.p, .int .u32 a.s.l, .int .u8 a.s.n, .int .u8 a.kind, .int .u32 a.flags, .int .u64 a.exp, .string a.body] 27)) #[.string b.key, .int .u64 b.s.p, .int .u32 b.s.l, .int .u8 b.s.n, .int .u8 b.kind, .int .u32 b.flags, .int .u64 b.exp, .string b.body] 27) (.cells #[.string zeroR.key, .int .u64 zeroR.s.p, .int .u32 zeroR.s.l, .int .u8 zeroR.s.n, .int .u8 zeroR.kind, .int .u32 zeroR.flags, .int .u64 zeroR.exp, .string zeroR.body] 27)
  have C0 := at_new ((w.alloc (.cells #[.string a.key, .int .u64 a.s.p, .int .u32 a.s.l, .int .u8 a.s.n, .int .u8 a.kind, .int .u32 a.flags, .int .u64 a.exp, .string a.body] 27)).alloc (.cells #[.string b.key, .int .u64 b.s.p, .int .u32 b.s.l, .int .u8 b.s.n, .int .u8 b.kind, .int .u32 b.flags, .int .u64 b.exp, .string b.body] 27)) #[.string zeroR.key, .int .u64 zeroR.s.p, .int .u32 zeroR.s.l, .int .u8 zeroR.s.n, .int .u8 zeroR.kind, .int .u32 zeroR.flags, .int .u64 zeroR.exp, .string zeroR.body] 27
  simp only [World.size_alloc] at B0 C0
  have HS : Hid (∀ (u : World) (a0 a1 a2 a3 a4 a5 a6 a7 : Value), Kept w u → Kept w (set8 u (w.heap.size + 1 + 1) a0 a1 a2 a3 a4 a5 a6 a7)) := fun u a0 a1 a2 a3 a4 a5 a6 a7 h => kept_set8 h (by omega) _ _ _ _ _ _ _ _
  simp only [zeroR, zero] at K0 A0 B0 C0
  have hL := refLess_any a b ha hb
  clear ha hb
  cases h : lessR a b with
  | true =>
    rw [h] at hL
    have hj : cmpR a b < 0 := by have := less_true h; omega
    rw [join_left hj]
    clear hj h
    go_enter Try.func22, Try.ntmps22
    go_wp2_with fail
    generalize ((w.alloc (.cells #[.string a.key, .int .u64 a.s.p, .int .u32 a.s.l, .int .u8 a.s.n, .int .u8 a.kind, .int .u32 a.flags, .int .u64 a.exp, .string a.body] 27)).alloc (.cells #[.string b.key, .int .u64 b.s.p, .int .u32 b.s.l, .int .u8 b.s.n, .int .u8 b.kind, .int .u32 b.flags, .int .u64 b.exp, .string b.body] 27)).alloc (.cells #[.string ⟨#[]⟩, .int .u64 0, .int .u32 0, .int .u8 0, .int .u8 0, .int .u32 0, .int .u64 0, .string ⟨#[]⟩] 27) = w0 at *
    generalize w.heap.size = X at *
    generalize X + 1 = Y at *
    generalize Y + 1 = Z at *
    refine (hL _).mono ?_
    rintro e w1 ⟨rfl, k1⟩
    have K1 := kept_trans K0 k1
    have B1 := at_kept B0 k1
    have C1 := at_kept C0 k1
    clear k1 K0 A0 B0 C0 hL
    obtain ⟨c0, c1, c2, c3, c4, c5, c6, c7⟩ := at_cells8' B1
    obtain ⟨d0, d1, d2, d3, d4, d5, d6, d7, df⟩ := at_cells8 C1
    have E3 := hid (at_set8 C1 (.string b.key) (.int .u64 b.s.p) (.int .u32 b.s.l) (.int .u8 b.s.n) (.int .u8 b.kind) (.int .u32 b.flags) (.int .u64 b.exp) (.string b.body))
    have E4 := hid (HS.out w1 (.string b.key) (.int .u64 b.s.p) (.int .u32 b.s.l) (.int .u8 b.s.n) (.int .u8 b.kind) (.int .u32 b.flags) (.int .u64 b.exp) (.string b.body) K1)
    clear K1 C1 B1
    go_wp2_with fail
    exact bodyPost_ret (res1 Try.results22 _ rfl E3.out) rfl ⟨rfl, E4.out⟩
  | false =>
    rw [h] at hL
    have hj : ¬ cmpR a b < 0 := by have := less_false h; have := good_rec.one a b; omega
    rw [join_right hj]
    clear hj h
    go_enter Try.func22, Try.ntmps22
    go_wp2_with fail
    generalize ((w.alloc (.cells #[.string a.key, .int .u64 a.s.p, .int .u32 a.s.l, .int .u8 a.s.n, .int .u8 a.kind, .int .u32 a.flags, .int .u64 a.exp, .string a.body] 27)).alloc (.cells #[.string b.key, .int .u64 b.s.p, .int .u32 b.s.l, .int .u8 b.s.n, .int .u8 b.kind, .int .u32 b.flags, .int .u64 b.exp, .string b.body] 27)).alloc (.cells #[.string ⟨#[]⟩, .int .u64 0, .int .u32 0, .int .u8 0, .int .u8 0, .int .u32 0, .int .u64 0, .string ⟨#[]⟩] 27) = w0 at *
    generalize w.heap.size = X at *
    generalize X + 1 = Y at *
    generalize Y + 1 = Z at *
    refine (hL _).mono ?_
    rintro e w1 ⟨rfl, k1⟩
    have K1 := kept_trans K0 k1
    have A1 := at_kept A0 k1
    have C1 := at_kept C0 k1
    clear k1 K0 A0 B0 C0 hL
    obtain ⟨c0, c1, c2, c3, c4, c5, c6, c7⟩ := at_cells8' A1
    obtain ⟨d0, d1, d2, d3, d4, d5, d6, d7, df⟩ := at_cells8 C1
    have E3 := hid (at_set8 C1 (.string a.key) (.int .u64 a.s.p) (.int .u32 a.s.l) (.int .u8 a.s.n) (.int .u8 a.kind) (.int .u32 a.flags) (.int .u64 a.exp) (.string a.body))
    have E4 := hid (HS.out w1 (.string a.key) (.int .u64 a.s.p) (.int .u32 a.s.l) (.int .u8 a.s.n) (.int .u8 a.kind) (.int .u32 a.flags) (.int .u64 a.exp) (.string a.body) K1)
    clear K1 C1 A1
    go_wp2_with fail
    exact bodyPost_ret (res1 Try.results22 _ rfl E3.out) rfl ⟨rfl, E4.out⟩
end Go.Proofs.Ytnkfhacmkimncaa
