/- The law that records stand in one order, walked: it answers true and turns nothing that was there. -/
import Derived.Test.YtnkfhacmkimncaaOpen
import Derived.Test.YtnkfhacmkimncaaFixed
import Derived.Test.YtnkfhacmkimncaaEqRec
namespace Go.Proofs.Ytnkfhacmkimncaa
open Go.ChangeShapes Go.WideShapes Go.ChangeAt Go.RowKit
set_option linter.unusedVariables false
set_option linter.unusedSimpArgs false

theorem great3 (a b c : R) (Y : Nat) (w : World) (h : At w Y #[.string a.key, .int .u64 a.s.p, .int .u32 a.s.l, .int .u8 a.s.n, .int .u8 a.kind, .int .u32 a.flags, .int .u64 a.exp, .string a.body, .string b.key, .int .u64 b.s.p, .int .u32 b.s.l, .int .u8 b.s.n, .int .u8 b.kind, .int .u32 b.flags, .int .u64 b.exp, .string b.body, .string c.key, .int .u64 c.s.p, .int .u32 c.s.l, .int .u8 c.s.n, .int .u8 c.kind, .int .u32 c.flags, .int .u64 c.exp, .string c.body] 27) : Calls Try.prog 9 #[.slice (some ⟨Y, 0, none⟩) 3 3] w fun e w' => e = .returned (.bool (greatR a || (greatR b || greatR c))) ∧ Kept w w' := by
  have := great_any [a, b, c] Y w (by simp) (at_lt h) (fun i hi => by
    match i, hi with
    | 0, _ => exact ⟨at_cell h 0, at_cell h 1, at_cell h 2, at_cell h 3, at_cell h 4, at_cell h 5, at_cell h 6, at_cell h 7⟩
    | 1, _ => exact ⟨at_cell h 8, at_cell h 9, at_cell h 10, at_cell h 11, at_cell h 12, at_cell h 13, at_cell h 14, at_cell h 15⟩
    | 2, _ => exact ⟨at_cell h 16, at_cell h 17, at_cell h 18, at_cell h 19, at_cell h 20, at_cell h 21, at_cell h 22, at_cell h 23⟩)
  simpa using this
theorem held24 {X Y Z T : Nat} {a b c : R} {w0 w1 : World} (A0 : At w0 X #[.string a.key, .int .u64 a.s.p, .int .u32 a.s.l, .int .u8 a.s.n, .int .u8 a.kind, .int .u32 a.flags, .int .u64 a.exp, .string a.body] T) (B0 : At w0 Y #[.string b.key, .int .u64 b.s.p, .int .u32 b.s.l, .int .u8 b.s.n, .int .u8 b.kind, .int .u32 b.flags, .int .u64 b.exp, .string b.body] T) (C0 : At w0 Z #[.string c.key, .int .u64 c.s.p, .int .u32 c.s.l, .int .u8 c.s.n, .int .u8 c.kind, .int .u32 c.flags, .int .u64 c.exp, .string c.body] T) (k : Kept w0 w1) : (w1.cell? ⟨X, 0, none⟩ = some (.string a.key) ∧ w1.cell? ⟨X, 1, none⟩ = some (.int .u64 a.s.p) ∧ w1.cell? ⟨X, 2, none⟩ = some (.int .u32 a.s.l) ∧ w1.cell? ⟨X, 3, none⟩ = some (.int .u8 a.s.n) ∧ w1.cell? ⟨X, 4, none⟩ = some (.int .u8 a.kind) ∧ w1.cell? ⟨X, 5, none⟩ = some (.int .u32 a.flags) ∧ w1.cell? ⟨X, 6, none⟩ = some (.int .u64 a.exp) ∧ w1.cell? ⟨X, 7, none⟩ = some (.string a.body)) ∧ (w1.cell? ⟨Y, 0, none⟩ = some (.string b.key) ∧ w1.cell? ⟨Y, 1, none⟩ = some (.int .u64 b.s.p) ∧ w1.cell? ⟨Y, 2, none⟩ = some (.int .u32 b.s.l) ∧ w1.cell? ⟨Y, 3, none⟩ = some (.int .u8 b.s.n) ∧ w1.cell? ⟨Y, 4, none⟩ = some (.int .u8 b.kind) ∧ w1.cell? ⟨Y, 5, none⟩ = some (.int .u32 b.flags) ∧ w1.cell? ⟨Y, 6, none⟩ = some (.int .u64 b.exp) ∧ w1.cell? ⟨Y, 7, none⟩ = some (.string b.body)) ∧ (w1.cell? ⟨Z, 0, none⟩ = some (.string c.key) ∧ w1.cell? ⟨Z, 1, none⟩ = some (.int .u64 c.s.p) ∧ w1.cell? ⟨Z, 2, none⟩ = some (.int .u32 c.s.l) ∧ w1.cell? ⟨Z, 3, none⟩ = some (.int .u8 c.s.n) ∧ w1.cell? ⟨Z, 4, none⟩ = some (.int .u8 c.kind) ∧ w1.cell? ⟨Z, 5, none⟩ = some (.int .u32 c.flags) ∧ w1.cell? ⟨Z, 6, none⟩ = some (.int .u64 c.exp) ∧ w1.cell? ⟨Z, 7, none⟩ = some (.string c.body)) :=
  ⟨at_cells8' (at_kept A0 k), at_cells8' (at_kept B0 k), at_cells8' (at_kept C0 k)⟩
theorem order_cases (a b c : R) : cmpR a b = 1 ∨ (cmpR a b = -1 ∧ cmpR b c = 1) ∨ (cmpR a b = 0 ∧ cmpR b c = 1) ∨ (cmpR a b = -1 ∧ cmpR b c = -1 ∧ cmpR a c = -1) ∨ (cmpR a b = -1 ∧ cmpR b c = 0 ∧ cmpR a c = -1) ∨ (cmpR a b = 0 ∧ cmpR b c = -1 ∧ cmpR a c = -1) ∨ (cmpR a b = 0 ∧ cmpR b c = 0 ∧ cmpR a c = 0) := by
  have h1 := good_rec.one a b
  have h2 := good_rec.one b c
  have h3 := good_rec.one a c
  have h4 := good_rec.tr a b c
  generalize cmpR a b = x at *
  generalize cmpR b c = y at *
  generalize cmpR a c = z at *
  rcases h1 with rfl | rfl | rfl
  · rcases h2 with rfl | rfl | rfl
    · have h5 := (h4 (by omega) (by omega)).2.2 (.inl (by omega))
      exact .inr (.inr (.inr (.inl ⟨rfl, rfl, by omega⟩)))
    · have h5 := (h4 (by omega) (by omega)).2.2 (.inl (by omega))
      exact .inr (.inr (.inr (.inr (.inl ⟨rfl, rfl, by omega⟩))))
    · exact .inr (.inl ⟨rfl, rfl⟩)
  · rcases h2 with rfl | rfl | rfl
    · have h5 := (h4 (by omega) (by omega)).2.2 (.inr (by omega))
      exact .inr (.inr (.inr (.inr (.inr (.inl ⟨rfl, rfl, by omega⟩)))))
    · have h5 := h4 (by omega) (by omega)
      have h6 : ¬ z < 0 := fun h => by rcases h5.2.1 h with h | h <;> omega
      exact .inr (.inr (.inr (.inr (.inr (.inr ⟨rfl, rfl, by omega⟩)))))
    · exact .inr (.inr (.inl ⟨rfl, rfl⟩))
  · exact .inl rfl
theorem same_key (a b : R) (w : World) : (Op.equalIn 10000 27 (.agg #[.string a.key, .int .u64 a.s.p, .int .u32 a.s.l, .int .u8 a.s.n, .int .u8 a.kind, .int .u32 a.flags, .int .u64 a.exp, .string a.body]) (.agg #[.string a.key, .int .u64 b.s.p, .int .u32 b.s.l, .int .u8 b.s.n, .int .u8 b.kind, .int .u32 b.flags, .int .u64 b.exp, .string b.body])).run Try.prog w = .ok (decide (cmpR a b = 0)) w := by
  have h := eq_rec a { b with key := a.key } w
  have e : sameR a { b with key := a.key } = decide (cmpR a b = 0) := by
    rw [Bool.eq_iff_iff, sameR_iff, decide_eq_true_iff, cmpR_same]
  rw [e] at h
  exact h
set_option maxHeartbeats 3200000 in
set_option maxRecDepth 100000 in
theorem recOrder_at (a b c : R) (x y z : Int) (hx : cmpR a b = x) (hy : cmpR b c = y) (hz : cmpR a c = z) (w : World) :
    Calls Try.prog 5 #[.agg #[.string a.key, .int .u64 a.s.p, .int .u32 a.s.l, .int .u8 a.s.n, .int .u8 a.kind, .int .u32 a.flags, .int .u64 a.exp, .string a.body], .agg #[.string b.key, .int .u64 b.s.p, .int .u32 b.s.l, .int .u8 b.s.n, .int .u8 b.kind, .int .u32 b.flags, .int .u64 b.exp, .string b.body], .agg #[.string c.key, .int .u64 c.s.p, .int .u32 c.s.l, .int .u8 c.s.n, .int .u8 c.kind, .int .u32 c.flags, .int .u64 c.exp, .string c.body]] w fun e w' => e = .returned (.bool true) ∧ Kept w w' := by
  have HD := hid (order_cases a b c)
  have H1 := Compare_any a b
  have H2 := Compare_any b c
  have H3 := Compare_any a c
  have H4 := Compare_any b a
  have hE := same_key a b
  rw [good_rec.neg a b] at H4
  rw [hx, hy, hz] at HD
  rw [hx] at H1 H4 hE
  rw [hy] at H2
  rw [hz] at H3
  clear hx hy hz
  have hz27 := zero27
  have K0 := kept_alloc (kept_alloc (kept_alloc (kept_alloc (kept_refl w) (.cells #[.string a.key, .int .u64 a.s.p, .int .u32 a.s.l, .int .u8 a.s.n, .int .u8 a.kind, .int .u32 a.flags, .int .u64 a.exp, .string a.body] 27)) (.cells #[.string b.key, .int .u64 b.s.p, .int .u32 b.s.l, .int .u8 b.s.n, .int .u8 b.kind, .int .u32 b.flags, .int .u64 b.exp, .string b.body] 27)) (.cells #[.string c.key, .int .u64 c.s.p, .int .u32 c.s.l, .int .u8 c.s.n, .int .u8 c.kind, .int .u32 c.flags, .int .u64 c.exp, .string c.body] 27)) (.cells #[.string a.key, .int .u64 a.s.p, .int .u32 a.s.l, .int .u8 a.s.n, .int .u8 a.kind, .int .u32 a.flags, .int .u64 a.exp, .string a.body, .string b.key, .int .u64 b.s.p, .int .u32 b.s.l, .int .u8 b.s.n, .int .u8 b.kind, .int .u32 b.flags, .int .u64 b.exp, .string b.body, .string c.key, .int .u64 c.s.p, .int .u32 c.s.l, .int .u8 c.s.n, .int .u8 c.kind, .int .u32 c.flags, .int .u64 c.exp, .string c.body] 27)
  have A0 := at_alloc (at_alloc (at_alloc (at_new w #[.string a.key, .int .u64 a.s.p, .int .u32 a.s.l, .int .u8 a.s.n, .int .u8 a.kind, .int .u32 a.flags, .int .u64 a.exp, .string a.body] 27) (.cells #[.string b.key, .int .u64 b.s.p, .int .u32 b.s.l, .int .u8 b.s.n, .int .u8 b.kind, .int .u32 b.flags, .int .u64 b.exp, .string b.body] 27)) (.cells #[.string c.key, .int .u64 c.s.p, .int .u32 c.s.l, .int .u8 c.s.n, .int .u8 c.kind, .int .u32 c.flags, .int .u64 c.exp, .string c.body] 27)) (.cells #[.string a.key, .int .u64 a.s.p, .int .u32 a.s.l, .int .u8 a.s.n, .int .u8 a.kind, .int .u32 a.flags, .int .u64 a.exp, .string a.body, .string b.key, .int .u64 b.s.p, .int .u32 b.s.l, .int .u8 b.s.n, .int .u8 b.kind, .int .u32 b.flags, .int .u64 b.exp, .string b.body, .string c.key, .int .u64 c.s.p, .int .u32 c.s.l, .int .u8 c.s.n, .int .u8 c.kind, .int .u32 c.flags, .int .u64 c.exp, .string c.body] 27)
  have B0 := at_alloc (at_alloc (at_new (w.alloc (.cells #[.string a.key, .int .u64 a.s.p, .int .u32 a.s.l, .int .u8 a.s.n, .int .u8 a.kind, .int .u32 a.flags, .int .u64 a.exp, .string a.body] 27)) #[.string b.key, .int .u64 b.s.p, .int .u32 b.s.l, .int .u8 b.s.n, .int .u8 b.kind, .int .u32 b.flags, .int .u64 b.exp, .string b.body] 27) (.cells #[.string c.key, .int .u64 c.s.p, .int .u32 c.s.l, .int .u8 c.s.n, .int .u8 c.kind, .int .u32 c.flags, .int .u64 c.exp, .string c.body] 27)) (.cells #[.string a.key, .int .u64 a.s.p, .int .u32 a.s.l, .int .u8 a.s.n, .int .u8 a.kind, .int .u32 a.flags, .int .u64 a.exp, .string a.body, .string b.key, .int .u64 b.s.p, .int .u32 b.s.l, .int .u8 b.s.n, .int .u8 b.kind, .int .u32 b.flags, .int .u64 b.exp, .string b.body, .string c.key, .int .u64 c.s.p, .int .u32 c.s.l, .int .u8 c.s.n, .int .u8 c.kind, .int .u32 c.flags, .int .u64 c.exp, .string c.body] 27)
  have C0 := at_alloc (at_new ((w.alloc (.cells #[.string a.key, .int .u64 a.s.p, .int .u32 a.s.l, .int .u8 a.s.n, .int .u8 a.kind, .int .u32 a.flags, .int .u64 a.exp, .string a.body] 27)).alloc (.cells #[.string b.key, .int .u64 b.s.p, .int .u32 b.s.l, .int .u8 b.s.n, .int .u8 b.kind, .int .u32 b.flags, .int .u64 b.exp, .string b.body] 27)) #[.string c.key, .int .u64 c.s.p, .int .u32 c.s.l, .int .u8 c.s.n, .int .u8 c.kind, .int .u32 c.flags, .int .u64 c.exp, .string c.body] 27) (.cells #[.string a.key, .int .u64 a.s.p, .int .u32 a.s.l, .int .u8 a.s.n, .int .u8 a.kind, .int .u32 a.flags, .int .u64 a.exp, .string a.body, .string b.key, .int .u64 b.s.p, .int .u32 b.s.l, .int .u8 b.s.n, .int .u8 b.kind, .int .u32 b.flags, .int .u64 b.exp, .string b.body, .string c.key, .int .u64 c.s.p, .int .u32 c.s.l, .int .u8 c.s.n, .int .u8 c.kind, .int .u32 c.flags, .int .u64 c.exp, .string c.body] 27)
  have G0 := at_new (((w.alloc (.cells #[.string a.key, .int .u64 a.s.p, .int .u32 a.s.l, .int .u8 a.s.n, .int .u8 a.kind, .int .u32 a.flags, .int .u64 a.exp, .string a.body] 27)).alloc (.cells #[.string b.key, .int .u64 b.s.p, .int .u32 b.s.l, .int .u8 b.s.n, .int .u8 b.kind, .int .u32 b.flags, .int .u64 b.exp, .string b.body] 27)).alloc (.cells #[.string c.key, .int .u64 c.s.p, .int .u32 c.s.l, .int .u8 c.s.n, .int .u8 c.kind, .int .u32 c.flags, .int .u64 c.exp, .string c.body] 27)) #[.string a.key, .int .u64 a.s.p, .int .u32 a.s.l, .int .u8 a.s.n, .int .u8 a.kind, .int .u32 a.flags, .int .u64 a.exp, .string a.body, .string b.key, .int .u64 b.s.p, .int .u32 b.s.l, .int .u8 b.s.n, .int .u8 b.kind, .int .u32 b.flags, .int .u64 b.exp, .string b.body, .string c.key, .int .u64 c.s.p, .int .u32 c.s.l, .int .u8 c.s.n, .int .u8 c.kind, .int .u32 c.flags, .int .u64 c.exp, .string c.body] 27
  simp only [World.size_alloc] at B0 C0 G0
  go_enter Try.func5, Try.ntmps5
  go_wp2_with fail
  generalize (((w.alloc (.cells #[.string a.key, .int .u64 a.s.p, .int .u32 a.s.l, .int .u8 a.s.n, .int .u8 a.kind, .int .u32 a.flags, .int .u64 a.exp, .string a.body] 27)).alloc (.cells #[.string b.key, .int .u64 b.s.p, .int .u32 b.s.l, .int .u8 b.s.n, .int .u8 b.kind, .int .u32 b.flags, .int .u64 b.exp, .string b.body] 27)).alloc (.cells #[.string c.key, .int .u64 c.s.p, .int .u32 c.s.l, .int .u8 c.s.n, .int .u8 c.kind, .int .u32 c.flags, .int .u64 c.exp, .string c.body] 27)).alloc (.cells #[.string a.key, .int .u64 a.s.p, .int .u32 a.s.l, .int .u8 a.s.n, .int .u8 a.kind, .int .u32 a.flags, .int .u64 a.exp, .string a.body, .string b.key, .int .u64 b.s.p, .int .u32 b.s.l, .int .u8 b.s.n, .int .u8 b.kind, .int .u32 b.flags, .int .u64 b.exp, .string b.body, .string c.key, .int .u64 c.s.p, .int .u32 c.s.l, .int .u8 c.s.n, .int .u8 c.kind, .int .u32 c.flags, .int .u64 c.exp, .string c.body] 27) = w0 at *
  generalize w.heap.size = X at *
  generalize X + 1 = Y at *
  generalize Y + 1 = Z at *
  generalize Z + 1 = G at *
  refine (great3 a b c G _ G0).mono ?_
  rintro e w1 ⟨rfl, k1⟩
  replace K0 := kept_trans K0 k1
  replace A0 := at_kept A0 k1
  replace B0 := at_kept B0 k1
  replace C0 := at_kept C0 k1
  clear k1 G0
  cases hg : (greatR a || (greatR b || greatR c)) with
  | true =>
    go_wp2_with fail
    refine (fixed_any _).mono ?_
    rintro e w2 ⟨rfl, k2⟩
    replace K0 := kept_trans K0 k2
    go_wp2_with fail
    go_ret
    exact ⟨rfl, K0⟩
  | false =>
    go_wp2_with fail
    clear hg
    have k0 : Kept w1 w1.drew := kept_refl w1
    refine wp_region_noPanic ?_
    refine wp_region_held_drew (S := (fun w' => (w'.cell? ⟨X, 0, none⟩ = some (.string a.key) ∧ w'.cell? ⟨X, 1, none⟩ = some (.int .u64 a.s.p) ∧ w'.cell? ⟨X, 2, none⟩ = some (.int .u32 a.s.l) ∧ w'.cell? ⟨X, 3, none⟩ = some (.int .u8 a.s.n) ∧ w'.cell? ⟨X, 4, none⟩ = some (.int .u8 a.kind) ∧ w'.cell? ⟨X, 5, none⟩ = some (.int .u32 a.flags) ∧ w'.cell? ⟨X, 6, none⟩ = some (.int .u64 a.exp) ∧ w'.cell? ⟨X, 7, none⟩ = some (.string a.body)) ∧ (w'.cell? ⟨Y, 0, none⟩ = some (.string b.key) ∧ w'.cell? ⟨Y, 1, none⟩ = some (.int .u64 b.s.p) ∧ w'.cell? ⟨Y, 2, none⟩ = some (.int .u32 b.s.l) ∧ w'.cell? ⟨Y, 3, none⟩ = some (.int .u8 b.s.n) ∧ w'.cell? ⟨Y, 4, none⟩ = some (.int .u8 b.kind) ∧ w'.cell? ⟨Y, 5, none⟩ = some (.int .u32 b.flags) ∧ w'.cell? ⟨Y, 6, none⟩ = some (.int .u64 b.exp) ∧ w'.cell? ⟨Y, 7, none⟩ = some (.string b.body)) ∧ (w'.cell? ⟨Z, 0, none⟩ = some (.string c.key) ∧ w'.cell? ⟨Z, 1, none⟩ = some (.int .u64 c.s.p) ∧ w'.cell? ⟨Z, 2, none⟩ = some (.int .u32 c.s.l) ∧ w'.cell? ⟨Z, 3, none⟩ = some (.int .u8 c.s.n) ∧ w'.cell? ⟨Z, 4, none⟩ = some (.int .u8 c.kind) ∧ w'.cell? ⟨Z, 5, none⟩ = some (.int .u32 c.flags) ∧ w'.cell? ⟨Z, 6, none⟩ = some (.int .u64 c.exp) ∧ w'.cell? ⟨Z, 7, none⟩ = some (.string c.body)))) (by kernel_rfl) (held24 A0 B0 C0 (by assumption)) (fun hHeld => ?_)
    refine wpAnyH_take (i := 0) (v := .agg #[.string a.key, .int .u64 a.s.p, .int .u32 a.s.l, .int .u8 a.s.n, .int .u8 a.kind, .int .u32 a.flags, .int .u64 a.exp, .string a.body]) rfl (by kernel_rfl) (by kernel_rfl) (by kernel_rfl) (fun _ _ _ h => h) (Or.inl ⟨by rfl, fun w hSw => by (try dsimp only at hSw); go_simp⟩) (by assumption) ?_
    try simp only [List.getElem_toArray, List.getElem_cons_zero, List.getElem_cons_succ, Act.put, List.setIfInBounds_toArray, List.set_cons_zero, List.set_cons_succ]
    refine wpAnyH_take (i := 1) (v := .agg #[.string b.key, .int .u64 b.s.p, .int .u32 b.s.l, .int .u8 b.s.n, .int .u8 b.kind, .int .u32 b.flags, .int .u64 b.exp, .string b.body]) rfl (by kernel_rfl) (by kernel_rfl) (by kernel_rfl) (fun _ _ _ h => h) (Or.inl ⟨by rfl, fun w hSw => by (try dsimp only at hSw); go_simp⟩) (by assumption) ?_
    try simp only [List.getElem_toArray, List.getElem_cons_zero, List.getElem_cons_succ, Act.put, List.setIfInBounds_toArray, List.set_cons_zero, List.set_cons_succ]
    refine wpAnyH_take (i := 3) (v := .agg #[.string b.key, .int .u64 b.s.p, .int .u32 b.s.l, .int .u8 b.s.n, .int .u8 b.kind, .int .u32 b.flags, .int .u64 b.exp, .string b.body]) rfl (by kernel_rfl) (by kernel_rfl) (by kernel_rfl) (fun _ _ _ h => h) (Or.inl ⟨by rfl, fun w hSw => by (try dsimp only at hSw); go_simp⟩) (by assumption) ?_
    try simp only [List.getElem_toArray, List.getElem_cons_zero, List.getElem_cons_succ, Act.put, List.setIfInBounds_toArray, List.set_cons_zero, List.set_cons_succ]
    refine wpAnyH_take (i := 4) (v := .agg #[.string c.key, .int .u64 c.s.p, .int .u32 c.s.l, .int .u8 c.s.n, .int .u8 c.kind, .int .u32 c.flags, .int .u64 c.exp, .string c.body]) rfl (by kernel_rfl) (by kernel_rfl) (by kernel_rfl) (fun _ _ _ h => h) (Or.inl ⟨by rfl, fun w hSw => by (try dsimp only at hSw); go_simp⟩) (by assumption) ?_
    try simp only [List.getElem_toArray, List.getElem_cons_zero, List.getElem_cons_succ, Act.put, List.setIfInBounds_toArray, List.set_cons_zero, List.set_cons_succ]
    refine wpAnyH_take (i := 6) (v := .agg #[.string a.key, .int .u64 a.s.p, .int .u32 a.s.l, .int .u8 a.s.n, .int .u8 a.kind, .int .u32 a.flags, .int .u64 a.exp, .string a.body]) rfl (by kernel_rfl) (by kernel_rfl) (by kernel_rfl) (fun _ _ _ h => h) (Or.inl ⟨by rfl, fun w hSw => by (try dsimp only at hSw); go_simp⟩) (by assumption) ?_
    try simp only [List.getElem_toArray, List.getElem_cons_zero, List.getElem_cons_succ, Act.put, List.setIfInBounds_toArray, List.set_cons_zero, List.set_cons_succ]
    refine wpAnyH_take (i := 7) (v := .agg #[.string c.key, .int .u64 c.s.p, .int .u32 c.s.l, .int .u8 c.s.n, .int .u8 c.kind, .int .u32 c.flags, .int .u64 c.exp, .string c.body]) rfl (by kernel_rfl) (by kernel_rfl) (by kernel_rfl) (fun _ _ _ h => h) (Or.inl ⟨by rfl, fun w hSw => by (try dsimp only at hSw); go_simp⟩) (by assumption) ?_
    try simp only [List.getElem_toArray, List.getElem_cons_zero, List.getElem_cons_succ, Act.put, List.setIfInBounds_toArray, List.set_cons_zero, List.set_cons_succ]
    refine wpAnyH_ready (rs := [2]) (by kernel_rfl) (by simp) ?_
    refine AllReadyH.cons (i := 2) rfl (fun K hK => ?_) AllReadyH.nil
    go_simp
    refine (H1 _).mono ?_
    rintro e w3 ⟨rfl, h3⟩
    replace k0 := kept_trans k0 h3
    clear h3
    clear hHeld
    show K _ _
    refine hK.out _ _ (held24 A0 B0 C0 (by assumption)) (fun hHeld => ?_)
    clear hK K
    try simp only [List.getElem_toArray, List.getElem_cons_zero, List.getElem_cons_succ, Act.put, List.setIfInBounds_toArray, List.set_cons_zero, List.set_cons_succ]
    refine wpAnyH_ready (rs := [5]) (by kernel_rfl) (by simp) ?_
    refine AllReadyH.cons (i := 5) rfl (fun K hK => ?_) AllReadyH.nil
    go_simp
    refine (H2 _).mono ?_
    rintro e w3 ⟨rfl, h3⟩
    replace k0 := kept_trans k0 h3
    clear h3
    clear hHeld
    show K _ _
    refine hK.out _ _ (held24 A0 B0 C0 (by assumption)) (fun hHeld => ?_)
    clear hK K
    try simp only [List.getElem_toArray, List.getElem_cons_zero, List.getElem_cons_succ, Act.put, List.setIfInBounds_toArray, List.set_cons_zero, List.set_cons_succ]
    refine wpAnyH_ready (rs := [8]) (by kernel_rfl) (by simp) ?_
    refine AllReadyH.cons (i := 8) rfl (fun K hK => ?_) AllReadyH.nil
    go_simp
    refine (H3 _).mono ?_
    rintro e w3 ⟨rfl, h3⟩
    replace k0 := kept_trans k0 h3
    clear h3
    clear hHeld
    show K _ _
    refine hK.out _ _ (held24 A0 B0 C0 (by assumption)) (fun hHeld => ?_)
    clear hK K
    try simp only [List.getElem_toArray, List.getElem_cons_zero, List.getElem_cons_succ, Act.put, List.setIfInBounds_toArray, List.set_cons_zero, List.set_cons_succ]
    refine wpAnyH_take (i := 9) (v := .int .i64 x) rfl (by kernel_rfl) (by kernel_rfl) (by kernel_rfl) (fun _ _ _ h => h) (Or.inl ⟨by rfl, fun w hSw => by (try dsimp only at hSw); go_simp⟩) (by assumption) ?_
    try simp only [List.getElem_toArray, List.getElem_cons_zero, List.getElem_cons_succ, Act.put, List.setIfInBounds_toArray, List.set_cons_zero, List.set_cons_succ]
    refine wpAnyH_take (i := 10) (v := .int .i64 y) rfl (by kernel_rfl) (by kernel_rfl) (by kernel_rfl) (fun _ _ _ h => h) (Or.inl ⟨by rfl, fun w hSw => by (try dsimp only at hSw); go_simp⟩) (by assumption) ?_
    try simp only [List.getElem_toArray, List.getElem_cons_zero, List.getElem_cons_succ, Act.put, List.setIfInBounds_toArray, List.set_cons_zero, List.set_cons_succ]
    refine wpAnyH_take (i := 11) (v := .int .i64 z) rfl (by kernel_rfl) (by kernel_rfl) (by kernel_rfl) (fun _ _ _ h => h) (Or.inl ⟨by rfl, fun w hSw => by (try dsimp only at hSw); go_simp⟩) (by assumption) ?_
    try simp only [List.getElem_toArray, List.getElem_cons_zero, List.getElem_cons_succ, Act.put, List.setIfInBounds_toArray, List.set_cons_zero, List.set_cons_succ]
    refine wpAnyH_done (by kernel_rfl) ?_ _
    refine NoPanic.normal ?_
    clear hHeld
    replace K0 := kept_trans K0 k0
    replace A0 := at_kept A0 k0
    replace B0 := at_kept B0 k0
    clear k0 C0 H1 H2 H3
    obtain ⟨c0, c1, c2, c3, c4, c5, c6, c7⟩ := at_cells8' A0
    obtain ⟨d0, d1, d2, d3, d4, d5, d6, d7⟩ := at_cells8' B0
    have K1 := hid (kept_alloc K0 (.cells #[.string a.key, .int .u64 b.s.p, .int .u32 b.s.l, .int .u8 b.s.n, .int .u8 b.kind, .int .u32 b.flags, .int .u64 b.exp, .string b.body] 27))
    have A1 := hid (at_alloc A0 (.cells #[.string a.key, .int .u64 b.s.p, .int .u32 b.s.l, .int .u8 b.s.n, .int .u8 b.kind, .int .u32 b.flags, .int .u64 b.exp, .string b.body] 27))
    have B1 := hid (at_alloc B0 (.cells #[.string a.key, .int .u64 b.s.p, .int .u32 b.s.l, .int .u8 b.s.n, .int .u8 b.kind, .int .u32 b.flags, .int .u64 b.exp, .string b.body] 27))
    have D1 := hid (at_new w3 #[.string a.key, .int .u64 b.s.p, .int .u32 b.s.l, .int .u8 b.s.n, .int .u8 b.kind, .int .u32 b.flags, .int .u64 b.exp, .string b.body] 27)
    have hlX := at_lt A0
    have hlY := at_lt B0
    clear K0 A0 B0
    go_wp2_with fail
    generalize w3.alloc (.cells #[.string a.key, .int .u64 b.s.p, .int .u32 b.s.l, .int .u8 b.s.n, .int .u8 b.kind, .int .u32 b.flags, .int .u64 b.exp, .string b.body] 27) = w4 at *
    generalize w3.heap.size = D at *
    clear c0 c1 c2 c3 c4 c5 c6 c7 d0 d1 d2 d3 d4 d5 d6 d7
    have K2 := K1.out
    have A2 := A1.out
    have B2 := B1.out
    have D2 := D1.out
    clear K1 A1 B1 D1 hlX hlY
    refine (fixed_any _).mono ?_
    rintro e w5 ⟨rfl, k5⟩
    replace K2 := kept_trans K2 k5
    replace A2 := at_kept A2 k5
    replace B2 := at_kept B2 k5
    replace D2 := at_kept D2 k5
    clear k5
    obtain ⟨c0, c1, c2, c3, c4, c5, c6, c7⟩ := at_cells8' A2
    obtain ⟨d0, d1, d2, d3, d4, d5, d6, d7⟩ := at_cells8' B2
    go_wp2_with fail
    refine (H4 _).mono ?_
    rintro e w6 ⟨rfl, k6⟩
    replace K2 := kept_trans K2 k6
    replace A2 := at_kept A2 k6
    replace D2 := at_kept D2 k6
    clear k6 B2 H4 c0 c1 c2 c3 c4 c5 c6 c7 d0 d1 d2 d3 d4 d5 d6 d7
    obtain ⟨c0, c1, c2, c3, c4, c5, c6, c7⟩ := at_cells8' A2
    obtain ⟨d0, d1, d2, d3, d4, d5, d6, d7, -⟩ := at_cells8 D2
    have K3 := hid K2
    clear K2 A2 D2
    rcases HD.out with rfl | ⟨rfl, rfl⟩ | ⟨rfl, rfl⟩ | ⟨rfl, rfl, rfl⟩ | ⟨rfl, rfl, rfl⟩ | ⟨rfl, rfl, rfl⟩ | ⟨rfl, rfl, rfl⟩
    all_goals
      go_wp2_with fail
      go_ret
      exact ⟨rfl, K3.out⟩
theorem recOrder_walk (a b c : R) (w : World) (ha : a.ok) (hb : b.ok) (hc : c.ok) :
    Calls Try.prog 5 #[.agg #[.string a.key, .int .u64 a.s.p, .int .u32 a.s.l, .int .u8 a.s.n, .int .u8 a.kind, .int .u32 a.flags, .int .u64 a.exp, .string a.body], .agg #[.string b.key, .int .u64 b.s.p, .int .u32 b.s.l, .int .u8 b.s.n, .int .u8 b.kind, .int .u32 b.flags, .int .u64 b.exp, .string b.body], .agg #[.string c.key, .int .u64 c.s.p, .int .u32 c.s.l, .int .u8 c.s.n, .int .u8 c.kind, .int .u32 c.flags, .int .u64 c.exp, .string c.body]] w fun e w' => e = .returned (.bool true) ∧ Kept w w' := recOrder_at a b c _ _ _ rfl rfl rfl w
end Go.Proofs.Ytnkfhacmkimncaa
