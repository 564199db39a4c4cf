/- The law on how two records stand to each other and on their join, walked: it answers true and turns nothing that was there. -/
import Derived.Test.YtnkfhacmkimncaaOpen
import Derived.Test.YtnkfhacmkimncaaFixed
import Derived.Test.YtnkfhacmkimncaaEqRec
namespace Go.Proofs.Ytnkfhacmkimncaa
open Go.ChangeShapes Go.WideShapes Go.ChangeAt Go.RowKit
set_option linter.unusedVariables false
set_option linter.unusedSimpArgs false

theorem great2 (a b : R) (Y : Nat) (w : World) (h : At w Y #[.string a.key, .int .u64 a.s.p, .int .u32 a.s.l, .int .u8 a.s.n, .int .u8 a.kind, .int .u32 a.flags, .int .u64 a.exp, .string a.body, .string b.key, .int .u64 b.s.p, .int .u32 b.s.l, .int .u8 b.s.n, .int .u8 b.kind, .int .u32 b.flags, .int .u64 b.exp, .string b.body] 27) : Calls Try.prog 9 #[.slice (some ⟨Y, 0, none⟩) 2 2] w fun e w' => e = .returned (.bool (greatR a || greatR b)) ∧ Kept w w' := by
  have := great_any [a, b] Y w (by simp) (at_lt h) (fun i hi => by
    match i, hi with
    | 0, _ => exact ⟨at_cell h 0, at_cell h 1, at_cell h 2, at_cell h 3, at_cell h 4, at_cell h 5, at_cell h 6, at_cell h 7⟩
    | 1, _ => exact ⟨at_cell h 8, at_cell h 9, at_cell h 10, at_cell h 11, at_cell h 12, at_cell h 13, at_cell h 14, at_cell h 15⟩)
  simpa using this
theorem not_great {r : R} (h : greatR r = false) : r.key.size ≤ 140737488355328 ∧ r.body.size ≤ 140737488355328 := by
  unfold greatR at h
  simp at h
  omega
set_option maxHeartbeats 3200000 in
set_option maxRecDepth 100000 in
theorem recOrders_walk (a b : R) (w : World) (ha : a.ok) (hb : b.ok) :
    Calls Try.prog 4 #[.agg #[.string a.key, .int .u64 a.s.p, .int .u32 a.s.l, .int .u8 a.s.n, .int .u8 a.kind, .int .u32 a.flags, .int .u64 a.exp, .string a.body], .agg #[.string b.key, .int .u64 b.s.p, .int .u32 b.s.l, .int .u8 b.s.n, .int .u8 b.kind, .int .u32 b.flags, .int .u64 b.exp, .string b.body]] w fun e w' => e = .returned (.bool true) ∧ Kept w w' := by
  have ha6 := ha.2.2.2.2.2
  have hb6 := hb.2.2.2.2.2
  clear ha hb
  have K0 := kept_alloc (kept_alloc (kept_alloc (kept_refl w) (.cells #[.string a.key, .int .u64 a.s.p, .int .u32 a.s.l, .int .u8 a.s.n, .int .u8 a.kind, .int .u32 a.flags, .int .u64 a.exp, .string a.body] 27)) (.cells #[.string b.key, .int .u64 b.s.p, .int .u32 b.s.l, .int .u8 b.s.n, .int .u8 b.kind, .int .u32 b.flags, .int .u64 b.exp, .string b.body] 27)) (.cells #[.string a.key, .int .u64 a.s.p, .int .u32 a.s.l, .int .u8 a.s.n, .int .u8 a.kind, .int .u32 a.flags, .int .u64 a.exp, .string a.body, .string b.key, .int .u64 b.s.p, .int .u32 b.s.l, .int .u8 b.s.n, .int .u8 b.kind, .int .u32 b.flags, .int .u64 b.exp, .string b.body] 27)
  have A0 := at_alloc (at_alloc (at_new w #[.string a.key, .int .u64 a.s.p, .int .u32 a.s.l, .int .u8 a.s.n, .int .u8 a.kind, .int .u32 a.flags, .int .u64 a.exp, .string a.body] 27) (.cells #[.string b.key, .int .u64 b.s.p, .int .u32 b.s.l, .int .u8 b.s.n, .int .u8 b.kind, .int .u32 b.flags, .int .u64 b.exp, .string b.body] 27)) (.cells #[.string a.key, .int .u64 a.s.p, .int .u32 a.s.l, .int .u8 a.s.n, .int .u8 a.kind, .int .u32 a.flags, .int .u64 a.exp, .string a.body, .string b.key, .int .u64 b.s.p, .int .u32 b.s.l, .int .u8 b.s.n, .int .u8 b.kind, .int .u32 b.flags, .int .u64 b.exp, .string b.body] 27)
  have B0 := at_alloc (at_new (w.alloc (.cells #[.string a.key, .int .u64 a.s.p, .int .u32 a.s.l, .int .u8 a.s.n, .int .u8 a.kind, .int .u32 a.flags, .int .u64 a.exp, .string a.body] 27)) #[.string b.key, .int .u64 b.s.p, .int .u32 b.s.l, .int .u8 b.s.n, .int .u8 b.kind, .int .u32 b.flags, .int .u64 b.exp, .string b.body] 27) (.cells #[.string a.key, .int .u64 a.s.p, .int .u32 a.s.l, .int .u8 a.s.n, .int .u8 a.kind, .int .u32 a.flags, .int .u64 a.exp, .string a.body, .string b.key, .int .u64 b.s.p, .int .u32 b.s.l, .int .u8 b.s.n, .int .u8 b.kind, .int .u32 b.flags, .int .u64 b.exp, .string b.body] 27)
  have C0 := at_new ((w.alloc (.cells #[.string a.key, .int .u64 a.s.p, .int .u32 a.s.l, .int .u8 a.s.n, .int .u8 a.kind, .int .u32 a.flags, .int .u64 a.exp, .string a.body] 27)).alloc (.cells #[.string b.key, .int .u64 b.s.p, .int .u32 b.s.l, .int .u8 b.s.n, .int .u8 b.kind, .int .u32 b.flags, .int .u64 b.exp, .string b.body] 27)) #[.string a.key, .int .u64 a.s.p, .int .u32 a.s.l, .int .u8 a.s.n, .int .u8 a.kind, .int .u32 a.flags, .int .u64 a.exp, .string a.body, .string b.key, .int .u64 b.s.p, .int .u32 b.s.l, .int .u8 b.s.n, .int .u8 b.kind, .int .u32 b.flags, .int .u64 b.exp, .string b.body] 27
  simp only [World.size_alloc] at B0 C0
  go_enter Try.func4, Try.ntmps4
  go_wp2_with fail
  generalize ((w.alloc (.cells #[.string a.key, .int .u64 a.s.p, .int .u32 a.s.l, .int .u8 a.s.n, .int .u8 a.kind, .int .u32 a.flags, .int .u64 a.exp, .string a.body] 27)).alloc (.cells #[.string b.key, .int .u64 b.s.p, .int .u32 b.s.l, .int .u8 b.s.n, .int .u8 b.kind, .int .u32 b.flags, .int .u64 b.exp, .string b.body] 27)).alloc (.cells #[.string a.key, .int .u64 a.s.p, .int .u32 a.s.l, .int .u8 a.s.n, .int .u8 a.kind, .int .u32 a.flags, .int .u64 a.exp, .string a.body, .string b.key, .int .u64 b.s.p, .int .u32 b.s.l, .int .u8 b.s.n, .int .u8 b.kind, .int .u32 b.flags, .int .u64 b.exp, .string b.body] 27) = w0 at *
  generalize w.heap.size = X at *
  generalize X + 1 = Y at *
  generalize Y + 1 = Z at *
  refine (great2 a b Z _ C0).mono ?_
  rintro e w1 ⟨rfl, k1⟩
  replace K0 := kept_trans K0 k1
  replace A0 := at_kept A0 k1
  replace B0 := at_kept B0 k1
  clear k1 C0
  cases hg : (greatR a || greatR b) with
  | true =>
    go_wp2_with fail
    refine (fixed_any _).mono ?_
    rintro e w2 ⟨rfl, k2⟩
    replace K0 := kept_trans K0 k2
    go_wp2_with fail
    go_ret
    exact ⟨rfl, K0⟩
  | false =>
    obtain ⟨g1, g2⟩ : greatR a = false ∧ greatR b = false := by simpa using hg
    have hJ := Join_any a b (not_great g1) (not_great g2)
    have hR := refJoin_any a b ha6 hb6
    go_wp2_with fail
    clear hg g1 g2
    generalize joinR a b = j at *
    have hEq := eq_self j
    have k0 : Kept w1 w1.drew := kept_refl w1
    refine wp_region_noPanic ?_
    refine wp_region_held_drew (S := (fun w' => (w'.cell? ⟨X, 0, none⟩ = some (.string a.key) ∧ w'.cell? ⟨X, 1, none⟩ = some (.int .u64 a.s.p) ∧ w'.cell? ⟨X, 2, none⟩ = some (.int .u32 a.s.l) ∧ w'.cell? ⟨X, 3, none⟩ = some (.int .u8 a.s.n) ∧ w'.cell? ⟨X, 4, none⟩ = some (.int .u8 a.kind) ∧ w'.cell? ⟨X, 5, none⟩ = some (.int .u32 a.flags) ∧ w'.cell? ⟨X, 6, none⟩ = some (.int .u64 a.exp) ∧ w'.cell? ⟨X, 7, none⟩ = some (.string a.body)) ∧ (w'.cell? ⟨Y, 0, none⟩ = some (.string b.key) ∧ w'.cell? ⟨Y, 1, none⟩ = some (.int .u64 b.s.p) ∧ w'.cell? ⟨Y, 2, none⟩ = some (.int .u32 b.s.l) ∧ w'.cell? ⟨Y, 3, none⟩ = some (.int .u8 b.s.n) ∧ w'.cell? ⟨Y, 4, none⟩ = some (.int .u8 b.kind) ∧ w'.cell? ⟨Y, 5, none⟩ = some (.int .u32 b.flags) ∧ w'.cell? ⟨Y, 6, none⟩ = some (.int .u64 b.exp) ∧ w'.cell? ⟨Y, 7, none⟩ = some (.string b.body)))) (by kernel_rfl) (held16 A0 B0 (by assumption)) (fun hHeld => ?_)
    refine wpAnyH_ready (rs := [0]) (by kernel_rfl) (by simp) ?_
    refine AllReadyH.cons (i := 0) rfl (fun K hK => ?_) AllReadyH.nil
    go_simp
    refine (fixed_any _).mono ?_
    rintro e w3 ⟨rfl, h3⟩
    replace k0 := kept_trans k0 h3
    clear h3
    clear hHeld
    show K _ _
    refine hK.out _ _ (held16 A0 B0 (by assumption)) (fun hHeld => ?_)
    clear hK K
    try simp only [List.getElem_toArray, List.getElem_cons_zero, List.getElem_cons_succ, Act.put, List.setIfInBounds_toArray, List.set_cons_zero, List.set_cons_succ]
    refine wpAnyH_take (i := 1) (v := .bool true) rfl (by kernel_rfl) (by kernel_rfl) (by kernel_rfl) (fun _ _ _ h => h) (Or.inl ⟨by rfl, fun w hSw => by (try dsimp only at hSw); go_simp⟩) (by assumption) ?_
    try simp only [List.getElem_toArray, List.getElem_cons_zero, List.getElem_cons_succ, Act.put, List.setIfInBounds_toArray, List.set_cons_zero, List.set_cons_succ]
    refine wpAnyH_take (i := 2) (v := .agg #[.string a.key, .int .u64 a.s.p, .int .u32 a.s.l, .int .u8 a.s.n, .int .u8 a.kind, .int .u32 a.flags, .int .u64 a.exp, .string a.body]) rfl (by kernel_rfl) (by kernel_rfl) (by kernel_rfl) (fun _ _ _ h => h) (Or.inl ⟨by rfl, fun w hSw => by (try dsimp only at hSw); go_simp⟩) (by assumption) ?_
    try simp only [List.getElem_toArray, List.getElem_cons_zero, List.getElem_cons_succ, Act.put, List.setIfInBounds_toArray, List.set_cons_zero, List.set_cons_succ]
    refine wpAnyH_take (i := 3) (v := .agg #[.string b.key, .int .u64 b.s.p, .int .u32 b.s.l, .int .u8 b.s.n, .int .u8 b.kind, .int .u32 b.flags, .int .u64 b.exp, .string b.body]) rfl (by kernel_rfl) (by kernel_rfl) (by kernel_rfl) (fun _ _ _ h => h) (Or.inl ⟨by rfl, fun w hSw => by (try dsimp only at hSw); go_simp⟩) (by assumption) ?_
    try simp only [List.getElem_toArray, List.getElem_cons_zero, List.getElem_cons_succ, Act.put, List.setIfInBounds_toArray, List.set_cons_zero, List.set_cons_succ]
    refine wpAnyH_take (i := 5) (v := .agg #[.string a.key, .int .u64 a.s.p, .int .u32 a.s.l, .int .u8 a.s.n, .int .u8 a.kind, .int .u32 a.flags, .int .u64 a.exp, .string a.body]) rfl (by kernel_rfl) (by kernel_rfl) (by kernel_rfl) (fun _ _ _ h => h) (Or.inl ⟨by rfl, fun w hSw => by (try dsimp only at hSw); go_simp⟩) (by assumption) ?_
    try simp only [List.getElem_toArray, List.getElem_cons_zero, List.getElem_cons_succ, Act.put, List.setIfInBounds_toArray, List.set_cons_zero, List.set_cons_succ]
    refine wpAnyH_take (i := 6) (v := .agg #[.string b.key, .int .u64 b.s.p, .int .u32 b.s.l, .int .u8 b.s.n, .int .u8 b.kind, .int .u32 b.flags, .int .u64 b.exp, .string b.body]) rfl (by kernel_rfl) (by kernel_rfl) (by kernel_rfl) (fun _ _ _ h => h) (Or.inl ⟨by rfl, fun w hSw => by (try dsimp only at hSw); go_simp⟩) (by assumption) ?_
    try simp only [List.getElem_toArray, List.getElem_cons_zero, List.getElem_cons_succ, Act.put, List.setIfInBounds_toArray, List.set_cons_zero, List.set_cons_succ]
    refine wpAnyH_ready (rs := [4]) (by kernel_rfl) (by simp) ?_
    refine AllReadyH.cons (i := 4) rfl (fun K hK => ?_) AllReadyH.nil
    go_simp
    refine (Compare_any a b _).mono ?_
    rintro e w3 ⟨rfl, h3⟩
    replace k0 := kept_trans k0 h3
    clear h3
    clear hHeld
    show K _ _
    refine hK.out _ _ (held16 A0 B0 (by assumption)) (fun hHeld => ?_)
    clear hK K
    try simp only [List.getElem_toArray, List.getElem_cons_zero, List.getElem_cons_succ, Act.put, List.setIfInBounds_toArray, List.set_cons_zero, List.set_cons_succ]
    refine wpAnyH_ready (rs := [7]) (by kernel_rfl) (by simp) ?_
    refine AllReadyH.cons (i := 7) rfl (fun K hK => ?_) AllReadyH.nil
    go_simp
    refine (refCompare_any a b ha6 hb6 _).mono ?_
    rintro e w3 ⟨rfl, h3⟩
    replace k0 := kept_trans k0 h3
    clear h3
    clear hHeld
    show K _ _
    refine hK.out _ _ (held16 A0 B0 (by assumption)) (fun hHeld => ?_)
    clear hK K
    try simp only [List.getElem_toArray, List.getElem_cons_zero, List.getElem_cons_succ, Act.put, List.setIfInBounds_toArray, List.set_cons_zero, List.set_cons_succ]
    refine wpAnyH_take (i := 8) (v := .bool true) rfl (by kernel_rfl) (by kernel_rfl) (by kernel_rfl) (fun _ _ _ h => h) (Or.inl ⟨by rfl, fun w hSw => by (try dsimp only at hSw); go_simp⟩) (by assumption) ?_
    try simp only [List.getElem_toArray, List.getElem_cons_zero, List.getElem_cons_succ, Act.put, List.setIfInBounds_toArray, List.set_cons_zero, List.set_cons_succ]
    refine wpAnyH_take (i := 9) (v := .bool true) rfl (by kernel_rfl) (by kernel_rfl) (by kernel_rfl) (fun _ _ _ h => h) (Or.inl ⟨by rfl, fun w hSw => by (try dsimp only at hSw); go_simp⟩) (by assumption) ?_
    try simp only [List.getElem_toArray, List.getElem_cons_zero, List.getElem_cons_succ, Act.put, List.setIfInBounds_toArray, List.set_cons_zero, List.set_cons_succ]
    refine wpAnyH_take (i := 10) (v := .bool true) rfl (by kernel_rfl) (by kernel_rfl) (by kernel_rfl) (fun _ _ _ h => h) (Or.inl ⟨by rfl, fun w hSw => by (try dsimp only at hSw); go_simp⟩) (by assumption) ?_
    try simp only [List.getElem_toArray, List.getElem_cons_zero, List.getElem_cons_succ, Act.put, List.setIfInBounds_toArray, List.set_cons_zero, List.set_cons_succ]
    refine wpAnyH_take (i := 11) (v := .agg #[.string a.key, .int .u64 a.s.p, .int .u32 a.s.l, .int .u8 a.s.n, .int .u8 a.kind, .int .u32 a.flags, .int .u64 a.exp, .string a.body]) rfl (by kernel_rfl) (by kernel_rfl) (by kernel_rfl) (fun _ _ _ h => h) (Or.inl ⟨by rfl, fun w hSw => by (try dsimp only at hSw); go_simp⟩) (by assumption) ?_
    try simp only [List.getElem_toArray, List.getElem_cons_zero, List.getElem_cons_succ, Act.put, List.setIfInBounds_toArray, List.set_cons_zero, List.set_cons_succ]
    refine wpAnyH_take (i := 12) (v := .agg #[.string b.key, .int .u64 b.s.p, .int .u32 b.s.l, .int .u8 b.s.n, .int .u8 b.kind, .int .u32 b.flags, .int .u64 b.exp, .string b.body]) rfl (by kernel_rfl) (by kernel_rfl) (by kernel_rfl) (fun _ _ _ h => h) (Or.inl ⟨by rfl, fun w hSw => by (try dsimp only at hSw); go_simp⟩) (by assumption) ?_
    try simp only [List.getElem_toArray, List.getElem_cons_zero, List.getElem_cons_succ, Act.put, List.setIfInBounds_toArray, List.set_cons_zero, List.set_cons_succ]
    refine wpAnyH_take (i := 14) (v := .agg #[.string a.key, .int .u64 a.s.p, .int .u32 a.s.l, .int .u8 a.s.n, .int .u8 a.kind, .int .u32 a.flags, .int .u64 a.exp, .string a.body]) rfl (by kernel_rfl) (by kernel_rfl) (by kernel_rfl) (fun _ _ _ h => h) (Or.inl ⟨by rfl, fun w hSw => by (try dsimp only at hSw); go_simp⟩) (by assumption) ?_
    try simp only [List.getElem_toArray, List.getElem_cons_zero, List.getElem_cons_succ, Act.put, List.setIfInBounds_toArray, List.set_cons_zero, List.set_cons_succ]
    refine wpAnyH_take (i := 15) (v := .agg #[.string b.key, .int .u64 b.s.p, .int .u32 b.s.l, .int .u8 b.s.n, .int .u8 b.kind, .int .u32 b.flags, .int .u64 b.exp, .string b.body]) rfl (by kernel_rfl) (by kernel_rfl) (by kernel_rfl) (fun _ _ _ h => h) (Or.inl ⟨by rfl, fun w hSw => by (try dsimp only at hSw); go_simp⟩) (by assumption) ?_
    try simp only [List.getElem_toArray, List.getElem_cons_zero, List.getElem_cons_succ, Act.put, List.setIfInBounds_toArray, List.set_cons_zero, List.set_cons_succ]
    refine wpAnyH_ready (rs := [13]) (by kernel_rfl) (by simp) ?_
    refine AllReadyH.cons (i := 13) rfl (fun K hK => ?_) AllReadyH.nil
    go_simp
    refine (hJ _).mono ?_
    rintro e w3 ⟨rfl, h3⟩
    replace k0 := kept_trans k0 h3
    clear h3
    clear hHeld
    show K _ _
    refine hK.out _ _ (held16 A0 B0 (by assumption)) (fun hHeld => ?_)
    clear hK K
    try simp only [List.getElem_toArray, List.getElem_cons_zero, List.getElem_cons_succ, Act.put, List.setIfInBounds_toArray, List.set_cons_zero, List.set_cons_succ]
    refine wpAnyH_ready (rs := [16]) (by kernel_rfl) (by simp) ?_
    refine AllReadyH.cons (i := 16) rfl (fun K hK => ?_) AllReadyH.nil
    go_simp
    refine (hR _).mono ?_
    rintro e w3 ⟨rfl, h3⟩
    replace k0 := kept_trans k0 h3
    clear h3
    clear hHeld
    show K _ _
    refine hK.out _ _ (held16 A0 B0 (by assumption)) (fun hHeld => ?_)
    clear hK K
    try simp only [List.getElem_toArray, List.getElem_cons_zero, List.getElem_cons_succ, Act.put, List.setIfInBounds_toArray, List.set_cons_zero, List.set_cons_succ]
    refine wpAnyH_take (i := 17) (v := .bool true) rfl (by kernel_rfl) (by kernel_rfl) (by kernel_rfl) (fun _ _ _ h => h) (Or.inl ⟨by rfl, fun w hSw => by (try dsimp only at hSw); go_simp⟩) (by assumption) ?_
    try simp only [List.getElem_toArray, List.getElem_cons_zero, List.getElem_cons_succ, Act.put, List.setIfInBounds_toArray, List.set_cons_zero, List.set_cons_succ]
    refine wpAnyH_take (i := 18) (v := .bool true) rfl (by kernel_rfl) (by kernel_rfl) (by kernel_rfl) (fun _ _ _ h => h) (Or.inl ⟨by rfl, fun w hSw => by (try dsimp only at hSw); go_simp⟩) (by assumption) ?_
    try simp only [List.getElem_toArray, List.getElem_cons_zero, List.getElem_cons_succ, Act.put, List.setIfInBounds_toArray, List.set_cons_zero, List.set_cons_succ]
    refine wpAnyH_take (i := 19) (v := .bool true) rfl (by kernel_rfl) (by kernel_rfl) (by kernel_rfl) (fun _ _ _ h => h) (Or.inl ⟨by rfl, fun w hSw => by (try dsimp only at hSw); go_simp⟩) (by assumption) ?_
    try simp only [List.getElem_toArray, List.getElem_cons_zero, List.getElem_cons_succ, Act.put, List.setIfInBounds_toArray, List.set_cons_zero, List.set_cons_succ]
    refine wpAnyH_done (by kernel_rfl) ?_ _
    refine NoPanic.normal ?_
    clear hHeld
    have K1 := kept_trans K0 k0
    clear k0 K0 A0 B0
    go_wp2_with fail
    go_ret
    exact ⟨rfl, K1⟩
end Go.Proofs.Ytnkfhacmkimncaa
