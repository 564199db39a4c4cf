/- The contracts of the law's own functions: the chapter's examples, and which records are too great. They turn nothing that was there. -/
import Derived.Test.YtnkfhacmkimncabPut
namespace Go.Proofs.Ytnkfhacmkimncab
open Go.ChangeShapes Go.WideShapes Go.ChangeAt Go.RowKit
set_option linter.unusedVariables false
set_option linter.unusedSimpArgs false

def exR (k : Int) : R := ⟨⟨#[97]⟩, ⟨1, 2, 3⟩, k, 0, 0, ⟨#[]⟩⟩
theorem ex_ok (k : Int) (h : 0 ≤ k ∧ k < 256) : (exR k).ok := by
  unfold exR R.ok Stp.ok
  refine ⟨by show (1 : Nat) ≤ _; unfold maxLen; omega, by simp, h, by simp, by simp, by show (0 : Nat) ≤ _; omega⟩
theorem put_m (w : World) : Calls Try.prog 7 #[.agg #[.string ⟨#[97]⟩, .int .u64 1, .int .u32 2, .int .u8 3, .int .u8 1, .int .u32 0, .int .u64 0, .string ⟨#[]⟩]] w fun e w' => e = .returned (.tuple #[.string ⟨#[1, 97, 1, 2, 3, 1]⟩, .int .i64 0]) ∧ Kept w w' := by
  have h := PutR_any (exR 1) (ex_ok 1 (by omega)) w
  have e : putV (exR 1) = .tuple #[.string ⟨#[1, 97, 1, 2, 3, 1]⟩, .int .i64 0] := by rfl
  rw [e] at h
  exact h
theorem cmp_mt (w : World) : Calls Try.prog 8 #[.agg #[.string ⟨#[97]⟩, .int .u64 1, .int .u32 2, .int .u8 3, .int .u8 1, .int .u32 0, .int .u64 0, .string ⟨#[]⟩], .agg #[.string ⟨#[97]⟩, .int .u64 1, .int .u32 2, .int .u8 3, .int .u8 2, .int .u32 0, .int .u64 0, .string ⟨#[]⟩]] w fun e w' => e = .returned (.int .i64 (-1)) ∧ Kept w w' := by
  have h := Compare_any (exR 1) (exR 2) w
  have e : cmpR (exR 1) (exR 2) = -1 := by rfl
  rw [e] at h
  exact h
theorem cmp_vt (w : World) : Calls Try.prog 8 #[.agg #[.string ⟨#[97]⟩, .int .u64 1, .int .u32 2, .int .u8 3, .int .u8 3, .int .u32 0, .int .u64 0, .string ⟨#[]⟩], .agg #[.string ⟨#[97]⟩, .int .u64 1, .int .u32 2, .int .u8 3, .int .u8 2, .int .u32 0, .int .u64 0, .string ⟨#[]⟩]] w fun e w' => e = .returned (.int .i64 1) ∧ Kept w w' := by
  have h := Compare_any (exR 3) (exR 2) w
  have e : cmpR (exR 3) (exR 2) = 1 := by rfl
  rw [e] at h
  exact h
theorem may_v (w : World) : Calls Try.prog 9 #[.agg #[.string ⟨#[97]⟩, .int .u64 1, .int .u32 2, .int .u8 3, .int .u8 3, .int .u32 0, .int .u64 0, .string ⟨#[]⟩]] w fun e w' => e = .returned (.bool true) ∧ Kept w w' := by
  have h := May_any (exR 3) (ex_ok 3 (by omega)).1 (ex_ok 3 (by omega)).2.2.2.2.2 w
  have e : mayR (exR 3) = true := by rfl
  rw [e] at h
  exact h
theorem live_v (w : World) : Calls Try.prog 6 #[.agg #[.string ⟨#[97]⟩, .int .u64 1, .int .u32 2, .int .u8 3, .int .u8 3, .int .u32 0, .int .u64 0, .string ⟨#[]⟩], .int .u64 5] w fun e w' => e = .returned (.bool true) ∧ Kept w w' := by
  have h := Live_any (exR 3) 5 w
  have e : liveR (exR 3) 5 = true := by rfl
  rw [e] at h
  exact h
theorem zero25 (w : World) : (zeroValue 25).run Try.prog w = .ok (.agg #[.int .u64 0, .int .u32 0, .int .u8 0]) w := by kernel_rfl
theorem at3 {X T : Nat} {a b c : Value} {w1 : World} (A0 : At w1 X #[a, b, c] T) : w1.cell? ⟨X, 0, none⟩ = some a ∧ w1.cell? ⟨X, 1, none⟩ = some b ∧ w1.cell? ⟨X, 2, none⟩ = some c := by
  obtain ⟨c0, c1, c2, -⟩ := at_cells3 A0
  exact ⟨c0, c1, c2⟩
set_option maxHeartbeats 3200000 in
set_option maxRecDepth 100000 in
theorem fixed_any (w : World) : Calls Try.prog 5 #[] w fun e w' => e = .returned (.bool true) ∧ Kept w w' := by
  have hz := zero25
  have hz2 := zero27
  go_enter Try.func5, Try.ntmps5
  go_wp2_with fail
  have K1 : Kept w (w.alloc (.cells #[.int .u64 1, .int .u32 2, .int .u8 3] 25)).drew := kept_alloc (kept_refl w) (.cells #[.int .u64 1, .int .u32 2, .int .u8 3] 25)
  have A1 : At (w.alloc (.cells #[.int .u64 1, .int .u32 2, .int .u8 3] 25)).drew w.heap.size #[.int .u64 1, .int .u32 2, .int .u8 3] 25 := at_new w #[.int .u64 1, .int .u32 2, .int .u8 3] 25
  generalize w.alloc (.cells #[.int .u64 1, .int .u32 2, .int .u8 3] 25) = w0 at *
  generalize w.heap.size = X at *
  refine wp_region_noPanic ?_
  refine wp_region_held_drew (S := (fun w' => w'.cell? ⟨X, 0, none⟩ = some (.int .u64 1) ∧ w'.cell? ⟨X, 1, none⟩ = some (.int .u32 2) ∧ w'.cell? ⟨X, 2, none⟩ = some (.int .u8 3))) (by kernel_rfl) (at3 A1) (fun hHeld => ?_)
  refine wpAnyH_take (i := 0) (v := .agg #[.int .u64 1, .int .u32 2, .int .u8 3]) rfl (by kernel_rfl) (by kernel_rfl) (by kernel_rfl) (fun _ _ _ h => h) (Or.inl ⟨by rfl, fun w hSw => by (try dsimp only at hSw); go_simp⟩) (by assumption) ?_
  try simp only [List.getElem_toArray, List.getElem_cons_zero, List.getElem_cons_succ, Act.put, List.setIfInBounds_toArray, List.set_cons_zero, List.set_cons_succ]
  refine wpAnyH_take (i := 2) (v := .agg #[.int .u64 1, .int .u32 2, .int .u8 3]) rfl (by kernel_rfl) (by kernel_rfl) (by kernel_rfl) (fun _ _ _ h => h) (Or.inl ⟨by rfl, fun w hSw => by (try dsimp only at hSw); go_simp⟩) (by assumption) ?_
  try simp only [List.getElem_toArray, List.getElem_cons_zero, List.getElem_cons_succ, Act.put, List.setIfInBounds_toArray, List.set_cons_zero, List.set_cons_succ]
  refine wpAnyH_take (i := 4) (v := .agg #[.int .u64 1, .int .u32 2, .int .u8 3]) rfl (by kernel_rfl) (by kernel_rfl) (by kernel_rfl) (fun _ _ _ h => h) (Or.inl ⟨by rfl, fun w hSw => by (try dsimp only at hSw); go_simp⟩) (by assumption) ?_
  try simp only [List.getElem_toArray, List.getElem_cons_zero, List.getElem_cons_succ, Act.put, List.setIfInBounds_toArray, List.set_cons_zero, List.set_cons_succ]
  refine wpAnyH_take (i := 1) (v := .agg #[.string ⟨#[97]⟩, .int .u64 1, .int .u32 2, .int .u8 3, .int .u8 1, .int .u32 0, .int .u64 0, .string ⟨#[]⟩]) rfl (by kernel_rfl) (by kernel_rfl) (by kernel_rfl) (fun _ _ _ h => h) (Or.inl ⟨by rfl, fun w hSw => by (try dsimp only at hSw); go_simp⟩) (by assumption) ?_
  try simp only [List.getElem_toArray, List.getElem_cons_zero, List.getElem_cons_succ, Act.put, List.setIfInBounds_toArray, List.set_cons_zero, List.set_cons_succ]
  refine wpAnyH_take (i := 3) (v := .agg #[.string ⟨#[97]⟩, .int .u64 1, .int .u32 2, .int .u8 3, .int .u8 2, .int .u32 0, .int .u64 0, .string ⟨#[]⟩]) rfl (by kernel_rfl) (by kernel_rfl) (by kernel_rfl) (fun _ _ _ h => h) (Or.inl ⟨by rfl, fun w hSw => by (try dsimp only at hSw); go_simp⟩) (by assumption) ?_
  try simp only [List.getElem_toArray, List.getElem_cons_zero, List.getElem_cons_succ, Act.put, List.setIfInBounds_toArray, List.set_cons_zero, List.set_cons_succ]
  refine wpAnyH_take (i := 5) (v := .agg #[.string ⟨#[97]⟩, .int .u64 1, .int .u32 2, .int .u8 3, .int .u8 3, .int .u32 0, .int .u64 0, .string ⟨#[]⟩]) rfl (by kernel_rfl) (by kernel_rfl) (by kernel_rfl) (fun _ _ _ h => h) (Or.inl ⟨by rfl, fun w hSw => by (try dsimp only at hSw); go_simp⟩) (by assumption) ?_
  try simp only [List.getElem_toArray, List.getElem_cons_zero, List.getElem_cons_succ, Act.put, List.setIfInBounds_toArray, List.set_cons_zero, List.set_cons_succ]
  refine wpAnyH_ready (rs := [6, 7, 8]) (by kernel_rfl) (by simp) ?_
  refine AllReadyH.cons (i := 6) rfl (fun K hK => ?_) ?_
  · have Zb1 : At (w0.alloc (.cells #[.string ⟨#[]⟩, .int .u64 0, .int .u32 0, .int .u8 0, .int .u8 0, .int .u32 0, .int .u64 0, .string ⟨#[]⟩] 27)).drew w0.heap.size #[.string ⟨#[]⟩, .int .u64 0, .int .u32 0, .int .u8 0, .int .u8 0, .int .u32 0, .int .u64 0, .string ⟨#[]⟩] 27 := at_new w0 _ _
    have B1 : At (w0.alloc (.cells #[.string ⟨#[]⟩, .int .u64 0, .int .u32 0, .int .u8 0, .int .u8 0, .int .u32 0, .int .u64 0, .string ⟨#[]⟩] 27)).drew X #[.int .u64 1, .int .u32 2, .int .u8 3] 25 := at_alloc A1 _
    have L1 : Kept w (w0.alloc (.cells #[.string ⟨#[]⟩, .int .u64 0, .int .u32 0, .int .u8 0, .int .u8 0, .int .u32 0, .int .u64 0, .string ⟨#[]⟩] 27)).drew := kept_alloc K1 _
    have NXb1 : X ≠ w0.heap.size := Nat.ne_of_lt (at_lt A1)
    have Ksb1 : Hid (∀ u', Kept w u' → ∀ a0 a1 a2 a3 a4 a5 a6 a7, Kept w (set8 u' w0.heap.size a0 a1 a2 a3 a4 a5 a6 a7)) := fun u' h a0 a1 a2 a3 a4 a5 a6 a7 => kept_set8 h K1.2 a0 a1 a2 a3 a4 a5 a6 a7
    clear A1 K1
    go_simp
    have A1 := B1
    have K1 := L1
    clear B1 L1 hHeld
    show K _ (w0.alloc (.cells #[.string ⟨#[]⟩, .int .u64 0, .int .u32 0, .int .u8 0, .int .u8 0, .int .u32 0, .int .u64 0, .string ⟨#[]⟩] 27)).drew
    generalize (w0.alloc (.cells #[.string ⟨#[]⟩, .int .u64 0, .int .u32 0, .int .u8 0, .int .u8 0, .int .u32 0, .int .u64 0, .string ⟨#[]⟩] 27)).drew = u1 at *
    generalize w0.heap.size = b1 at *
    refine hK.out _ _ (at3 A1) (fun hHeld => ?_)
    clear hK K
    try simp only [List.getElem_toArray, List.getElem_cons_zero, List.getElem_cons_succ, Act.put, List.setIfInBounds_toArray, List.set_cons_zero, List.set_cons_succ]
    refine wpAnyH_ready (rs := [7, 8]) (by kernel_rfl) (by simp) ?_
    refine AllReadyH.cons (i := 7) rfl (fun K hK => ?_) ?_
    · have Zb2 : At (u1.alloc (.cells #[.string ⟨#[]⟩, .int .u64 0, .int .u32 0, .int .u8 0, .int .u8 0, .int .u32 0, .int .u64 0, .string ⟨#[]⟩] 27)) u1.heap.size #[.string ⟨#[]⟩, .int .u64 0, .int .u32 0, .int .u8 0, .int .u8 0, .int .u32 0, .int .u64 0, .string ⟨#[]⟩] 27 := at_new u1 _ _
      have B1 : At (u1.alloc (.cells #[.string ⟨#[]⟩, .int .u64 0, .int .u32 0, .int .u8 0, .int .u8 0, .int .u32 0, .int .u64 0, .string ⟨#[]⟩] 27)) X #[.int .u64 1, .int .u32 2, .int .u8 3] 25 := at_alloc A1 _
      have L1 : Kept w (u1.alloc (.cells #[.string ⟨#[]⟩, .int .u64 0, .int .u32 0, .int .u8 0, .int .u8 0, .int .u32 0, .int .u64 0, .string ⟨#[]⟩] 27)) := kept_alloc K1 _
      have NXb2 : X ≠ u1.heap.size := Nat.ne_of_lt (at_lt A1)
      have Ksb2 : Hid (∀ u', Kept w u' → ∀ a0 a1 a2 a3 a4 a5 a6 a7, Kept w (set8 u' u1.heap.size a0 a1 a2 a3 a4 a5 a6 a7)) := fun u' h a0 a1 a2 a3 a4 a5 a6 a7 => kept_set8 h K1.2 a0 a1 a2 a3 a4 a5 a6 a7
      have Nb1b2 : b1 ≠ u1.heap.size := Nat.ne_of_lt (at_lt Zb1)
      replace Zb1 : At (u1.alloc (.cells #[.string ⟨#[]⟩, .int .u64 0, .int .u32 0, .int .u8 0, .int .u8 0, .int .u32 0, .int .u64 0, .string ⟨#[]⟩] 27)) b1 #[.string ⟨#[]⟩, .int .u64 0, .int .u32 0, .int .u8 0, .int .u8 0, .int .u32 0, .int .u64 0, .string ⟨#[]⟩] 27 := at_alloc Zb1 _
      clear A1 K1
      go_simp
      have A1 := B1
      have K1 := L1
      clear B1 L1 hHeld
      show K _ (u1.alloc (.cells #[.string ⟨#[]⟩, .int .u64 0, .int .u32 0, .int .u8 0, .int .u8 0, .int .u32 0, .int .u64 0, .string ⟨#[]⟩] 27))
      generalize (u1.alloc (.cells #[.string ⟨#[]⟩, .int .u64 0, .int .u32 0, .int .u8 0, .int .u8 0, .int .u32 0, .int .u64 0, .string ⟨#[]⟩] 27)) = u2 at *
      generalize u1.heap.size = b2 at *
      refine hK.out _ _ (at3 A1) (fun hHeld => ?_)
      clear hK K
      try simp only [List.getElem_toArray, List.getElem_cons_zero, List.getElem_cons_succ, Act.put, List.setIfInBounds_toArray, List.set_cons_zero, List.set_cons_succ]
      refine wpAnyH_ready (rs := [8]) (by kernel_rfl) (by simp) ?_
      refine AllReadyH.cons (i := 8) rfl (fun K hK => ?_) AllReadyH.nil
      have Zb3 : At (u2.alloc (.cells #[.string ⟨#[]⟩, .int .u64 0, .int .u32 0, .int .u8 0, .int .u8 0, .int .u32 0, .int .u64 0, .string ⟨#[]⟩] 27)) u2.heap.size #[.string ⟨#[]⟩, .int .u64 0, .int .u32 0, .int .u8 0, .int .u8 0, .int .u32 0, .int .u64 0, .string ⟨#[]⟩] 27 := at_new u2 _ _
      have B1 : At (u2.alloc (.cells #[.string ⟨#[]⟩, .int .u64 0, .int .u32 0, .int .u8 0, .int .u8 0, .int .u32 0, .int .u64 0, .string ⟨#[]⟩] 27)) X #[.int .u64 1, .int .u32 2, .int .u8 3] 25 := at_alloc A1 _
      have L1 : Kept w (u2.alloc (.cells #[.string ⟨#[]⟩, .int .u64 0, .int .u32 0, .int .u8 0, .int .u8 0, .int .u32 0, .int .u64 0, .string ⟨#[]⟩] 27)) := kept_alloc K1 _
      have NXb3 : X ≠ u2.heap.size := Nat.ne_of_lt (at_lt A1)
      have Ksb3 : Hid (∀ u', Kept w u' → ∀ a0 a1 a2 a3 a4 a5 a6 a7, Kept w (set8 u' u2.heap.size a0 a1 a2 a3 a4 a5 a6 a7)) := fun u' h a0 a1 a2 a3 a4 a5 a6 a7 => kept_set8 h K1.2 a0 a1 a2 a3 a4 a5 a6 a7
      have Nb1b3 : b1 ≠ u2.heap.size := Nat.ne_of_lt (at_lt Zb1)
      replace Zb1 : At (u2.alloc (.cells #[.string ⟨#[]⟩, .int .u64 0, .int .u32 0, .int .u8 0, .int .u8 0, .int .u32 0, .int .u64 0, .string ⟨#[]⟩] 27)) b1 #[.string ⟨#[]⟩, .int .u64 0, .int .u32 0, .int .u8 0, .int .u8 0, .int .u32 0, .int .u64 0, .string ⟨#[]⟩] 27 := at_alloc Zb1 _
      have Nb2b3 : b2 ≠ u2.heap.size := Nat.ne_of_lt (at_lt Zb2)
      replace Zb2 : At (u2.alloc (.cells #[.string ⟨#[]⟩, .int .u64 0, .int .u32 0, .int .u8 0, .int .u8 0, .int .u32 0, .int .u64 0, .string ⟨#[]⟩] 27)) b2 #[.string ⟨#[]⟩, .int .u64 0, .int .u32 0, .int .u8 0, .int .u8 0, .int .u32 0, .int .u64 0, .string ⟨#[]⟩] 27 := at_alloc Zb2 _
      clear A1 K1
      go_simp
      have A1 := B1
      have K1 := L1
      clear B1 L1 hHeld
      show K _ (u2.alloc (.cells #[.string ⟨#[]⟩, .int .u64 0, .int .u32 0, .int .u8 0, .int .u8 0, .int .u32 0, .int .u64 0, .string ⟨#[]⟩] 27))
      generalize (u2.alloc (.cells #[.string ⟨#[]⟩, .int .u64 0, .int .u32 0, .int .u8 0, .int .u8 0, .int .u32 0, .int .u64 0, .string ⟨#[]⟩] 27)) = u3 at *
      generalize u2.heap.size = b3 at *
      refine hK.out _ _ (at3 A1) (fun hHeld => ?_)
      clear hK K
      try simp only [List.getElem_toArray, List.getElem_cons_zero, List.getElem_cons_succ, Act.put, List.setIfInBounds_toArray, List.set_cons_zero, List.set_cons_succ]
      refine wpAnyH_ready (rs := [9]) (by kernel_rfl) (by simp) ?_
      refine AllReadyH.cons (i := 9) rfl (fun K hK => ?_) AllReadyH.nil
      obtain ⟨d0, d1, d2, d3, d4, d5, d6, d7, df⟩ := at_cells8 Zb1
      go_simp
      clear d0 d1 d2 d3 d4 d5 d6 d7 df hHeld
      show K _ (set8 u3 b1 (.string ⟨#[97]⟩) (.int .u64 1) (.int .u32 2) (.int .u8 3) (.int .u8 1) (.int .u32 0) (.int .u64 0) (.string ⟨#[]⟩))
      replace Zb1 := at_set8 Zb1 (.string ⟨#[97]⟩) (.int .u64 1) (.int .u32 2) (.int .u8 3) (.int .u8 1) (.int .u32 0) (.int .u64 0) (.string ⟨#[]⟩)
      replace Zb2 := at_other8 Zb2 (Ne.symm Nb1b2) (.string ⟨#[97]⟩) (.int .u64 1) (.int .u32 2) (.int .u8 3) (.int .u8 1) (.int .u32 0) (.int .u64 0) (.string ⟨#[]⟩)
      replace Zb3 := at_other8 Zb3 (Ne.symm Nb1b3) (.string ⟨#[97]⟩) (.int .u64 1) (.int .u32 2) (.int .u8 3) (.int .u8 1) (.int .u32 0) (.int .u64 0) (.string ⟨#[]⟩)
      replace A1 := at_other8 A1 NXb1 (.string ⟨#[97]⟩) (.int .u64 1) (.int .u32 2) (.int .u8 3) (.int .u8 1) (.int .u32 0) (.int .u64 0) (.string ⟨#[]⟩)
      replace K1 := Ksb1.out _ K1 (.string ⟨#[97]⟩) (.int .u64 1) (.int .u32 2) (.int .u8 3) (.int .u8 1) (.int .u32 0) (.int .u64 0) (.string ⟨#[]⟩)
      generalize set8 u3 b1 (.string ⟨#[97]⟩) (.int .u64 1) (.int .u32 2) (.int .u8 3) (.int .u8 1) (.int .u32 0) (.int .u64 0) (.string ⟨#[]⟩) = u4 at *
      refine hK.out _ _ (at3 A1) (fun hHeld => ?_)
      clear hK K
      try simp only [List.getElem_toArray, List.getElem_cons_zero, List.getElem_cons_succ, Act.put, List.setIfInBounds_toArray, List.set_cons_zero, List.set_cons_succ]
      refine wpAnyH_ready (rs := [10]) (by kernel_rfl) (by simp) ?_
      refine AllReadyH.cons (i := 10) rfl (fun K hK => ?_) AllReadyH.nil
      obtain ⟨d0, d1, d2, d3, d4, d5, d6, d7, df⟩ := at_cells8 Zb2
      go_simp
      clear d0 d1 d2 d3 d4 d5 d6 d7 df hHeld
      show K _ (set8 u4 b2 (.string ⟨#[97]⟩) (.int .u64 1) (.int .u32 2) (.int .u8 3) (.int .u8 2) (.int .u32 0) (.int .u64 0) (.string ⟨#[]⟩))
      replace Zb2 := at_set8 Zb2 (.string ⟨#[97]⟩) (.int .u64 1) (.int .u32 2) (.int .u8 3) (.int .u8 2) (.int .u32 0) (.int .u64 0) (.string ⟨#[]⟩)
      replace Zb1 := at_other8 Zb1 Nb1b2 (.string ⟨#[97]⟩) (.int .u64 1) (.int .u32 2) (.int .u8 3) (.int .u8 2) (.int .u32 0) (.int .u64 0) (.string ⟨#[]⟩)
      replace Zb3 := at_other8 Zb3 (Ne.symm Nb2b3) (.string ⟨#[97]⟩) (.int .u64 1) (.int .u32 2) (.int .u8 3) (.int .u8 2) (.int .u32 0) (.int .u64 0) (.string ⟨#[]⟩)
      replace A1 := at_other8 A1 NXb2 (.string ⟨#[97]⟩) (.int .u64 1) (.int .u32 2) (.int .u8 3) (.int .u8 2) (.int .u32 0) (.int .u64 0) (.string ⟨#[]⟩)
      replace K1 := Ksb2.out _ K1 (.string ⟨#[97]⟩) (.int .u64 1) (.int .u32 2) (.int .u8 3) (.int .u8 2) (.int .u32 0) (.int .u64 0) (.string ⟨#[]⟩)
      generalize set8 u4 b2 (.string ⟨#[97]⟩) (.int .u64 1) (.int .u32 2) (.int .u8 3) (.int .u8 2) (.int .u32 0) (.int .u64 0) (.string ⟨#[]⟩) = u5 at *
      refine hK.out _ _ (at3 A1) (fun hHeld => ?_)
      clear hK K
      try simp only [List.getElem_toArray, List.getElem_cons_zero, List.getElem_cons_succ, Act.put, List.setIfInBounds_toArray, List.set_cons_zero, List.set_cons_succ]
      refine wpAnyH_ready (rs := [11]) (by kernel_rfl) (by simp) ?_
      refine AllReadyH.cons (i := 11) rfl (fun K hK => ?_) AllReadyH.nil
      obtain ⟨d0, d1, d2, d3, d4, d5, d6, d7, df⟩ := at_cells8 Zb3
      go_simp
      clear d0 d1 d2 d3 d4 d5 d6 d7 df hHeld
      show K _ (set8 u5 b3 (.string ⟨#[97]⟩) (.int .u64 1) (.int .u32 2) (.int .u8 3) (.int .u8 3) (.int .u32 0) (.int .u64 0) (.string ⟨#[]⟩))
      replace Zb3 := at_set8 Zb3 (.string ⟨#[97]⟩) (.int .u64 1) (.int .u32 2) (.int .u8 3) (.int .u8 3) (.int .u32 0) (.int .u64 0) (.string ⟨#[]⟩)
      replace Zb1 := at_other8 Zb1 Nb1b3 (.string ⟨#[97]⟩) (.int .u64 1) (.int .u32 2) (.int .u8 3) (.int .u8 3) (.int .u32 0) (.int .u64 0) (.string ⟨#[]⟩)
      replace Zb2 := at_other8 Zb2 Nb2b3 (.string ⟨#[97]⟩) (.int .u64 1) (.int .u32 2) (.int .u8 3) (.int .u8 3) (.int .u32 0) (.int .u64 0) (.string ⟨#[]⟩)
      replace A1 := at_other8 A1 NXb3 (.string ⟨#[97]⟩) (.int .u64 1) (.int .u32 2) (.int .u8 3) (.int .u8 3) (.int .u32 0) (.int .u64 0) (.string ⟨#[]⟩)
      replace K1 := Ksb3.out _ K1 (.string ⟨#[97]⟩) (.int .u64 1) (.int .u32 2) (.int .u8 3) (.int .u8 3) (.int .u32 0) (.int .u64 0) (.string ⟨#[]⟩)
      generalize set8 u5 b3 (.string ⟨#[97]⟩) (.int .u64 1) (.int .u32 2) (.int .u8 3) (.int .u8 3) (.int .u32 0) (.int .u64 0) (.string ⟨#[]⟩) = u6 at *
      refine hK.out _ _ (at3 A1) (fun hHeld => ?_)
      clear hK K
      try simp only [List.getElem_toArray, List.getElem_cons_zero, List.getElem_cons_succ, Act.put, List.setIfInBounds_toArray, List.set_cons_zero, List.set_cons_succ]
      refine wpAnyH_done (by kernel_rfl) ?_ _
      refine NoPanic.normal ?_
      clear hHeld A1 NXb1 NXb2 NXb3 Nb1b2 Nb1b3 Nb2b3 Ksb1 Ksb2 Ksb3
      obtain ⟨c0, c1, c2, c3, c4, c5, c6, c7, -⟩ := at_cells8 Zb1
      go_wp2_with fail
      refine (put_m _).mono ?_
      rintro e w6 ⟨rfl, k6⟩
      replace K1 := kept_trans K1 k6
      replace Zb1 := at_kept Zb1 k6
      replace Zb2 := at_kept Zb2 k6
      replace Zb3 := at_kept Zb3 k6
      clear k6 c0 c1 c2 c3 c4 c5 c6 c7
      obtain ⟨c0, c1, c2, c3, c4, c5, c6, c7, -⟩ := at_cells8 Zb1
      obtain ⟨d0, d1, d2, d3, d4, d5, d6, d7, -⟩ := at_cells8 Zb2
      go_wp2_with fail
      refine (cmp_mt _).mono ?_
      rintro e w7 ⟨rfl, k6⟩
      replace K1 := kept_trans K1 k6
      replace Zb1 := at_kept Zb1 k6
      replace Zb2 := at_kept Zb2 k6
      replace Zb3 := at_kept Zb3 k6
      clear k6 c0 c1 c2 c3 c4 c5 c6 c7 d0 d1 d2 d3 d4 d5 d6 d7
      obtain ⟨c0, c1, c2, c3, c4, c5, c6, c7, -⟩ := at_cells8 Zb3
      obtain ⟨d0, d1, d2, d3, d4, d5, d6, d7, -⟩ := at_cells8 Zb2
      go_wp2_with fail
      refine (cmp_vt _).mono ?_
      rintro e w8 ⟨rfl, k6⟩
      replace K1 := kept_trans K1 k6
      replace Zb1 := at_kept Zb1 k6
      replace Zb2 := at_kept Zb2 k6
      replace Zb3 := at_kept Zb3 k6
      clear k6 c0 c1 c2 c3 c4 c5 c6 c7 d0 d1 d2 d3 d4 d5 d6 d7
      obtain ⟨c0, c1, c2, c3, c4, c5, c6, c7, -⟩ := at_cells8 Zb3
      go_wp2_with fail
      refine (may_v _).mono ?_
      rintro e w9 ⟨rfl, k6⟩
      replace K1 := kept_trans K1 k6
      replace Zb1 := at_kept Zb1 k6
      replace Zb2 := at_kept Zb2 k6
      replace Zb3 := at_kept Zb3 k6
      clear k6 c0 c1 c2 c3 c4 c5 c6 c7
      obtain ⟨c0, c1, c2, c3, c4, c5, c6, c7, -⟩ := at_cells8 Zb3
      go_wp2_with fail
      refine (live_v _).mono ?_
      rintro e w10 ⟨rfl, k6⟩
      replace K1 := kept_trans K1 k6
      replace Zb1 := at_kept Zb1 k6
      replace Zb2 := at_kept Zb2 k6
      replace Zb3 := at_kept Zb3 k6
      clear k6 c0 c1 c2 c3 c4 c5 c6 c7
      go_wp2_with fail
      go_ret
      exact ⟨rfl, K1⟩
    refine AllReadyH.cons (i := 8) rfl (fun K hK => ?_) AllReadyH.nil
    have Zb2 : At (u1.alloc (.cells #[.string ⟨#[]⟩, .int .u64 0, .int .u32 0, .int .u8 0, .int .u8 0, .int .u32 0, .int .u64 0, .string ⟨#[]⟩] 27)) u1.heap.size #[.string ⟨#[]⟩, .int .u64 0, .int .u32 0, .int .u8 0, .int .u8 0, .int .u32 0, .int .u64 0, .string ⟨#[]⟩] 27 := at_new u1 _ _
    have B1 : At (u1.alloc (.cells #[.string ⟨#[]⟩, .int .u64 0, .int .u32 0, .int .u8 0, .int .u8 0, .int .u32 0, .int .u64 0, .string ⟨#[]⟩] 27)) X #[.int .u64 1, .int .u32 2, .int .u8 3] 25 := at_alloc A1 _
    have L1 : Kept w (u1.alloc (.cells #[.string ⟨#[]⟩, .int .u64 0, .int .u32 0, .int .u8 0, .int .u8 0, .int .u32 0, .int .u64 0, .string ⟨#[]⟩] 27)) := kept_alloc K1 _
    have NXb2 : X ≠ u1.heap.size := Nat.ne_of_lt (at_lt A1)
    have Ksb2 : Hid (∀ u', Kept w u' → ∀ a0 a1 a2 a3 a4 a5 a6 a7, Kept w (set8 u' u1.heap.size a0 a1 a2 a3 a4 a5 a6 a7)) := fun u' h a0 a1 a2 a3 a4 a5 a6 a7 => kept_set8 h K1.2 a0 a1 a2 a3 a4 a5 a6 a7
    have Nb1b2 : b1 ≠ u1.heap.size := Nat.ne_of_lt (at_lt Zb1)
    replace Zb1 : At (u1.alloc (.cells #[.string ⟨#[]⟩, .int .u64 0, .int .u32 0, .int .u8 0, .int .u8 0, .int .u32 0, .int .u64 0, .string ⟨#[]⟩] 27)) b1 #[.string ⟨#[]⟩, .int .u64 0, .int .u32 0, .int .u8 0, .int .u8 0, .int .u32 0, .int .u64 0, .string ⟨#[]⟩] 27 := at_alloc Zb1 _
    clear A1 K1
    go_simp
    have A1 := B1
    have K1 := L1
    clear B1 L1 hHeld
    show K _ (u1.alloc (.cells #[.string ⟨#[]⟩, .int .u64 0, .int .u32 0, .int .u8 0, .int .u8 0, .int .u32 0, .int .u64 0, .string ⟨#[]⟩] 27))
    generalize (u1.alloc (.cells #[.string ⟨#[]⟩, .int .u64 0, .int .u32 0, .int .u8 0, .int .u8 0, .int .u32 0, .int .u64 0, .string ⟨#[]⟩] 27)) = u2 at *
    generalize u1.heap.size = b2 at *
    refine hK.out _ _ (at3 A1) (fun hHeld => ?_)
    clear hK K
    try simp only [List.getElem_toArray, List.getElem_cons_zero, List.getElem_cons_succ, Act.put, List.setIfInBounds_toArray, List.set_cons_zero, List.set_cons_succ]
    refine wpAnyH_ready (rs := [7]) (by kernel_rfl) (by simp) ?_
    refine AllReadyH.cons (i := 7) rfl (fun K hK => ?_) AllReadyH.nil
    have Zb3 : At (u2.alloc (.cells #[.string ⟨#[]⟩, .int .u64 0, .int .u32 0, .int .u8 0, .int .u8 0, .int .u32 0, .int .u64 0, .string ⟨#[]⟩] 27)) u2.heap.size #[.string ⟨#[]⟩, .int .u64 0, .int .u32 0, .int .u8 0, .int .u8 0, .int .u32 0, .int .u64 0, .string ⟨#[]⟩] 27 := at_new u2 _ _
    have B1 : At (u2.alloc (.cells #[.string ⟨#[]⟩, .int .u64 0, .int .u32 0, .int .u8 0, .int .u8 0, .int .u32 0, .int .u64 0, .string ⟨#[]⟩] 27)) X #[.int .u64 1, .int .u32 2, .int .u8 3] 25 := at_alloc A1 _
    have L1 : Kept w (u2.alloc (.cells #[.string ⟨#[]⟩, .int .u64 0, .int .u32 0, .int .u8 0, .int .u8 0, .int .u32 0, .int .u64 0, .string ⟨#[]⟩] 27)) := kept_alloc K1 _
    have NXb3 : X ≠ u2.heap.size := Nat.ne_of_lt (at_lt A1)
    have Ksb3 : Hid (∀ u', Kept w u' → ∀ a0 a1 a2 a3 a4 a5 a6 a7, Kept w (set8 u' u2.heap.size a0 a1 a2 a3 a4 a5 a6 a7)) := fun u' h a0 a1 a2 a3 a4 a5 a6 a7 => kept_set8 h K1.2 a0 a1 a2 a3 a4 a5 a6 a7
    have Nb1b3 : b1 ≠ u2.heap.size := Nat.ne_of_lt (at_lt Zb1)
    replace Zb1 : At (u2.alloc (.cells #[.string ⟨#[]⟩, .int .u64 0, .int .u32 0, .int .u8 0, .int .u8 0, .int .u32 0, .int .u64 0, .string ⟨#[]⟩] 27)) b1 #[.string ⟨#[]⟩, .int .u64 0, .int .u32 0, .int .u8 0, .int .u8 0, .int .u32 0, .int .u64 0, .string ⟨#[]⟩] 27 := at_alloc Zb1 _
    have Nb2b3 : b2 ≠ u2.heap.size := Nat.ne_of_lt (at_lt Zb2)
    replace Zb2 : At (u2.alloc (.cells #[.string ⟨#[]⟩, .int .u64 0, .int .u32 0, .int .u8 0, .int .u8 0, .int .u32 0, .int .u64 0, .string ⟨#[]⟩] 27)) b2 #[.string ⟨#[]⟩, .int .u64 0, .int .u32 0, .int .u8 0, .int .u8 0, .int .u32 0, .int .u64 0, .string ⟨#[]⟩] 27 := at_alloc Zb2 _
    clear A1 K1
    go_simp
    have A1 := B1
    have K1 := L1
    clear B1 L1 hHeld
    show K _ (u2.alloc (.cells #[.string ⟨#[]⟩, .int .u64 0, .int .u32 0, .int .u8 0, .int .u8 0, .int .u32 0, .int .u64 0, .string ⟨#[]⟩] 27))
    generalize (u2.alloc (.cells #[.string ⟨#[]⟩, .int .u64 0, .int .u32 0, .int .u8 0, .int .u8 0, .int .u32 0, .int .u64 0, .string ⟨#[]⟩] 27)) = u3 at *
    generalize u2.heap.size = b3 at *
    refine hK.out _ _ (at3 A1) (fun hHeld => ?_)
    clear hK K
    try simp only [List.getElem_toArray, List.getElem_cons_zero, List.getElem_cons_succ, Act.put, List.setIfInBounds_toArray, List.set_cons_zero, List.set_cons_succ]
    refine wpAnyH_ready (rs := [9]) (by kernel_rfl) (by simp) ?_
    refine AllReadyH.cons (i := 9) rfl (fun K hK => ?_) AllReadyH.nil
    obtain ⟨d0, d1, d2, d3, d4, d5, d6, d7, df⟩ := at_cells8 Zb1
    go_simp
    clear d0 d1 d2 d3 d4 d5 d6 d7 df hHeld
    show K _ (set8 u3 b1 (.string ⟨#[97]⟩) (.int .u64 1) (.int .u32 2) (.int .u8 3) (.int .u8 1) (.int .u32 0) (.int .u64 0) (.string ⟨#[]⟩))
    replace Zb1 := at_set8 Zb1 (.string ⟨#[97]⟩) (.int .u64 1) (.int .u32 2) (.int .u8 3) (.int .u8 1) (.int .u32 0) (.int .u64 0) (.string ⟨#[]⟩)
    replace Zb2 := at_other8 Zb2 (Ne.symm Nb1b2) (.string ⟨#[97]⟩) (.int .u64 1) (.int .u32 2) (.int .u8 3) (.int .u8 1) (.int .u32 0) (.int .u64 0) (.string ⟨#[]⟩)
    replace Zb3 := at_other8 Zb3 (Ne.symm Nb1b3) (.string ⟨#[97]⟩) (.int .u64 1) (.int .u32 2) (.int .u8 3) (.int .u8 1) (.int .u32 0) (.int .u64 0) (.string ⟨#[]⟩)
    replace A1 := at_other8 A1 NXb1 (.string ⟨#[97]⟩) (.int .u64 1) (.int .u32 2) (.int .u8 3) (.int .u8 1) (.int .u32 0) (.int .u64 0) (.string ⟨#[]⟩)
    replace K1 := Ksb1.out _ K1 (.string ⟨#[97]⟩) (.int .u64 1) (.int .u32 2) (.int .u8 3) (.int .u8 1) (.int .u32 0) (.int .u64 0) (.string ⟨#[]⟩)
    generalize set8 u3 b1 (.string ⟨#[97]⟩) (.int .u64 1) (.int .u32 2) (.int .u8 3) (.int .u8 1) (.int .u32 0) (.int .u64 0) (.string ⟨#[]⟩) = u4 at *
    refine hK.out _ _ (at3 A1) (fun hHeld => ?_)
    clear hK K
    try simp only [List.getElem_toArray, List.getElem_cons_zero, List.getElem_cons_succ, Act.put, List.setIfInBounds_toArray, List.set_cons_zero, List.set_cons_succ]
    refine wpAnyH_ready (rs := [10]) (by kernel_rfl) (by simp) ?_
    refine AllReadyH.cons (i := 10) rfl (fun K hK => ?_) AllReadyH.nil
    obtain ⟨d0, d1, d2, d3, d4, d5, d6, d7, df⟩ := at_cells8 Zb3
    go_simp
    clear d0 d1 d2 d3 d4 d5 d6 d7 df hHeld
    show K _ (set8 u4 b3 (.string ⟨#[97]⟩) (.int .u64 1) (.int .u32 2) (.int .u8 3) (.int .u8 2) (.int .u32 0) (.int .u64 0) (.string ⟨#[]⟩))
    replace Zb3 := at_set8 Zb3 (.string ⟨#[97]⟩) (.int .u64 1) (.int .u32 2) (.int .u8 3) (.int .u8 2) (.int .u32 0) (.int .u64 0) (.string ⟨#[]⟩)
    replace Zb1 := at_other8 Zb1 Nb1b3 (.string ⟨#[97]⟩) (.int .u64 1) (.int .u32 2) (.int .u8 3) (.int .u8 2) (.int .u32 0) (.int .u64 0) (.string ⟨#[]⟩)
    replace Zb2 := at_other8 Zb2 Nb2b3 (.string ⟨#[97]⟩) (.int .u64 1) (.int .u32 2) (.int .u8 3) (.int .u8 2) (.int .u32 0) (.int .u64 0) (.string ⟨#[]⟩)
    replace A1 := at_other8 A1 NXb3 (.string ⟨#[97]⟩) (.int .u64 1) (.int .u32 2) (.int .u8 3) (.int .u8 2) (.int .u32 0) (.int .u64 0) (.string ⟨#[]⟩)
    replace K1 := Ksb3.out _ K1 (.string ⟨#[97]⟩) (.int .u64 1) (.int .u32 2) (.int .u8 3) (.int .u8 2) (.int .u32 0) (.int .u64 0) (.string ⟨#[]⟩)
    generalize set8 u4 b3 (.string ⟨#[97]⟩) (.int .u64 1) (.int .u32 2) (.int .u8 3) (.int .u8 2) (.int .u32 0) (.int .u64 0) (.string ⟨#[]⟩) = u5 at *
    refine hK.out _ _ (at3 A1) (fun hHeld => ?_)
    clear hK K
    try simp only [List.getElem_toArray, List.getElem_cons_zero, List.getElem_cons_succ, Act.put, List.setIfInBounds_toArray, List.set_cons_zero, List.set_cons_succ]
    refine wpAnyH_ready (rs := [11]) (by kernel_rfl) (by simp) ?_
    refine AllReadyH.cons (i := 11) rfl (fun K hK => ?_) AllReadyH.nil
    obtain ⟨d0, d1, d2, d3, d4, d5, d6, d7, df⟩ := at_cells8 Zb2
    go_simp
    clear d0 d1 d2 d3 d4 d5 d6 d7 df hHeld
    show K _ (set8 u5 b2 (.string ⟨#[97]⟩) (.int .u64 1) (.int .u32 2) (.int .u8 3) (.int .u8 3) (.int .u32 0) (.int .u64 0) (.string ⟨#[]⟩))
    replace Zb2 := at_set8 Zb2 (.string ⟨#[97]⟩) (.int .u64 1) (.int .u32 2) (.int .u8 3) (.int .u8 3) (.int .u32 0) (.int .u64 0) (.string ⟨#[]⟩)
    replace Zb1 := at_other8 Zb1 Nb1b2 (.string ⟨#[97]⟩) (.int .u64 1) (.int .u32 2) (.int .u8 3) (.int .u8 3) (.int .u32 0) (.int .u64 0) (.string ⟨#[]⟩)
    replace Zb3 := at_other8 Zb3 (Ne.symm Nb2b3) (.string ⟨#[97]⟩) (.int .u64 1) (.int .u32 2) (.int .u8 3) (.int .u8 3) (.int .u32 0) (.int .u64 0) (.string ⟨#[]⟩)
    replace A1 := at_other8 A1 NXb2 (.string ⟨#[97]⟩) (.int .u64 1) (.int .u32 2) (.int .u8 3) (.int .u8 3) (.int .u32 0) (.int .u64 0) (.string ⟨#[]⟩)
    replace K1 := Ksb2.out _ K1 (.string ⟨#[97]⟩) (.int .u64 1) (.int .u32 2) (.int .u8 3) (.int .u8 3) (.int .u32 0) (.int .u64 0) (.string ⟨#[]⟩)
    generalize set8 u5 b2 (.string ⟨#[97]⟩) (.int .u64 1) (.int .u32 2) (.int .u8 3) (.int .u8 3) (.int .u32 0) (.int .u64 0) (.string ⟨#[]⟩) = u6 at *
    refine hK.out _ _ (at3 A1) (fun hHeld => ?_)
    clear hK K
    try simp only [List.getElem_toArray, List.getElem_cons_zero, List.getElem_cons_succ, Act.put, List.setIfInBounds_toArray, List.set_cons_zero, List.set_cons_succ]
    refine wpAnyH_done (by kernel_rfl) ?_ _
    refine NoPanic.normal ?_
    clear hHeld A1 NXb1 NXb2 NXb3 Nb1b2 Nb1b3 Nb2b3 Ksb1 Ksb2 Ksb3
    obtain ⟨c0, c1, c2, c3, c4, c5, c6, c7, -⟩ := at_cells8 Zb1
    go_wp2_with fail
    refine (put_m _).mono ?_
    rintro e w6 ⟨rfl, k6⟩
    replace K1 := kept_trans K1 k6
    replace Zb1 := at_kept Zb1 k6
    replace Zb2 := at_kept Zb2 k6
    replace Zb3 := at_kept Zb3 k6
    clear k6 c0 c1 c2 c3 c4 c5 c6 c7
    obtain ⟨c0, c1, c2, c3, c4, c5, c6, c7, -⟩ := at_cells8 Zb1
    obtain ⟨d0, d1, d2, d3, d4, d5, d6, d7, -⟩ := at_cells8 Zb3
    go_wp2_with fail
    refine (cmp_mt _).mono ?_
    rintro e w7 ⟨rfl, k6⟩
    replace K1 := kept_trans K1 k6
    replace Zb1 := at_kept Zb1 k6
    replace Zb2 := at_kept Zb2 k6
    replace Zb3 := at_kept Zb3 k6
    clear k6 c0 c1 c2 c3 c4 c5 c6 c7 d0 d1 d2 d3 d4 d5 d6 d7
    obtain ⟨c0, c1, c2, c3, c4, c5, c6, c7, -⟩ := at_cells8 Zb2
    obtain ⟨d0, d1, d2, d3, d4, d5, d6, d7, -⟩ := at_cells8 Zb3
    go_wp2_with fail
    refine (cmp_vt _).mono ?_
    rintro e w8 ⟨rfl, k6⟩
    replace K1 := kept_trans K1 k6
    replace Zb1 := at_kept Zb1 k6
    replace Zb2 := at_kept Zb2 k6
    replace Zb3 := at_kept Zb3 k6
    clear k6 c0 c1 c2 c3 c4 c5 c6 c7 d0 d1 d2 d3 d4 d5 d6 d7
    obtain ⟨c0, c1, c2, c3, c4, c5, c6, c7, -⟩ := at_cells8 Zb2
    go_wp2_with fail
    refine (may_v _).mono ?_
    rintro e w9 ⟨rfl, k6⟩
    replace K1 := kept_trans K1 k6
    replace Zb1 := at_kept Zb1 k6
    replace Zb2 := at_kept Zb2 k6
    replace Zb3 := at_kept Zb3 k6
    clear k6 c0 c1 c2 c3 c4 c5 c6 c7
    obtain ⟨c0, c1, c2, c3, c4, c5, c6, c7, -⟩ := at_cells8 Zb2
    go_wp2_with fail
    refine (live_v _).mono ?_
    rintro e w10 ⟨rfl, k6⟩
    replace K1 := kept_trans K1 k6
    replace Zb1 := at_kept Zb1 k6
    replace Zb2 := at_kept Zb2 k6
    replace Zb3 := at_kept Zb3 k6
    clear k6 c0 c1 c2 c3 c4 c5 c6 c7
    go_wp2_with fail
    go_ret
    exact ⟨rfl, K1⟩
  refine AllReadyH.cons (i := 7) rfl (fun K hK => ?_) ?_
  · have Zb1 : At (w0.alloc (.cells #[.string ⟨#[]⟩, .int .u64 0, .int .u32 0, .int .u8 0, .int .u8 0, .int .u32 0, .int .u64 0, .string ⟨#[]⟩] 27)).drew w0.heap.size #[.string ⟨#[]⟩, .int .u64 0, .int .u32 0, .int .u8 0, .int .u8 0, .int .u32 0, .int .u64 0, .string ⟨#[]⟩] 27 := at_new w0 _ _
    have B1 : At (w0.alloc (.cells #[.string ⟨#[]⟩, .int .u64 0, .int .u32 0, .int .u8 0, .int .u8 0, .int .u32 0, .int .u64 0, .string ⟨#[]⟩] 27)).drew X #[.int .u64 1, .int .u32 2, .int .u8 3] 25 := at_alloc A1 _
    have L1 : Kept w (w0.alloc (.cells #[.string ⟨#[]⟩, .int .u64 0, .int .u32 0, .int .u8 0, .int .u8 0, .int .u32 0, .int .u64 0, .string ⟨#[]⟩] 27)).drew := kept_alloc K1 _
    have NXb1 : X ≠ w0.heap.size := Nat.ne_of_lt (at_lt A1)
    have Ksb1 : Hid (∀ u', Kept w u' → ∀ a0 a1 a2 a3 a4 a5 a6 a7, Kept w (set8 u' w0.heap.size a0 a1 a2 a3 a4 a5 a6 a7)) := fun u' h a0 a1 a2 a3 a4 a5 a6 a7 => kept_set8 h K1.2 a0 a1 a2 a3 a4 a5 a6 a7
    clear A1 K1
    go_simp
    have A1 := B1
    have K1 := L1
    clear B1 L1 hHeld
    show K _ (w0.alloc (.cells #[.string ⟨#[]⟩, .int .u64 0, .int .u32 0, .int .u8 0, .int .u8 0, .int .u32 0, .int .u64 0, .string ⟨#[]⟩] 27)).drew
    generalize (w0.alloc (.cells #[.string ⟨#[]⟩, .int .u64 0, .int .u32 0, .int .u8 0, .int .u8 0, .int .u32 0, .int .u64 0, .string ⟨#[]⟩] 27)).drew = u1 at *
    generalize w0.heap.size = b1 at *
    refine hK.out _ _ (at3 A1) (fun hHeld => ?_)
    clear hK K
    try simp only [List.getElem_toArray, List.getElem_cons_zero, List.getElem_cons_succ, Act.put, List.setIfInBounds_toArray, List.set_cons_zero, List.set_cons_succ]
    refine wpAnyH_ready (rs := [6, 8]) (by kernel_rfl) (by simp) ?_
    refine AllReadyH.cons (i := 6) rfl (fun K hK => ?_) ?_
    · have Zb2 : At (u1.alloc (.cells #[.string ⟨#[]⟩, .int .u64 0, .int .u32 0, .int .u8 0, .int .u8 0, .int .u32 0, .int .u64 0, .string ⟨#[]⟩] 27)) u1.heap.size #[.string ⟨#[]⟩, .int .u64 0, .int .u32 0, .int .u8 0, .int .u8 0, .int .u32 0, .int .u64 0, .string ⟨#[]⟩] 27 := at_new u1 _ _
      have B1 : At (u1.alloc (.cells #[.string ⟨#[]⟩, .int .u64 0, .int .u32 0, .int .u8 0, .int .u8 0, .int .u32 0, .int .u64 0, .string ⟨#[]⟩] 27)) X #[.int .u64 1, .int .u32 2, .int .u8 3] 25 := at_alloc A1 _
      have L1 : Kept w (u1.alloc (.cells #[.string ⟨#[]⟩, .int .u64 0, .int .u32 0, .int .u8 0, .int .u8 0, .int .u32 0, .int .u64 0, .string ⟨#[]⟩] 27)) := kept_alloc K1 _
      have NXb2 : X ≠ u1.heap.size := Nat.ne_of_lt (at_lt A1)
      have Ksb2 : Hid (∀ u', Kept w u' → ∀ a0 a1 a2 a3 a4 a5 a6 a7, Kept w (set8 u' u1.heap.size a0 a1 a2 a3 a4 a5 a6 a7)) := fun u' h a0 a1 a2 a3 a4 a5 a6 a7 => kept_set8 h K1.2 a0 a1 a2 a3 a4 a5 a6 a7
      have Nb1b2 : b1 ≠ u1.heap.size := Nat.ne_of_lt (at_lt Zb1)
      replace Zb1 : At (u1.alloc (.cells #[.string ⟨#[]⟩, .int .u64 0, .int .u32 0, .int .u8 0, .int .u8 0, .int .u32 0, .int .u64 0, .string ⟨#[]⟩] 27)) b1 #[.string ⟨#[]⟩, .int .u64 0, .int .u32 0, .int .u8 0, .int .u8 0, .int .u32 0, .int .u64 0, .string ⟨#[]⟩] 27 := at_alloc Zb1 _
      clear A1 K1
      go_simp
      have A1 := B1
      have K1 := L1
      clear B1 L1 hHeld
      show K _ (u1.alloc (.cells #[.string ⟨#[]⟩, .int .u64 0, .int .u32 0, .int .u8 0, .int .u8 0, .int .u32 0, .int .u64 0, .string ⟨#[]⟩] 27))
      generalize (u1.alloc (.cells #[.string ⟨#[]⟩, .int .u64 0, .int .u32 0, .int .u8 0, .int .u8 0, .int .u32 0, .int .u64 0, .string ⟨#[]⟩] 27)) = u2 at *
      generalize u1.heap.size = b2 at *
      refine hK.out _ _ (at3 A1) (fun hHeld => ?_)
      clear hK K
      try simp only [List.getElem_toArray, List.getElem_cons_zero, List.getElem_cons_succ, Act.put, List.setIfInBounds_toArray, List.set_cons_zero, List.set_cons_succ]
      refine wpAnyH_ready (rs := [8]) (by kernel_rfl) (by simp) ?_
      refine AllReadyH.cons (i := 8) rfl (fun K hK => ?_) AllReadyH.nil
      have Zb3 : At (u2.alloc (.cells #[.string ⟨#[]⟩, .int .u64 0, .int .u32 0, .int .u8 0, .int .u8 0, .int .u32 0, .int .u64 0, .string ⟨#[]⟩] 27)) u2.heap.size #[.string ⟨#[]⟩, .int .u64 0, .int .u32 0, .int .u8 0, .int .u8 0, .int .u32 0, .int .u64 0, .string ⟨#[]⟩] 27 := at_new u2 _ _
      have B1 : At (u2.alloc (.cells #[.string ⟨#[]⟩, .int .u64 0, .int .u32 0, .int .u8 0, .int .u8 0, .int .u32 0, .int .u64 0, .string ⟨#[]⟩] 27)) X #[.int .u64 1, .int .u32 2, .int .u8 3] 25 := at_alloc A1 _
      have L1 : Kept w (u2.alloc (.cells #[.string ⟨#[]⟩, .int .u64 0, .int .u32 0, .int .u8 0, .int .u8 0, .int .u32 0, .int .u64 0, .string ⟨#[]⟩] 27)) := kept_alloc K1 _
      have NXb3 : X ≠ u2.heap.size := Nat.ne_of_lt (at_lt A1)
      have Ksb3 : Hid (∀ u', Kept w u' → ∀ a0 a1 a2 a3 a4 a5 a6 a7, Kept w (set8 u' u2.heap.size a0 a1 a2 a3 a4 a5 a6 a7)) := fun u' h a0 a1 a2 a3 a4 a5 a6 a7 => kept_set8 h K1.2 a0 a1 a2 a3 a4 a5 a6 a7
      have Nb1b3 : b1 ≠ u2.heap.size := Nat.ne_of_lt (at_lt Zb1)
      replace Zb1 : At (u2.alloc (.cells #[.string ⟨#[]⟩, .int .u64 0, .int .u32 0, .int .u8 0, .int .u8 0, .int .u32 0, .int .u64 0, .string ⟨#[]⟩] 27)) b1 #[.string ⟨#[]⟩, .int .u64 0, .int .u32 0, .int .u8 0, .int .u8 0, .int .u32 0, .int .u64 0, .string ⟨#[]⟩] 27 := at_alloc Zb1 _
      have Nb2b3 : b2 ≠ u2.heap.size := Nat.ne_of_lt (at_lt Zb2)
      replace Zb2 : At (u2.alloc (.cells #[.string ⟨#[]⟩, .int .u64 0, .int .u32 0, .int .u8 0, .int .u8 0, .int .u32 0, .int .u64 0, .string ⟨#[]⟩] 27)) b2 #[.string ⟨#[]⟩, .int .u64 0, .int .u32 0, .int .u8 0, .int .u8 0, .int .u32 0, .int .u64 0, .string ⟨#[]⟩] 27 := at_alloc Zb2 _
      clear A1 K1
      go_simp
      have A1 := B1
      have K1 := L1
      clear B1 L1 hHeld
      show K _ (u2.alloc (.cells #[.string ⟨#[]⟩, .int .u64 0, .int .u32 0, .int .u8 0, .int .u8 0, .int .u32 0, .int .u64 0, .string ⟨#[]⟩] 27))
      generalize (u2.alloc (.cells #[.string ⟨#[]⟩, .int .u64 0, .int .u32 0, .int .u8 0, .int .u8 0, .int .u32 0, .int .u64 0, .string ⟨#[]⟩] 27)) = u3 at *
      generalize u2.heap.size = b3 at *
      refine hK.out _ _ (at3 A1) (fun hHeld => ?_)
      clear hK K
      try simp only [List.getElem_toArray, List.getElem_cons_zero, List.getElem_cons_succ, Act.put, List.setIfInBounds_toArray, List.set_cons_zero, List.set_cons_succ]
      refine wpAnyH_ready (rs := [9]) (by kernel_rfl) (by simp) ?_
      refine AllReadyH.cons (i := 9) rfl (fun K hK => ?_) AllReadyH.nil
      obtain ⟨d0, d1, d2, d3, d4, d5, d6, d7, df⟩ := at_cells8 Zb2
      go_simp
      clear d0 d1 d2 d3 d4 d5 d6 d7 df hHeld
      show K _ (set8 u3 b2 (.string ⟨#[97]⟩) (.int .u64 1) (.int .u32 2) (.int .u8 3) (.int .u8 1) (.int .u32 0) (.int .u64 0) (.string ⟨#[]⟩))
      replace Zb2 := at_set8 Zb2 (.string ⟨#[97]⟩) (.int .u64 1) (.int .u32 2) (.int .u8 3) (.int .u8 1) (.int .u32 0) (.int .u64 0) (.string ⟨#[]⟩)
      replace Zb1 := at_other8 Zb1 Nb1b2 (.string ⟨#[97]⟩) (.int .u64 1) (.int .u32 2) (.int .u8 3) (.int .u8 1) (.int .u32 0) (.int .u64 0) (.string ⟨#[]⟩)
      replace Zb3 := at_other8 Zb3 (Ne.symm Nb2b3) (.string ⟨#[97]⟩) (.int .u64 1) (.int .u32 2) (.int .u8 3) (.int .u8 1) (.int .u32 0) (.int .u64 0) (.string ⟨#[]⟩)
      replace A1 := at_other8 A1 NXb2 (.string ⟨#[97]⟩) (.int .u64 1) (.int .u32 2) (.int .u8 3) (.int .u8 1) (.int .u32 0) (.int .u64 0) (.string ⟨#[]⟩)
      replace K1 := Ksb2.out _ K1 (.string ⟨#[97]⟩) (.int .u64 1) (.int .u32 2) (.int .u8 3) (.int .u8 1) (.int .u32 0) (.int .u64 0) (.string ⟨#[]⟩)
      generalize set8 u3 b2 (.string ⟨#[97]⟩) (.int .u64 1) (.int .u32 2) (.int .u8 3) (.int .u8 1) (.int .u32 0) (.int .u64 0) (.string ⟨#[]⟩) = u4 at *
      refine hK.out _ _ (at3 A1) (fun hHeld => ?_)
      clear hK K
      try simp only [List.getElem_toArray, List.getElem_cons_zero, List.getElem_cons_succ, Act.put, List.setIfInBounds_toArray, List.set_cons_zero, List.set_cons_succ]
      refine wpAnyH_ready (rs := [10]) (by kernel_rfl) (by simp) ?_
      refine AllReadyH.cons (i := 10) rfl (fun K hK => ?_) AllReadyH.nil
      obtain ⟨d0, d1, d2, d3, d4, d5, d6, d7, df⟩ := at_cells8 Zb1
      go_simp
      clear d0 d1 d2 d3 d4 d5 d6 d7 df hHeld
      show K _ (set8 u4 b1 (.string ⟨#[97]⟩) (.int .u64 1) (.int .u32 2) (.int .u8 3) (.int .u8 2) (.int .u32 0) (.int .u64 0) (.string ⟨#[]⟩))
      replace Zb1 := at_set8 Zb1 (.string ⟨#[97]⟩) (.int .u64 1) (.int .u32 2) (.int .u8 3) (.int .u8 2) (.int .u32 0) (.int .u64 0) (.string ⟨#[]⟩)
      replace Zb2 := at_other8 Zb2 (Ne.symm Nb1b2) (.string ⟨#[97]⟩) (.int .u64 1) (.int .u32 2) (.int .u8 3) (.int .u8 2) (.int .u32 0) (.int .u64 0) (.string ⟨#[]⟩)
      replace Zb3 := at_other8 Zb3 (Ne.symm Nb1b3) (.string ⟨#[97]⟩) (.int .u64 1) (.int .u32 2) (.int .u8 3) (.int .u8 2) (.int .u32 0) (.int .u64 0) (.string ⟨#[]⟩)
      replace A1 := at_other8 A1 NXb1 (.string ⟨#[97]⟩) (.int .u64 1) (.int .u32 2) (.int .u8 3) (.int .u8 2) (.int .u32 0) (.int .u64 0) (.string ⟨#[]⟩)
      replace K1 := Ksb1.out _ K1 (.string ⟨#[97]⟩) (.int .u64 1) (.int .u32 2) (.int .u8 3) (.int .u8 2) (.int .u32 0) (.int .u64 0) (.string ⟨#[]⟩)
      generalize set8 u4 b1 (.string ⟨#[97]⟩) (.int .u64 1) (.int .u32 2) (.int .u8 3) (.int .u8 2) (.int .u32 0) (.int .u64 0) (.string ⟨#[]⟩) = u5 at *
      refine hK.out _ _ (at3 A1) (fun hHeld => ?_)
      clear hK K
      try simp only [List.getElem_toArray, List.getElem_cons_zero, List.getElem_cons_succ, Act.put, List.setIfInBounds_toArray, List.set_cons_zero, List.set_cons_succ]
      refine wpAnyH_ready (rs := [11]) (by kernel_rfl) (by simp) ?_
      refine AllReadyH.cons (i := 11) rfl (fun K hK => ?_) AllReadyH.nil
      obtain ⟨d0, d1, d2, d3, d4, d5, d6, d7, df⟩ := at_cells8 Zb3
      go_simp
      clear d0 d1 d2 d3 d4 d5 d6 d7 df hHeld
      show K _ (set8 u5 b3 (.string ⟨#[97]⟩) (.int .u64 1) (.int .u32 2) (.int .u8 3) (.int .u8 3) (.int .u32 0) (.int .u64 0) (.string ⟨#[]⟩))
      replace Zb3 := at_set8 Zb3 (.string ⟨#[97]⟩) (.int .u64 1) (.int .u32 2) (.int .u8 3) (.int .u8 3) (.int .u32 0) (.int .u64 0) (.string ⟨#[]⟩)
      replace Zb1 := at_other8 Zb1 Nb1b3 (.string ⟨#[97]⟩) (.int .u64 1) (.int .u32 2) (.int .u8 3) (.int .u8 3) (.int .u32 0) (.int .u64 0) (.string ⟨#[]⟩)
      replace Zb2 := at_other8 Zb2 Nb2b3 (.string ⟨#[97]⟩) (.int .u64 1) (.int .u32 2) (.int .u8 3) (.int .u8 3) (.int .u32 0) (.int .u64 0) (.string ⟨#[]⟩)
      replace A1 := at_other8 A1 NXb3 (.string ⟨#[97]⟩) (.int .u64 1) (.int .u32 2) (.int .u8 3) (.int .u8 3) (.int .u32 0) (.int .u64 0) (.string ⟨#[]⟩)
      replace K1 := Ksb3.out _ K1 (.string ⟨#[97]⟩) (.int .u64 1) (.int .u32 2) (.int .u8 3) (.int .u8 3) (.int .u32 0) (.int .u64 0) (.string ⟨#[]⟩)
      generalize set8 u5 b3 (.string ⟨#[97]⟩) (.int .u64 1) (.int .u32 2) (.int .u8 3) (.int .u8 3) (.int .u32 0) (.int .u64 0) (.string ⟨#[]⟩) = u6 at *
      refine hK.out _ _ (at3 A1) (fun hHeld => ?_)
      clear hK K
      try simp only [List.getElem_toArray, List.getElem_cons_zero, List.getElem_cons_succ, Act.put, List.setIfInBounds_toArray, List.set_cons_zero, List.set_cons_succ]
      refine wpAnyH_done (by kernel_rfl) ?_ _
      refine NoPanic.normal ?_
      clear hHeld A1 NXb1 NXb2 NXb3 Nb1b2 Nb1b3 Nb2b3 Ksb1 Ksb2 Ksb3
      obtain ⟨c0, c1, c2, c3, c4, c5, c6, c7, -⟩ := at_cells8 Zb2
      go_wp2_with fail
      refine (put_m _).mono ?_
      rintro e w6 ⟨rfl, k6⟩
      replace K1 := kept_trans K1 k6
      replace Zb1 := at_kept Zb1 k6
      replace Zb2 := at_kept Zb2 k6
      replace Zb3 := at_kept Zb3 k6
      clear k6 c0 c1 c2 c3 c4 c5 c6 c7
      obtain ⟨c0, c1, c2, c3, c4, c5, c6, c7, -⟩ := at_cells8 Zb2
      obtain ⟨d0, d1, d2, d3, d4, d5, d6, d7, -⟩ := at_cells8 Zb1
      go_wp2_with fail
      refine (cmp_mt _).mono ?_
      rintro e w7 ⟨rfl, k6⟩
      replace K1 := kept_trans K1 k6
      replace Zb1 := at_kept Zb1 k6
      replace Zb2 := at_kept Zb2 k6
      replace Zb3 := at_kept Zb3 k6
      clear k6 c0 c1 c2 c3 c4 c5 c6 c7 d0 d1 d2 d3 d4 d5 d6 d7
      obtain ⟨c0, c1, c2, c3, c4, c5, c6, c7, -⟩ := at_cells8 Zb3
      obtain ⟨d0, d1, d2, d3, d4, d5, d6, d7, -⟩ := at_cells8 Zb1
      go_wp2_with fail
      refine (cmp_vt _).mono ?_
      rintro e w8 ⟨rfl, k6⟩
      replace K1 := kept_trans K1 k6
      replace Zb1 := at_kept Zb1 k6
      replace Zb2 := at_kept Zb2 k6
      replace Zb3 := at_kept Zb3 k6
      clear k6 c0 c1 c2 c3 c4 c5 c6 c7 d0 d1 d2 d3 d4 d5 d6 d7
      obtain ⟨c0, c1, c2, c3, c4, c5, c6, c7, -⟩ := at_cells8 Zb3
      go_wp2_with fail
      refine (may_v _).mono ?_
      rintro e w9 ⟨rfl, k6⟩
      replace K1 := kept_trans K1 k6
      replace Zb1 := at_kept Zb1 k6
      replace Zb2 := at_kept Zb2 k6
      replace Zb3 := at_kept Zb3 k6
      clear k6 c0 c1 c2 c3 c4 c5 c6 c7
      obtain ⟨c0, c1, c2, c3, c4, c5, c6, c7, -⟩ := at_cells8 Zb3
      go_wp2_with fail
      refine (live_v _).mono ?_
      rintro e w10 ⟨rfl, k6⟩
      replace K1 := kept_trans K1 k6
      replace Zb1 := at_kept Zb1 k6
      replace Zb2 := at_kept Zb2 k6
      replace Zb3 := at_kept Zb3 k6
      clear k6 c0 c1 c2 c3 c4 c5 c6 c7
      go_wp2_with fail
      go_ret
      exact ⟨rfl, K1⟩
    refine AllReadyH.cons (i := 8) rfl (fun K hK => ?_) AllReadyH.nil
    have Zb2 : At (u1.alloc (.cells #[.string ⟨#[]⟩, .int .u64 0, .int .u32 0, .int .u8 0, .int .u8 0, .int .u32 0, .int .u64 0, .string ⟨#[]⟩] 27)) u1.heap.size #[.string ⟨#[]⟩, .int .u64 0, .int .u32 0, .int .u8 0, .int .u8 0, .int .u32 0, .int .u64 0, .string ⟨#[]⟩] 27 := at_new u1 _ _
    have B1 : At (u1.alloc (.cells #[.string ⟨#[]⟩, .int .u64 0, .int .u32 0, .int .u8 0, .int .u8 0, .int .u32 0, .int .u64 0, .string ⟨#[]⟩] 27)) X #[.int .u64 1, .int .u32 2, .int .u8 3] 25 := at_alloc A1 _
    have L1 : Kept w (u1.alloc (.cells #[.string ⟨#[]⟩, .int .u64 0, .int .u32 0, .int .u8 0, .int .u8 0, .int .u32 0, .int .u64 0, .string ⟨#[]⟩] 27)) := kept_alloc K1 _
    have NXb2 : X ≠ u1.heap.size := Nat.ne_of_lt (at_lt A1)
    have Ksb2 : Hid (∀ u', Kept w u' → ∀ a0 a1 a2 a3 a4 a5 a6 a7, Kept w (set8 u' u1.heap.size a0 a1 a2 a3 a4 a5 a6 a7)) := fun u' h a0 a1 a2 a3 a4 a5 a6 a7 => kept_set8 h K1.2 a0 a1 a2 a3 a4 a5 a6 a7
    have Nb1b2 : b1 ≠ u1.heap.size := Nat.ne_of_lt (at_lt Zb1)
    replace Zb1 : At (u1.alloc (.cells #[.string ⟨#[]⟩, .int .u64 0, .int .u32 0, .int .u8 0, .int .u8 0, .int .u32 0, .int .u64 0, .string ⟨#[]⟩] 27)) b1 #[.string ⟨#[]⟩, .int .u64 0, .int .u32 0, .int .u8 0, .int .u8 0, .int .u32 0, .int .u64 0, .string ⟨#[]⟩] 27 := at_alloc Zb1 _
    clear A1 K1
    go_simp
    have A1 := B1
    have K1 := L1
    clear B1 L1 hHeld
    show K _ (u1.alloc (.cells #[.string ⟨#[]⟩, .int .u64 0, .int .u32 0, .int .u8 0, .int .u8 0, .int .u32 0, .int .u64 0, .string ⟨#[]⟩] 27))
    generalize (u1.alloc (.cells #[.string ⟨#[]⟩, .int .u64 0, .int .u32 0, .int .u8 0, .int .u8 0, .int .u32 0, .int .u64 0, .string ⟨#[]⟩] 27)) = u2 at *
    generalize u1.heap.size = b2 at *
    refine hK.out _ _ (at3 A1) (fun hHeld => ?_)
    clear hK K
    try simp only [List.getElem_toArray, List.getElem_cons_zero, List.getElem_cons_succ, Act.put, List.setIfInBounds_toArray, List.set_cons_zero, List.set_cons_succ]
    refine wpAnyH_ready (rs := [6]) (by kernel_rfl) (by simp) ?_
    refine AllReadyH.cons (i := 6) rfl (fun K hK => ?_) AllReadyH.nil
    have Zb3 : At (u2.alloc (.cells #[.string ⟨#[]⟩, .int .u64 0, .int .u32 0, .int .u8 0, .int .u8 0, .int .u32 0, .int .u64 0, .string ⟨#[]⟩] 27)) u2.heap.size #[.string ⟨#[]⟩, .int .u64 0, .int .u32 0, .int .u8 0, .int .u8 0, .int .u32 0, .int .u64 0, .string ⟨#[]⟩] 27 := at_new u2 _ _
    have B1 : At (u2.alloc (.cells #[.string ⟨#[]⟩, .int .u64 0, .int .u32 0, .int .u8 0, .int .u8 0, .int .u32 0, .int .u64 0, .string ⟨#[]⟩] 27)) X #[.int .u64 1, .int .u32 2, .int .u8 3] 25 := at_alloc A1 _
    have L1 : Kept w (u2.alloc (.cells #[.string ⟨#[]⟩, .int .u64 0, .int .u32 0, .int .u8 0, .int .u8 0, .int .u32 0, .int .u64 0, .string ⟨#[]⟩] 27)) := kept_alloc K1 _
    have NXb3 : X ≠ u2.heap.size := Nat.ne_of_lt (at_lt A1)
    have Ksb3 : Hid (∀ u', Kept w u' → ∀ a0 a1 a2 a3 a4 a5 a6 a7, Kept w (set8 u' u2.heap.size a0 a1 a2 a3 a4 a5 a6 a7)) := fun u' h a0 a1 a2 a3 a4 a5 a6 a7 => kept_set8 h K1.2 a0 a1 a2 a3 a4 a5 a6 a7
    have Nb1b3 : b1 ≠ u2.heap.size := Nat.ne_of_lt (at_lt Zb1)
    replace Zb1 : At (u2.alloc (.cells #[.string ⟨#[]⟩, .int .u64 0, .int .u32 0, .int .u8 0, .int .u8 0, .int .u32 0, .int .u64 0, .string ⟨#[]⟩] 27)) b1 #[.string ⟨#[]⟩, .int .u64 0, .int .u32 0, .int .u8 0, .int .u8 0, .int .u32 0, .int .u64 0, .string ⟨#[]⟩] 27 := at_alloc Zb1 _
    have Nb2b3 : b2 ≠ u2.heap.size := Nat.ne_of_lt (at_lt Zb2)
    replace Zb2 : At (u2.alloc (.cells #[.string ⟨#[]⟩, .int .u64 0, .int .u32 0, .int .u8 0, .int .u8 0, .int .u32 0, .int .u64 0, .string ⟨#[]⟩] 27)) b2 #[.string ⟨#[]⟩, .int .u64 0, .int .u32 0, .int .u8 0, .int .u8 0, .int .u32 0, .int .u64 0, .string ⟨#[]⟩] 27 := at_alloc Zb2 _
    clear A1 K1
    go_simp
    have A1 := B1
    have K1 := L1
    clear B1 L1 hHeld
    show K _ (u2.alloc (.cells #[.string ⟨#[]⟩, .int .u64 0, .int .u32 0, .int .u8 0, .int .u8 0, .int .u32 0, .int .u64 0, .string ⟨#[]⟩] 27))
    generalize (u2.alloc (.cells #[.string ⟨#[]⟩, .int .u64 0, .int .u32 0, .int .u8 0, .int .u8 0, .int .u32 0, .int .u64 0, .string ⟨#[]⟩] 27)) = u3 at *
    generalize u2.heap.size = b3 at *
    refine hK.out _ _ (at3 A1) (fun hHeld => ?_)
    clear hK K
    try simp only [List.getElem_toArray, List.getElem_cons_zero, List.getElem_cons_succ, Act.put, List.setIfInBounds_toArray, List.set_cons_zero, List.set_cons_succ]
    refine wpAnyH_ready (rs := [9]) (by kernel_rfl) (by simp) ?_
    refine AllReadyH.cons (i := 9) rfl (fun K hK => ?_) AllReadyH.nil
    obtain ⟨d0, d1, d2, d3, d4, d5, d6, d7, df⟩ := at_cells8 Zb3
    go_simp
    clear d0 d1 d2 d3 d4 d5 d6 d7 df hHeld
    show K _ (set8 u3 b3 (.string ⟨#[97]⟩) (.int .u64 1) (.int .u32 2) (.int .u8 3) (.int .u8 1) (.int .u32 0) (.int .u64 0) (.string ⟨#[]⟩))
    replace Zb3 := at_set8 Zb3 (.string ⟨#[97]⟩) (.int .u64 1) (.int .u32 2) (.int .u8 3) (.int .u8 1) (.int .u32 0) (.int .u64 0) (.string ⟨#[]⟩)
    replace Zb1 := at_other8 Zb1 Nb1b3 (.string ⟨#[97]⟩) (.int .u64 1) (.int .u32 2) (.int .u8 3) (.int .u8 1) (.int .u32 0) (.int .u64 0) (.string ⟨#[]⟩)
    replace Zb2 := at_other8 Zb2 Nb2b3 (.string ⟨#[97]⟩) (.int .u64 1) (.int .u32 2) (.int .u8 3) (.int .u8 1) (.int .u32 0) (.int .u64 0) (.string ⟨#[]⟩)
    replace A1 := at_other8 A1 NXb3 (.string ⟨#[97]⟩) (.int .u64 1) (.int .u32 2) (.int .u8 3) (.int .u8 1) (.int .u32 0) (.int .u64 0) (.string ⟨#[]⟩)
    replace K1 := Ksb3.out _ K1 (.string ⟨#[97]⟩) (.int .u64 1) (.int .u32 2) (.int .u8 3) (.int .u8 1) (.int .u32 0) (.int .u64 0) (.string ⟨#[]⟩)
    generalize set8 u3 b3 (.string ⟨#[97]⟩) (.int .u64 1) (.int .u32 2) (.int .u8 3) (.int .u8 1) (.int .u32 0) (.int .u64 0) (.string ⟨#[]⟩) = u4 at *
    refine hK.out _ _ (at3 A1) (fun hHeld => ?_)
    clear hK K
    try simp only [List.getElem_toArray, List.getElem_cons_zero, List.getElem_cons_succ, Act.put, List.setIfInBounds_toArray, List.set_cons_zero, List.set_cons_succ]
    refine wpAnyH_ready (rs := [10]) (by kernel_rfl) (by simp) ?_
    refine AllReadyH.cons (i := 10) rfl (fun K hK => ?_) AllReadyH.nil
    obtain ⟨d0, d1, d2, d3, d4, d5, d6, d7, df⟩ := at_cells8 Zb1
    go_simp
    clear d0 d1 d2 d3 d4 d5 d6 d7 df hHeld
    show K _ (set8 u4 b1 (.string ⟨#[97]⟩) (.int .u64 1) (.int .u32 2) (.int .u8 3) (.int .u8 2) (.int .u32 0) (.int .u64 0) (.string ⟨#[]⟩))
    replace Zb1 := at_set8 Zb1 (.string ⟨#[97]⟩) (.int .u64 1) (.int .u32 2) (.int .u8 3) (.int .u8 2) (.int .u32 0) (.int .u64 0) (.string ⟨#[]⟩)
    replace Zb2 := at_other8 Zb2 (Ne.symm Nb1b2) (.string ⟨#[97]⟩) (.int .u64 1) (.int .u32 2) (.int .u8 3) (.int .u8 2) (.int .u32 0) (.int .u64 0) (.string ⟨#[]⟩)
    replace Zb3 := at_other8 Zb3 (Ne.symm Nb1b3) (.string ⟨#[97]⟩) (.int .u64 1) (.int .u32 2) (.int .u8 3) (.int .u8 2) (.int .u32 0) (.int .u64 0) (.string ⟨#[]⟩)
    replace A1 := at_other8 A1 NXb1 (.string ⟨#[97]⟩) (.int .u64 1) (.int .u32 2) (.int .u8 3) (.int .u8 2) (.int .u32 0) (.int .u64 0) (.string ⟨#[]⟩)
    replace K1 := Ksb1.out _ K1 (.string ⟨#[97]⟩) (.int .u64 1) (.int .u32 2) (.int .u8 3) (.int .u8 2) (.int .u32 0) (.int .u64 0) (.string ⟨#[]⟩)
    generalize set8 u4 b1 (.string ⟨#[97]⟩) (.int .u64 1) (.int .u32 2) (.int .u8 3) (.int .u8 2) (.int .u32 0) (.int .u64 0) (.string ⟨#[]⟩) = u5 at *
    refine hK.out _ _ (at3 A1) (fun hHeld => ?_)
    clear hK K
    try simp only [List.getElem_toArray, List.getElem_cons_zero, List.getElem_cons_succ, Act.put, List.setIfInBounds_toArray, List.set_cons_zero, List.set_cons_succ]
    refine wpAnyH_ready (rs := [11]) (by kernel_rfl) (by simp) ?_
    refine AllReadyH.cons (i := 11) rfl (fun K hK => ?_) AllReadyH.nil
    obtain ⟨d0, d1, d2, d3, d4, d5, d6, d7, df⟩ := at_cells8 Zb2
    go_simp
    clear d0 d1 d2 d3 d4 d5 d6 d7 df hHeld
    show K _ (set8 u5 b2 (.string ⟨#[97]⟩) (.int .u64 1) (.int .u32 2) (.int .u8 3) (.int .u8 3) (.int .u32 0) (.int .u64 0) (.string ⟨#[]⟩))
    replace Zb2 := at_set8 Zb2 (.string ⟨#[97]⟩) (.int .u64 1) (.int .u32 2) (.int .u8 3) (.int .u8 3) (.int .u32 0) (.int .u64 0) (.string ⟨#[]⟩)
    replace Zb1 := at_other8 Zb1 Nb1b2 (.string ⟨#[97]⟩) (.int .u64 1) (.int .u32 2) (.int .u8 3) (.int .u8 3) (.int .u32 0) (.int .u64 0) (.string ⟨#[]⟩)
    replace Zb3 := at_other8 Zb3 (Ne.symm Nb2b3) (.string ⟨#[97]⟩) (.int .u64 1) (.int .u32 2) (.int .u8 3) (.int .u8 3) (.int .u32 0) (.int .u64 0) (.string ⟨#[]⟩)
    replace A1 := at_other8 A1 NXb2 (.string ⟨#[97]⟩) (.int .u64 1) (.int .u32 2) (.int .u8 3) (.int .u8 3) (.int .u32 0) (.int .u64 0) (.string ⟨#[]⟩)
    replace K1 := Ksb2.out _ K1 (.string ⟨#[97]⟩) (.int .u64 1) (.int .u32 2) (.int .u8 3) (.int .u8 3) (.int .u32 0) (.int .u64 0) (.string ⟨#[]⟩)
    generalize set8 u5 b2 (.string ⟨#[97]⟩) (.int .u64 1) (.int .u32 2) (.int .u8 3) (.int .u8 3) (.int .u32 0) (.int .u64 0) (.string ⟨#[]⟩) = u6 at *
    refine hK.out _ _ (at3 A1) (fun hHeld => ?_)
    clear hK K
    try simp only [List.getElem_toArray, List.getElem_cons_zero, List.getElem_cons_succ, Act.put, List.setIfInBounds_toArray, List.set_cons_zero, List.set_cons_succ]
    refine wpAnyH_done (by kernel_rfl) ?_ _
    refine NoPanic.normal ?_
    clear hHeld A1 NXb1 NXb2 NXb3 Nb1b2 Nb1b3 Nb2b3 Ksb1 Ksb2 Ksb3
    obtain ⟨c0, c1, c2, c3, c4, c5, c6, c7, -⟩ := at_cells8 Zb3
    go_wp2_with fail
    refine (put_m _).mono ?_
    rintro e w6 ⟨rfl, k6⟩
    replace K1 := kept_trans K1 k6
    replace Zb1 := at_kept Zb1 k6
    replace Zb2 := at_kept Zb2 k6
    replace Zb3 := at_kept Zb3 k6
    clear k6 c0 c1 c2 c3 c4 c5 c6 c7
    obtain ⟨c0, c1, c2, c3, c4, c5, c6, c7, -⟩ := at_cells8 Zb3
    obtain ⟨d0, d1, d2, d3, d4, d5, d6, d7, -⟩ := at_cells8 Zb1
    go_wp2_with fail
    refine (cmp_mt _).mono ?_
    rintro e w7 ⟨rfl, k6⟩
    replace K1 := kept_trans K1 k6
    replace Zb1 := at_kept Zb1 k6
    replace Zb2 := at_kept Zb2 k6
    replace Zb3 := at_kept Zb3 k6
    clear k6 c0 c1 c2 c3 c4 c5 c6 c7 d0 d1 d2 d3 d4 d5 d6 d7
    obtain ⟨c0, c1, c2, c3, c4, c5, c6, c7, -⟩ := at_cells8 Zb2
    obtain ⟨d0, d1, d2, d3, d4, d5, d6, d7, -⟩ := at_cells8 Zb1
    go_wp2_with fail
    refine (cmp_vt _).mono ?_
    rintro e w8 ⟨rfl, k6⟩
    replace K1 := kept_trans K1 k6
    replace Zb1 := at_kept Zb1 k6
    replace Zb2 := at_kept Zb2 k6
    replace Zb3 := at_kept Zb3 k6
    clear k6 c0 c1 c2 c3 c4 c5 c6 c7 d0 d1 d2 d3 d4 d5 d6 d7
    obtain ⟨c0, c1, c2, c3, c4, c5, c6, c7, -⟩ := at_cells8 Zb2
    go_wp2_with fail
    refine (may_v _).mono ?_
    rintro e w9 ⟨rfl, k6⟩
    replace K1 := kept_trans K1 k6
    replace Zb1 := at_kept Zb1 k6
    replace Zb2 := at_kept Zb2 k6
    replace Zb3 := at_kept Zb3 k6
    clear k6 c0 c1 c2 c3 c4 c5 c6 c7
    obtain ⟨c0, c1, c2, c3, c4, c5, c6, c7, -⟩ := at_cells8 Zb2
    go_wp2_with fail
    refine (live_v _).mono ?_
    rintro e w10 ⟨rfl, k6⟩
    replace K1 := kept_trans K1 k6
    replace Zb1 := at_kept Zb1 k6
    replace Zb2 := at_kept Zb2 k6
    replace Zb3 := at_kept Zb3 k6
    clear k6 c0 c1 c2 c3 c4 c5 c6 c7
    go_wp2_with fail
    go_ret
    exact ⟨rfl, K1⟩
  refine AllReadyH.cons (i := 8) rfl (fun K hK => ?_) AllReadyH.nil
  have Zb1 : At (w0.alloc (.cells #[.string ⟨#[]⟩, .int .u64 0, .int .u32 0, .int .u8 0, .int .u8 0, .int .u32 0, .int .u64 0, .string ⟨#[]⟩] 27)).drew w0.heap.size #[.string ⟨#[]⟩, .int .u64 0, .int .u32 0, .int .u8 0, .int .u8 0, .int .u32 0, .int .u64 0, .string ⟨#[]⟩] 27 := at_new w0 _ _
  have B1 : At (w0.alloc (.cells #[.string ⟨#[]⟩, .int .u64 0, .int .u32 0, .int .u8 0, .int .u8 0, .int .u32 0, .int .u64 0, .string ⟨#[]⟩] 27)).drew X #[.int .u64 1, .int .u32 2, .int .u8 3] 25 := at_alloc A1 _
  have L1 : Kept w (w0.alloc (.cells #[.string ⟨#[]⟩, .int .u64 0, .int .u32 0, .int .u8 0, .int .u8 0, .int .u32 0, .int .u64 0, .string ⟨#[]⟩] 27)).drew := kept_alloc K1 _
  have NXb1 : X ≠ w0.heap.size := Nat.ne_of_lt (at_lt A1)
  have Ksb1 : Hid (∀ u', Kept w u' → ∀ a0 a1 a2 a3 a4 a5 a6 a7, Kept w (set8 u' w0.heap.size a0 a1 a2 a3 a4 a5 a6 a7)) := fun u' h a0 a1 a2 a3 a4 a5 a6 a7 => kept_set8 h K1.2 a0 a1 a2 a3 a4 a5 a6 a7
  clear A1 K1
  go_simp
  have A1 := B1
  have K1 := L1
  clear B1 L1 hHeld
  show K _ (w0.alloc (.cells #[.string ⟨#[]⟩, .int .u64 0, .int .u32 0, .int .u8 0, .int .u8 0, .int .u32 0, .int .u64 0, .string ⟨#[]⟩] 27)).drew
  generalize (w0.alloc (.cells #[.string ⟨#[]⟩, .int .u64 0, .int .u32 0, .int .u8 0, .int .u8 0, .int .u32 0, .int .u64 0, .string ⟨#[]⟩] 27)).drew = u1 at *
  generalize w0.heap.size = b1 at *
  refine hK.out _ _ (at3 A1) (fun hHeld => ?_)
  clear hK K
  try simp only [List.getElem_toArray, List.getElem_cons_zero, List.getElem_cons_succ, Act.put, List.setIfInBounds_toArray, List.set_cons_zero, List.set_cons_succ]
  refine wpAnyH_ready (rs := [6, 7]) (by kernel_rfl) (by simp) ?_
  refine AllReadyH.cons (i := 6) rfl (fun K hK => ?_) ?_
  · have Zb2 : At (u1.alloc (.cells #[.string ⟨#[]⟩, .int .u64 0, .int .u32 0, .int .u8 0, .int .u8 0, .int .u32 0, .int .u64 0, .string ⟨#[]⟩] 27)) u1.heap.size #[.string ⟨#[]⟩, .int .u64 0, .int .u32 0, .int .u8 0, .int .u8 0, .int .u32 0, .int .u64 0, .string ⟨#[]⟩] 27 := at_new u1 _ _
    have B1 : At (u1.alloc (.cells #[.string ⟨#[]⟩, .int .u64 0, .int .u32 0, .int .u8 0, .int .u8 0, .int .u32 0, .int .u64 0, .string ⟨#[]⟩] 27)) X #[.int .u64 1, .int .u32 2, .int .u8 3] 25 := at_alloc A1 _
    have L1 : Kept w (u1.alloc (.cells #[.string ⟨#[]⟩, .int .u64 0, .int .u32 0, .int .u8 0, .int .u8 0, .int .u32 0, .int .u64 0, .string ⟨#[]⟩] 27)) := kept_alloc K1 _
    have NXb2 : X ≠ u1.heap.size := Nat.ne_of_lt (at_lt A1)
    have Ksb2 : Hid (∀ u', Kept w u' → ∀ a0 a1 a2 a3 a4 a5 a6 a7, Kept w (set8 u' u1.heap.size a0 a1 a2 a3 a4 a5 a6 a7)) := fun u' h a0 a1 a2 a3 a4 a5 a6 a7 => kept_set8 h K1.2 a0 a1 a2 a3 a4 a5 a6 a7
    have Nb1b2 : b1 ≠ u1.heap.size := Nat.ne_of_lt (at_lt Zb1)
    replace Zb1 : At (u1.alloc (.cells #[.string ⟨#[]⟩, .int .u64 0, .int .u32 0, .int .u8 0, .int .u8 0, .int .u32 0, .int .u64 0, .string ⟨#[]⟩] 27)) b1 #[.string ⟨#[]⟩, .int .u64 0, .int .u32 0, .int .u8 0, .int .u8 0, .int .u32 0, .int .u64 0, .string ⟨#[]⟩] 27 := at_alloc Zb1 _
    clear A1 K1
    go_simp
    have A1 := B1
    have K1 := L1
    clear B1 L1 hHeld
    show K _ (u1.alloc (.cells #[.string ⟨#[]⟩, .int .u64 0, .int .u32 0, .int .u8 0, .int .u8 0, .int .u32 0, .int .u64 0, .string ⟨#[]⟩] 27))
    generalize (u1.alloc (.cells #[.string ⟨#[]⟩, .int .u64 0, .int .u32 0, .int .u8 0, .int .u8 0, .int .u32 0, .int .u64 0, .string ⟨#[]⟩] 27)) = u2 at *
    generalize u1.heap.size = b2 at *
    refine hK.out _ _ (at3 A1) (fun hHeld => ?_)
    clear hK K
    try simp only [List.getElem_toArray, List.getElem_cons_zero, List.getElem_cons_succ, Act.put, List.setIfInBounds_toArray, List.set_cons_zero, List.set_cons_succ]
    refine wpAnyH_ready (rs := [7]) (by kernel_rfl) (by simp) ?_
    refine AllReadyH.cons (i := 7) rfl (fun K hK => ?_) AllReadyH.nil
    have Zb3 : At (u2.alloc (.cells #[.string ⟨#[]⟩, .int .u64 0, .int .u32 0, .int .u8 0, .int .u8 0, .int .u32 0, .int .u64 0, .string ⟨#[]⟩] 27)) u2.heap.size #[.string ⟨#[]⟩, .int .u64 0, .int .u32 0, .int .u8 0, .int .u8 0, .int .u32 0, .int .u64 0, .string ⟨#[]⟩] 27 := at_new u2 _ _
    have B1 : At (u2.alloc (.cells #[.string ⟨#[]⟩, .int .u64 0, .int .u32 0, .int .u8 0, .int .u8 0, .int .u32 0, .int .u64 0, .string ⟨#[]⟩] 27)) X #[.int .u64 1, .int .u32 2, .int .u8 3] 25 := at_alloc A1 _
    have L1 : Kept w (u2.alloc (.cells #[.string ⟨#[]⟩, .int .u64 0, .int .u32 0, .int .u8 0, .int .u8 0, .int .u32 0, .int .u64 0, .string ⟨#[]⟩] 27)) := kept_alloc K1 _
    have NXb3 : X ≠ u2.heap.size := Nat.ne_of_lt (at_lt A1)
    have Ksb3 : Hid (∀ u', Kept w u' → ∀ a0 a1 a2 a3 a4 a5 a6 a7, Kept w (set8 u' u2.heap.size a0 a1 a2 a3 a4 a5 a6 a7)) := fun u' h a0 a1 a2 a3 a4 a5 a6 a7 => kept_set8 h K1.2 a0 a1 a2 a3 a4 a5 a6 a7
    have Nb1b3 : b1 ≠ u2.heap.size := Nat.ne_of_lt (at_lt Zb1)
    replace Zb1 : At (u2.alloc (.cells #[.string ⟨#[]⟩, .int .u64 0, .int .u32 0, .int .u8 0, .int .u8 0, .int .u32 0, .int .u64 0, .string ⟨#[]⟩] 27)) b1 #[.string ⟨#[]⟩, .int .u64 0, .int .u32 0, .int .u8 0, .int .u8 0, .int .u32 0, .int .u64 0, .string ⟨#[]⟩] 27 := at_alloc Zb1 _
    have Nb2b3 : b2 ≠ u2.heap.size := Nat.ne_of_lt (at_lt Zb2)
    replace Zb2 : At (u2.alloc (.cells #[.string ⟨#[]⟩, .int .u64 0, .int .u32 0, .int .u8 0, .int .u8 0, .int .u32 0, .int .u64 0, .string ⟨#[]⟩] 27)) b2 #[.string ⟨#[]⟩, .int .u64 0, .int .u32 0, .int .u8 0, .int .u8 0, .int .u32 0, .int .u64 0, .string ⟨#[]⟩] 27 := at_alloc Zb2 _
    clear A1 K1
    go_simp
    have A1 := B1
    have K1 := L1
    clear B1 L1 hHeld
    show K _ (u2.alloc (.cells #[.string ⟨#[]⟩, .int .u64 0, .int .u32 0, .int .u8 0, .int .u8 0, .int .u32 0, .int .u64 0, .string ⟨#[]⟩] 27))
    generalize (u2.alloc (.cells #[.string ⟨#[]⟩, .int .u64 0, .int .u32 0, .int .u8 0, .int .u8 0, .int .u32 0, .int .u64 0, .string ⟨#[]⟩] 27)) = u3 at *
    generalize u2.heap.size = b3 at *
    refine hK.out _ _ (at3 A1) (fun hHeld => ?_)
    clear hK K
    try simp only [List.getElem_toArray, List.getElem_cons_zero, List.getElem_cons_succ, Act.put, List.setIfInBounds_toArray, List.set_cons_zero, List.set_cons_succ]
    refine wpAnyH_ready (rs := [9]) (by kernel_rfl) (by simp) ?_
    refine AllReadyH.cons (i := 9) rfl (fun K hK => ?_) AllReadyH.nil
    obtain ⟨d0, d1, d2, d3, d4, d5, d6, d7, df⟩ := at_cells8 Zb2
    go_simp
    clear d0 d1 d2 d3 d4 d5 d6 d7 df hHeld
    show K _ (set8 u3 b2 (.string ⟨#[97]⟩) (.int .u64 1) (.int .u32 2) (.int .u8 3) (.int .u8 1) (.int .u32 0) (.int .u64 0) (.string ⟨#[]⟩))
    replace Zb2 := at_set8 Zb2 (.string ⟨#[97]⟩) (.int .u64 1) (.int .u32 2) (.int .u8 3) (.int .u8 1) (.int .u32 0) (.int .u64 0) (.string ⟨#[]⟩)
    replace Zb1 := at_other8 Zb1 Nb1b2 (.string ⟨#[97]⟩) (.int .u64 1) (.int .u32 2) (.int .u8 3) (.int .u8 1) (.int .u32 0) (.int .u64 0) (.string ⟨#[]⟩)
    replace Zb3 := at_other8 Zb3 (Ne.symm Nb2b3) (.string ⟨#[97]⟩) (.int .u64 1) (.int .u32 2) (.int .u8 3) (.int .u8 1) (.int .u32 0) (.int .u64 0) (.string ⟨#[]⟩)
    replace A1 := at_other8 A1 NXb2 (.string ⟨#[97]⟩) (.int .u64 1) (.int .u32 2) (.int .u8 3) (.int .u8 1) (.int .u32 0) (.int .u64 0) (.string ⟨#[]⟩)
    replace K1 := Ksb2.out _ K1 (.string ⟨#[97]⟩) (.int .u64 1) (.int .u32 2) (.int .u8 3) (.int .u8 1) (.int .u32 0) (.int .u64 0) (.string ⟨#[]⟩)
    generalize set8 u3 b2 (.string ⟨#[97]⟩) (.int .u64 1) (.int .u32 2) (.int .u8 3) (.int .u8 1) (.int .u32 0) (.int .u64 0) (.string ⟨#[]⟩) = u4 at *
    refine hK.out _ _ (at3 A1) (fun hHeld => ?_)
    clear hK K
    try simp only [List.getElem_toArray, List.getElem_cons_zero, List.getElem_cons_succ, Act.put, List.setIfInBounds_toArray, List.set_cons_zero, List.set_cons_succ]
    refine wpAnyH_ready (rs := [10]) (by kernel_rfl) (by simp) ?_
    refine AllReadyH.cons (i := 10) rfl (fun K hK => ?_) AllReadyH.nil
    obtain ⟨d0, d1, d2, d3, d4, d5, d6, d7, df⟩ := at_cells8 Zb3
    go_simp
    clear d0 d1 d2 d3 d4 d5 d6 d7 df hHeld
    show K _ (set8 u4 b3 (.string ⟨#[97]⟩) (.int .u64 1) (.int .u32 2) (.int .u8 3) (.int .u8 2) (.int .u32 0) (.int .u64 0) (.string ⟨#[]⟩))
    replace Zb3 := at_set8 Zb3 (.string ⟨#[97]⟩) (.int .u64 1) (.int .u32 2) (.int .u8 3) (.int .u8 2) (.int .u32 0) (.int .u64 0) (.string ⟨#[]⟩)
    replace Zb1 := at_other8 Zb1 Nb1b3 (.string ⟨#[97]⟩) (.int .u64 1) (.int .u32 2) (.int .u8 3) (.int .u8 2) (.int .u32 0) (.int .u64 0) (.string ⟨#[]⟩)
    replace Zb2 := at_other8 Zb2 Nb2b3 (.string ⟨#[97]⟩) (.int .u64 1) (.int .u32 2) (.int .u8 3) (.int .u8 2) (.int .u32 0) (.int .u64 0) (.string ⟨#[]⟩)
    replace A1 := at_other8 A1 NXb3 (.string ⟨#[97]⟩) (.int .u64 1) (.int .u32 2) (.int .u8 3) (.int .u8 2) (.int .u32 0) (.int .u64 0) (.string ⟨#[]⟩)
    replace K1 := Ksb3.out _ K1 (.string ⟨#[97]⟩) (.int .u64 1) (.int .u32 2) (.int .u8 3) (.int .u8 2) (.int .u32 0) (.int .u64 0) (.string ⟨#[]⟩)
    generalize set8 u4 b3 (.string ⟨#[97]⟩) (.int .u64 1) (.int .u32 2) (.int .u8 3) (.int .u8 2) (.int .u32 0) (.int .u64 0) (.string ⟨#[]⟩) = u5 at *
    refine hK.out _ _ (at3 A1) (fun hHeld => ?_)
    clear hK K
    try simp only [List.getElem_toArray, List.getElem_cons_zero, List.getElem_cons_succ, Act.put, List.setIfInBounds_toArray, List.set_cons_zero, List.set_cons_succ]
    refine wpAnyH_ready (rs := [11]) (by kernel_rfl) (by simp) ?_
    refine AllReadyH.cons (i := 11) rfl (fun K hK => ?_) AllReadyH.nil
    obtain ⟨d0, d1, d2, d3, d4, d5, d6, d7, df⟩ := at_cells8 Zb1
    go_simp
    clear d0 d1 d2 d3 d4 d5 d6 d7 df hHeld
    show K _ (set8 u5 b1 (.string ⟨#[97]⟩) (.int .u64 1) (.int .u32 2) (.int .u8 3) (.int .u8 3) (.int .u32 0) (.int .u64 0) (.string ⟨#[]⟩))
    replace Zb1 := at_set8 Zb1 (.string ⟨#[97]⟩) (.int .u64 1) (.int .u32 2) (.int .u8 3) (.int .u8 3) (.int .u32 0) (.int .u64 0) (.string ⟨#[]⟩)
    replace Zb2 := at_other8 Zb2 (Ne.symm Nb1b2) (.string ⟨#[97]⟩) (.int .u64 1) (.int .u32 2) (.int .u8 3) (.int .u8 3) (.int .u32 0) (.int .u64 0) (.string ⟨#[]⟩)
    replace Zb3 := at_other8 Zb3 (Ne.symm Nb1b3) (.string ⟨#[97]⟩) (.int .u64 1) (.int .u32 2) (.int .u8 3) (.int .u8 3) (.int .u32 0) (.int .u64 0) (.string ⟨#[]⟩)
    replace A1 := at_other8 A1 NXb1 (.string ⟨#[97]⟩) (.int .u64 1) (.int .u32 2) (.int .u8 3) (.int .u8 3) (.int .u32 0) (.int .u64 0) (.string ⟨#[]⟩)
    replace K1 := Ksb1.out _ K1 (.string ⟨#[97]⟩) (.int .u64 1) (.int .u32 2) (.int .u8 3) (.int .u8 3) (.int .u32 0) (.int .u64 0) (.string ⟨#[]⟩)
    generalize set8 u5 b1 (.string ⟨#[97]⟩) (.int .u64 1) (.int .u32 2) (.int .u8 3) (.int .u8 3) (.int .u32 0) (.int .u64 0) (.string ⟨#[]⟩) = u6 at *
    refine hK.out _ _ (at3 A1) (fun hHeld => ?_)
    clear hK K
    try simp only [List.getElem_toArray, List.getElem_cons_zero, List.getElem_cons_succ, Act.put, List.setIfInBounds_toArray, List.set_cons_zero, List.set_cons_succ]
    refine wpAnyH_done (by kernel_rfl) ?_ _
    refine NoPanic.normal ?_
    clear hHeld A1 NXb1 NXb2 NXb3 Nb1b2 Nb1b3 Nb2b3 Ksb1 Ksb2 Ksb3
    obtain ⟨c0, c1, c2, c3, c4, c5, c6, c7, -⟩ := at_cells8 Zb2
    go_wp2_with fail
    refine (put_m _).mono ?_
    rintro e w6 ⟨rfl, k6⟩
    replace K1 := kept_trans K1 k6
    replace Zb1 := at_kept Zb1 k6
    replace Zb2 := at_kept Zb2 k6
    replace Zb3 := at_kept Zb3 k6
    clear k6 c0 c1 c2 c3 c4 c5 c6 c7
    obtain ⟨c0, c1, c2, c3, c4, c5, c6, c7, -⟩ := at_cells8 Zb2
    obtain ⟨d0, d1, d2, d3, d4, d5, d6, d7, -⟩ := at_cells8 Zb3
    go_wp2_with fail
    refine (cmp_mt _).mono ?_
    rintro e w7 ⟨rfl, k6⟩
    replace K1 := kept_trans K1 k6
    replace Zb1 := at_kept Zb1 k6
    replace Zb2 := at_kept Zb2 k6
    replace Zb3 := at_kept Zb3 k6
    clear k6 c0 c1 c2 c3 c4 c5 c6 c7 d0 d1 d2 d3 d4 d5 d6 d7
    obtain ⟨c0, c1, c2, c3, c4, c5, c6, c7, -⟩ := at_cells8 Zb1
    obtain ⟨d0, d1, d2, d3, d4, d5, d6, d7, -⟩ := at_cells8 Zb3
    go_wp2_with fail
    refine (cmp_vt _).mono ?_
    rintro e w8 ⟨rfl, k6⟩
    replace K1 := kept_trans K1 k6
    replace Zb1 := at_kept Zb1 k6
    replace Zb2 := at_kept Zb2 k6
    replace Zb3 := at_kept Zb3 k6
    clear k6 c0 c1 c2 c3 c4 c5 c6 c7 d0 d1 d2 d3 d4 d5 d6 d7
    obtain ⟨c0, c1, c2, c3, c4, c5, c6, c7, -⟩ := at_cells8 Zb1
    go_wp2_with fail
    refine (may_v _).mono ?_
    rintro e w9 ⟨rfl, k6⟩
    replace K1 := kept_trans K1 k6
    replace Zb1 := at_kept Zb1 k6
    replace Zb2 := at_kept Zb2 k6
    replace Zb3 := at_kept Zb3 k6
    clear k6 c0 c1 c2 c3 c4 c5 c6 c7
    obtain ⟨c0, c1, c2, c3, c4, c5, c6, c7, -⟩ := at_cells8 Zb1
    go_wp2_with fail
    refine (live_v _).mono ?_
    rintro e w10 ⟨rfl, k6⟩
    replace K1 := kept_trans K1 k6
    replace Zb1 := at_kept Zb1 k6
    replace Zb2 := at_kept Zb2 k6
    replace Zb3 := at_kept Zb3 k6
    clear k6 c0 c1 c2 c3 c4 c5 c6 c7
    go_wp2_with fail
    go_ret
    exact ⟨rfl, K1⟩
  refine AllReadyH.cons (i := 7) rfl (fun K hK => ?_) AllReadyH.nil
  have Zb2 : At (u1.alloc (.cells #[.string ⟨#[]⟩, .int .u64 0, .int .u32 0, .int .u8 0, .int .u8 0, .int .u32 0, .int .u64 0, .string ⟨#[]⟩] 27)) u1.heap.size #[.string ⟨#[]⟩, .int .u64 0, .int .u32 0, .int .u8 0, .int .u8 0, .int .u32 0, .int .u64 0, .string ⟨#[]⟩] 27 := at_new u1 _ _
  have B1 : At (u1.alloc (.cells #[.string ⟨#[]⟩, .int .u64 0, .int .u32 0, .int .u8 0, .int .u8 0, .int .u32 0, .int .u64 0, .string ⟨#[]⟩] 27)) X #[.int .u64 1, .int .u32 2, .int .u8 3] 25 := at_alloc A1 _
  have L1 : Kept w (u1.alloc (.cells #[.string ⟨#[]⟩, .int .u64 0, .int .u32 0, .int .u8 0, .int .u8 0, .int .u32 0, .int .u64 0, .string ⟨#[]⟩] 27)) := kept_alloc K1 _
  have NXb2 : X ≠ u1.heap.size := Nat.ne_of_lt (at_lt A1)
  have Ksb2 : Hid (∀ u', Kept w u' → ∀ a0 a1 a2 a3 a4 a5 a6 a7, Kept w (set8 u' u1.heap.size a0 a1 a2 a3 a4 a5 a6 a7)) := fun u' h a0 a1 a2 a3 a4 a5 a6 a7 => kept_set8 h K1.2 a0 a1 a2 a3 a4 a5 a6 a7
  have Nb1b2 : b1 ≠ u1.heap.size := Nat.ne_of_lt (at_lt Zb1)
  replace Zb1 : At (u1.alloc (.cells #[.string ⟨#[]⟩, .int .u64 0, .int .u32 0, .int .u8 0, .int .u8 0, .int .u32 0, .int .u64 0, .string ⟨#[]⟩] 27)) b1 #[.string ⟨#[]⟩, .int .u64 0, .int .u32 0, .int .u8 0, .int .u8 0, .int .u32 0, .int .u64 0, .string ⟨#[]⟩] 27 := at_alloc Zb1 _
  clear A1 K1
  go_simp
  have A1 := B1
  have K1 := L1
  clear B1 L1 hHeld
  show K _ (u1.alloc (.cells #[.string ⟨#[]⟩, .int .u64 0, .int .u32 0, .int .u8 0, .int .u8 0, .int .u32 0, .int .u64 0, .string ⟨#[]⟩] 27))
  generalize (u1.alloc (.cells #[.string ⟨#[]⟩, .int .u64 0, .int .u32 0, .int .u8 0, .int .u8 0, .int .u32 0, .int .u64 0, .string ⟨#[]⟩] 27)) = u2 at *
  generalize u1.heap.size = b2 at *
  refine hK.out _ _ (at3 A1) (fun hHeld => ?_)
  clear hK K
  try simp only [List.getElem_toArray, List.getElem_cons_zero, List.getElem_cons_succ, Act.put, List.setIfInBounds_toArray, List.set_cons_zero, List.set_cons_succ]
  refine wpAnyH_ready (rs := [6]) (by kernel_rfl) (by simp) ?_
  refine AllReadyH.cons (i := 6) rfl (fun K hK => ?_) AllReadyH.nil
  have Zb3 : At (u2.alloc (.cells #[.string ⟨#[]⟩, .int .u64 0, .int .u32 0, .int .u8 0, .int .u8 0, .int .u32 0, .int .u64 0, .string ⟨#[]⟩] 27)) u2.heap.size #[.string ⟨#[]⟩, .int .u64 0, .int .u32 0, .int .u8 0, .int .u8 0, .int .u32 0, .int .u64 0, .string ⟨#[]⟩] 27 := at_new u2 _ _
  have B1 : At (u2.alloc (.cells #[.string ⟨#[]⟩, .int .u64 0, .int .u32 0, .int .u8 0, .int .u8 0, .int .u32 0, .int .u64 0, .string ⟨#[]⟩] 27)) X #[.int .u64 1, .int .u32 2, .int .u8 3] 25 := at_alloc A1 _
  have L1 : Kept w (u2.alloc (.cells #[.string ⟨#[]⟩, .int .u64 0, .int .u32 0, .int .u8 0, .int .u8 0, .int .u32 0, .int .u64 0, .string ⟨#[]⟩] 27)) := kept_alloc K1 _
  have NXb3 : X ≠ u2.heap.size := Nat.ne_of_lt (at_lt A1)
  have Ksb3 : Hid (∀ u', Kept w u' → ∀ a0 a1 a2 a3 a4 a5 a6 a7, Kept w (set8 u' u2.heap.size a0 a1 a2 a3 a4 a5 a6 a7)) := fun u' h a0 a1 a2 a3 a4 a5 a6 a7 => kept_set8 h K1.2 a0 a1 a2 a3 a4 a5 a6 a7
  have Nb1b3 : b1 ≠ u2.heap.size := Nat.ne_of_lt (at_lt Zb1)
  replace Zb1 : At (u2.alloc (.cells #[.string ⟨#[]⟩, .int .u64 0, .int .u32 0, .int .u8 0, .int .u8 0, .int .u32 0, .int .u64 0, .string ⟨#[]⟩] 27)) b1 #[.string ⟨#[]⟩, .int .u64 0, .int .u32 0, .int .u8 0, .int .u8 0, .int .u32 0, .int .u64 0, .string ⟨#[]⟩] 27 := at_alloc Zb1 _
  have Nb2b3 : b2 ≠ u2.heap.size := Nat.ne_of_lt (at_lt Zb2)
  replace Zb2 : At (u2.alloc (.cells #[.string ⟨#[]⟩, .int .u64 0, .int .u32 0, .int .u8 0, .int .u8 0, .int .u32 0, .int .u64 0, .string ⟨#[]⟩] 27)) b2 #[.string ⟨#[]⟩, .int .u64 0, .int .u32 0, .int .u8 0, .int .u8 0, .int .u32 0, .int .u64 0, .string ⟨#[]⟩] 27 := at_alloc Zb2 _
  clear A1 K1
  go_simp
  have A1 := B1
  have K1 := L1
  clear B1 L1 hHeld
  show K _ (u2.alloc (.cells #[.string ⟨#[]⟩, .int .u64 0, .int .u32 0, .int .u8 0, .int .u8 0, .int .u32 0, .int .u64 0, .string ⟨#[]⟩] 27))
  generalize (u2.alloc (.cells #[.string ⟨#[]⟩, .int .u64 0, .int .u32 0, .int .u8 0, .int .u8 0, .int .u32 0, .int .u64 0, .string ⟨#[]⟩] 27)) = u3 at *
  generalize u2.heap.size = b3 at *
  refine hK.out _ _ (at3 A1) (fun hHeld => ?_)
  clear hK K
  try simp only [List.getElem_toArray, List.getElem_cons_zero, List.getElem_cons_succ, Act.put, List.setIfInBounds_toArray, List.set_cons_zero, List.set_cons_succ]
  refine wpAnyH_ready (rs := [9]) (by kernel_rfl) (by simp) ?_
  refine AllReadyH.cons (i := 9) rfl (fun K hK => ?_) AllReadyH.nil
  obtain ⟨d0, d1, d2, d3, d4, d5, d6, d7, df⟩ := at_cells8 Zb3
  go_simp
  clear d0 d1 d2 d3 d4 d5 d6 d7 df hHeld
  show K _ (set8 u3 b3 (.string ⟨#[97]⟩) (.int .u64 1) (.int .u32 2) (.int .u8 3) (.int .u8 1) (.int .u32 0) (.int .u64 0) (.string ⟨#[]⟩))
  replace Zb3 := at_set8 Zb3 (.string ⟨#[97]⟩) (.int .u64 1) (.int .u32 2) (.int .u8 3) (.int .u8 1) (.int .u32 0) (.int .u64 0) (.string ⟨#[]⟩)
  replace Zb1 := at_other8 Zb1 Nb1b3 (.string ⟨#[97]⟩) (.int .u64 1) (.int .u32 2) (.int .u8 3) (.int .u8 1) (.int .u32 0) (.int .u64 0) (.string ⟨#[]⟩)
  replace Zb2 := at_other8 Zb2 Nb2b3 (.string ⟨#[97]⟩) (.int .u64 1) (.int .u32 2) (.int .u8 3) (.int .u8 1) (.int .u32 0) (.int .u64 0) (.string ⟨#[]⟩)
  replace A1 := at_other8 A1 NXb3 (.string ⟨#[97]⟩) (.int .u64 1) (.int .u32 2) (.int .u8 3) (.int .u8 1) (.int .u32 0) (.int .u64 0) (.string ⟨#[]⟩)
  replace K1 := Ksb3.out _ K1 (.string ⟨#[97]⟩) (.int .u64 1) (.int .u32 2) (.int .u8 3) (.int .u8 1) (.int .u32 0) (.int .u64 0) (.string ⟨#[]⟩)
  generalize set8 u3 b3 (.string ⟨#[97]⟩) (.int .u64 1) (.int .u32 2) (.int .u8 3) (.int .u8 1) (.int .u32 0) (.int .u64 0) (.string ⟨#[]⟩) = u4 at *
  refine hK.out _ _ (at3 A1) (fun hHeld => ?_)
  clear hK K
  try simp only [List.getElem_toArray, List.getElem_cons_zero, List.getElem_cons_succ, Act.put, List.setIfInBounds_toArray, List.set_cons_zero, List.set_cons_succ]
  refine wpAnyH_ready (rs := [10]) (by kernel_rfl) (by simp) ?_
  refine AllReadyH.cons (i := 10) rfl (fun K hK => ?_) AllReadyH.nil
  obtain ⟨d0, d1, d2, d3, d4, d5, d6, d7, df⟩ := at_cells8 Zb2
  go_simp
  clear d0 d1 d2 d3 d4 d5 d6 d7 df hHeld
  show K _ (set8 u4 b2 (.string ⟨#[97]⟩) (.int .u64 1) (.int .u32 2) (.int .u8 3) (.int .u8 2) (.int .u32 0) (.int .u64 0) (.string ⟨#[]⟩))
  replace Zb2 := at_set8 Zb2 (.string ⟨#[97]⟩) (.int .u64 1) (.int .u32 2) (.int .u8 3) (.int .u8 2) (.int .u32 0) (.int .u64 0) (.string ⟨#[]⟩)
  replace Zb1 := at_other8 Zb1 Nb1b2 (.string ⟨#[97]⟩) (.int .u64 1) (.int .u32 2) (.int .u8 3) (.int .u8 2) (.int .u32 0) (.int .u64 0) (.string ⟨#[]⟩)
  replace Zb3 := at_other8 Zb3 (Ne.symm Nb2b3) (.string ⟨#[97]⟩) (.int .u64 1) (.int .u32 2) (.int .u8 3) (.int .u8 2) (.int .u32 0) (.int .u64 0) (.string ⟨#[]⟩)
  replace A1 := at_other8 A1 NXb2 (.string ⟨#[97]⟩) (.int .u64 1) (.int .u32 2) (.int .u8 3) (.int .u8 2) (.int .u32 0) (.int .u64 0) (.string ⟨#[]⟩)
  replace K1 := Ksb2.out _ K1 (.string ⟨#[97]⟩) (.int .u64 1) (.int .u32 2) (.int .u8 3) (.int .u8 2) (.int .u32 0) (.int .u64 0) (.string ⟨#[]⟩)
  generalize set8 u4 b2 (.string ⟨#[97]⟩) (.int .u64 1) (.int .u32 2) (.int .u8 3) (.int .u8 2) (.int .u32 0) (.int .u64 0) (.string ⟨#[]⟩) = u5 at *
  refine hK.out _ _ (at3 A1) (fun hHeld => ?_)
  clear hK K
  try simp only [List.getElem_toArray, List.getElem_cons_zero, List.getElem_cons_succ, Act.put, List.setIfInBounds_toArray, List.set_cons_zero, List.set_cons_succ]
  refine wpAnyH_ready (rs := [11]) (by kernel_rfl) (by simp) ?_
  refine AllReadyH.cons (i := 11) rfl (fun K hK => ?_) AllReadyH.nil
  obtain ⟨d0, d1, d2, d3, d4, d5, d6, d7, df⟩ := at_cells8 Zb1
  go_simp
  clear d0 d1 d2 d3 d4 d5 d6 d7 df hHeld
  show K _ (set8 u5 b1 (.string ⟨#[97]⟩) (.int .u64 1) (.int .u32 2) (.int .u8 3) (.int .u8 3) (.int .u32 0) (.int .u64 0) (.string ⟨#[]⟩))
  replace Zb1 := at_set8 Zb1 (.string ⟨#[97]⟩) (.int .u64 1) (.int .u32 2) (.int .u8 3) (.int .u8 3) (.int .u32 0) (.int .u64 0) (.string ⟨#[]⟩)
  replace Zb2 := at_other8 Zb2 (Ne.symm Nb1b2) (.string ⟨#[97]⟩) (.int .u64 1) (.int .u32 2) (.int .u8 3) (.int .u8 3) (.int .u32 0) (.int .u64 0) (.string ⟨#[]⟩)
  replace Zb3 := at_other8 Zb3 (Ne.symm Nb1b3) (.string ⟨#[97]⟩) (.int .u64 1) (.int .u32 2) (.int .u8 3) (.int .u8 3) (.int .u32 0) (.int .u64 0) (.string ⟨#[]⟩)
  replace A1 := at_other8 A1 NXb1 (.string ⟨#[97]⟩) (.int .u64 1) (.int .u32 2) (.int .u8 3) (.int .u8 3) (.int .u32 0) (.int .u64 0) (.string ⟨#[]⟩)
  replace K1 := Ksb1.out _ K1 (.string ⟨#[97]⟩) (.int .u64 1) (.int .u32 2) (.int .u8 3) (.int .u8 3) (.int .u32 0) (.int .u64 0) (.string ⟨#[]⟩)
  generalize set8 u5 b1 (.string ⟨#[97]⟩) (.int .u64 1) (.int .u32 2) (.int .u8 3) (.int .u8 3) (.int .u32 0) (.int .u64 0) (.string ⟨#[]⟩) = u6 at *
  refine hK.out _ _ (at3 A1) (fun hHeld => ?_)
  clear hK K
  try simp only [List.getElem_toArray, List.getElem_cons_zero, List.getElem_cons_succ, Act.put, List.setIfInBounds_toArray, List.set_cons_zero, List.set_cons_succ]
  refine wpAnyH_done (by kernel_rfl) ?_ _
  refine NoPanic.normal ?_
  clear hHeld A1 NXb1 NXb2 NXb3 Nb1b2 Nb1b3 Nb2b3 Ksb1 Ksb2 Ksb3
  obtain ⟨c0, c1, c2, c3, c4, c5, c6, c7, -⟩ := at_cells8 Zb3
  go_wp2_with fail
  refine (put_m _).mono ?_
  rintro e w6 ⟨rfl, k6⟩
  replace K1 := kept_trans K1 k6
  replace Zb1 := at_kept Zb1 k6
  replace Zb2 := at_kept Zb2 k6
  replace Zb3 := at_kept Zb3 k6
  clear k6 c0 c1 c2 c3 c4 c5 c6 c7
  obtain ⟨c0, c1, c2, c3, c4, c5, c6, c7, -⟩ := at_cells8 Zb3
  obtain ⟨d0, d1, d2, d3, d4, d5, d6, d7, -⟩ := at_cells8 Zb2
  go_wp2_with fail
  refine (cmp_mt _).mono ?_
  rintro e w7 ⟨rfl, k6⟩
  replace K1 := kept_trans K1 k6
  replace Zb1 := at_kept Zb1 k6
  replace Zb2 := at_kept Zb2 k6
  replace Zb3 := at_kept Zb3 k6
  clear k6 c0 c1 c2 c3 c4 c5 c6 c7 d0 d1 d2 d3 d4 d5 d6 d7
  obtain ⟨c0, c1, c2, c3, c4, c5, c6, c7, -⟩ := at_cells8 Zb1
  obtain ⟨d0, d1, d2, d3, d4, d5, d6, d7, -⟩ := at_cells8 Zb2
  go_wp2_with fail
  refine (cmp_vt _).mono ?_
  rintro e w8 ⟨rfl, k6⟩
  replace K1 := kept_trans K1 k6
  replace Zb1 := at_kept Zb1 k6
  replace Zb2 := at_kept Zb2 k6
  replace Zb3 := at_kept Zb3 k6
  clear k6 c0 c1 c2 c3 c4 c5 c6 c7 d0 d1 d2 d3 d4 d5 d6 d7
  obtain ⟨c0, c1, c2, c3, c4, c5, c6, c7, -⟩ := at_cells8 Zb1
  go_wp2_with fail
  refine (may_v _).mono ?_
  rintro e w9 ⟨rfl, k6⟩
  replace K1 := kept_trans K1 k6
  replace Zb1 := at_kept Zb1 k6
  replace Zb2 := at_kept Zb2 k6
  replace Zb3 := at_kept Zb3 k6
  clear k6 c0 c1 c2 c3 c4 c5 c6 c7
  obtain ⟨c0, c1, c2, c3, c4, c5, c6, c7, -⟩ := at_cells8 Zb1
  go_wp2_with fail
  refine (live_v _).mono ?_
  rintro e w10 ⟨rfl, k6⟩
  replace K1 := kept_trans K1 k6
  replace Zb1 := at_kept Zb1 k6
  replace Zb2 := at_kept Zb2 k6
  replace Zb3 := at_kept Zb3 k6
  clear k6 c0 c1 c2 c3 c4 c5 c6 c7
  go_wp2_with fail
  go_ret
  exact ⟨rfl, K1⟩
end Go.Proofs.Ytnkfhacmkimncab
