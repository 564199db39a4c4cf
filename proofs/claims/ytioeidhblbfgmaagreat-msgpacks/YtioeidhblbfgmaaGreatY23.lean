/- The contract of the program's Get: the record at a place, the place behind it, or the error. It turns nothing that was there. The bytes are at most 2^47. -/
import Derived.Test.YtioeidhblbfgmaaGreatY22

namespace Go.Proofs.YtioeidhblbfgmaaGreat
open Go.ChangeShapes Go.WideShapes Go.ChangeAt Go.RowKit
set_option linter.unusedVariables false
set_option maxRecDepth 100000
set_option linter.unusedSimpArgs false

theorem zero67 (w : World) : (zeroValue 202).run Tryz.prog w = .ok (.agg #[.string ⟨#[]⟩, .int .i64 0, .int .i64 0]) w := by kernel_rfl
theorem getT_size (s : ByteArray) (p m : Int) : (getT s p m).1.size ≤ s.size := by
  unfold getT
  split
  · split
    · show (0 : Nat) ≤ _; omega
    · split
      · show (0 : Nat) ≤ _; omega
      · simp; omega
  · show (0 : Nat) ≤ _; omega
theorem stepT_size (s : ByteArray) (m p : Int) (f : Nat) : (stepT s m p f).1.size ≤ s.size := by
  unfold stepT
  split
  · exact getT_size s p m
  · show (0 : Nat) ≤ _; omega
theorem rec_sizes' (s : ByteArray) (K : ByteArray × Int × Nat) (h : K.1.size ≤ s.size) : (recP s K).1.key.size ≤ s.size ∧ (recP s K).1.body.size ≤ s.size := by
  unfold recP
  by_cases hv : valN s K.2.1 K.2.2 3 = 3
  · rw [if_pos hv]
    dsimp only
    exact ⟨h, stepT_size _ _ _ _⟩
  · rw [if_neg hv]
    dsimp only
    exact ⟨h, Nat.zero_le _⟩
theorem rec_sizes (s : ByteArray) (p : Int) : (recP s (stepT s 250 p 0)).1.key.size ≤ s.size ∧ (recP s (stepT s 250 p 0)).1.body.size ≤ s.size := rec_sizes' s _ (stepT_size s 250 p 0)
def recV (q : R × Int × Nat) : Value := .tuple #[.agg #[.string q.1.key, .int .u64 q.1.s.p, .int .u32 q.1.s.l, .int .u8 q.1.s.n, .int .u8 q.1.kind, .int .u32 q.1.flags, .int .u64 q.1.exp, .string q.1.body], .int .i64 q.2.1, .int .i64 (q.2.2 : Int)]
set_option maxHeartbeats 600000 in
set_option maxRecDepth 100000 in
theorem Get_fault (s : ByteArray) (hs : s.size ≤ 140737488355328) (p : Int) (r : R) (q : Int) (f : Nat) (hq : recP s (stepT s 250 p 0) = (r, q, f)) (hf : f ≠ 0) (w : World) :
    Calls Tryz.prog 123 #[.string s, .int .i64 p] w fun e w' => e = .returned (recV (zeroR, 0, f)) ∧ Kept w w' := by
  have g1 : ((f : Int) == 0) = false := by simp; omega
  have g2 : ((f : Int) != 0) = true := by simp; omega
  clear hf
  have hz := zero27
  have hz67 := zero67
  have hRec : ∀ w bI, Rd bI s p 0 w → _ := fun w bI h => record_any s hs p 0 bI w h
  rw [hq] at hRec
  clear hq hs
  have hY := at_alloc (at_new w #[.string zeroR.key, .int .u64 zeroR.s.p, .int .u32 zeroR.s.l, .int .u8 zeroR.s.n, .int .u8 zeroR.kind, .int .u32 zeroR.flags, .int .u64 zeroR.exp, .string zeroR.body] 57) (.cells #[.string s, .int .i64 p, .int .i64 0] 202)
  have hI : Rd _ s p 0 _ := at_new (w.alloc (.cells #[.string zeroR.key, .int .u64 zeroR.s.p, .int .u32 zeroR.s.l, .int .u8 zeroR.s.n, .int .u8 zeroR.kind, .int .u32 zeroR.flags, .int .u64 zeroR.exp, .string zeroR.body] 57)) #[.string s, .int .i64 p, .int .i64 0] 202
  have hW := kept_alloc (kept_alloc (kept_refl w) (.cells #[.string zeroR.key, .int .u64 zeroR.s.p, .int .u32 zeroR.s.l, .int .u8 zeroR.s.n, .int .u8 zeroR.kind, .int .u32 zeroR.flags, .int .u64 zeroR.exp, .string zeroR.body] 57)) (.cells #[.string s, .int .i64 p, .int .i64 0] 202)
  simp only [World.size_alloc] at hI
  simp only [zeroR, zero] at hY hI hW
  have HKT : Hid (∀ u u' : World, Kept w u → Turn (w.heap.size + 1) u u' → Kept w u') := fun u u' h t => kept_turn h (by omega) t
  have HKY : Hid (∀ (u : World) (a0 a1 a2 a3 a4 a5 a6 a7 : Value), Kept w u → Kept w (set8 u w.heap.size a0 a1 a2 a3 a4 a5 a6 a7)) := fun u a0 a1 a2 a3 a4 a5 a6 a7 h => kept_set8 h (Nat.le_refl _) _ _ _ _ _ _ _ _
  have nYI : Hid (w.heap.size ≠ w.heap.size + 1) := by show _ ≠ _; omega
  go_enter Tryz.func123, Tryz.ntmps123
  go_wp2_with fail
  generalize (w.alloc (.cells #[.string ⟨#[]⟩, .int .u64 0, .int .u32 0, .int .u8 0, .int .u8 0, .int .u32 0, .int .u64 0, .string ⟨#[]⟩] 57)).alloc (.cells #[.string s, .int .i64 p, .int .i64 0] 202) = w0 at *
  generalize w.heap.size = bY at *
  generalize bY + 1 = bI at *
  refine (hRec _ bI hI).mono ?_
  rintro e w1 ⟨rfl, hT, hI1⟩
  clear hRec
  replace hW := HKT.out _ _ hW hT
  replace hY := at_turn hY hT nYI.out
  clear hT hI
  have hI2 := hid (at_alloc hI1 (.cells #[.string r.key, .int .u64 r.s.p, .int .u32 r.s.l, .int .u8 r.s.n, .int .u8 r.kind, .int .u32 r.flags, .int .u64 r.exp, .string r.body] 57))
  have hY2 := hid (at_alloc hY (.cells #[.string r.key, .int .u64 r.s.p, .int .u32 r.s.l, .int .u8 r.s.n, .int .u8 r.kind, .int .u32 r.flags, .int .u64 r.exp, .string r.body] 57))
  have hW2 := hid (kept_alloc hW (.cells #[.string r.key, .int .u64 r.s.p, .int .u32 r.s.l, .int .u8 r.s.n, .int .u8 r.kind, .int .u32 r.flags, .int .u64 r.exp, .string r.body] 57))
  have hR2 := hid (at_new w1 #[.string r.key, .int .u64 r.s.p, .int .u32 r.s.l, .int .u8 r.s.n, .int .u8 r.kind, .int .u32 r.flags, .int .u64 r.exp, .string r.body] 57)
  have nYR : Hid (bY ≠ w1.heap.size) := Nat.ne_of_lt (at_lt hY)
  have nIR : Hid (bI ≠ w1.heap.size) := Nat.ne_of_lt (at_lt hI1)
  have hlI := at_lt hI1
  obtain ⟨i0, i1, i2, -⟩ := at_cells3 hI1
  clear hI1 hY hW
  go_wp2_with fail
  generalize w1.alloc (.cells #[.string r.key, .int .u64 r.s.p, .int .u32 r.s.l, .int .u8 r.s.n, .int .u8 r.kind, .int .u32 r.flags, .int .u64 r.exp, .string r.body] 57) = w2 at *
  generalize w1.heap.size = bR at *
  clear i0 i1 i2 hlI
  have hI := hI2.out
  have hY := hY2.out
  have hW := hW2.out
  have hR := hR2.out
  clear hI2 hY2 hW2 hR2
  clear hR
  refine wp_region_noPanic ?_
  refine wp_region_held_drew (S := (fun w' => w'.cell? ⟨bI, 0, none⟩ = some (.string s) ∧ w'.cell? ⟨bI, 1, none⟩ = some (.int .i64 q) ∧ w'.cell? ⟨bI, 2, none⟩ = some (.int .i64 (f : Int)))) (by kernel_rfl) (at3 hI) (fun hHeld => ?_)
  refine wpAnyH_take (i := 0) (v := .agg #[.string ⟨#[]⟩, .int .u64 0, .int .u32 0, .int .u8 0, .int .u8 0, .int .u32 0, .int .u64 0, .string ⟨#[]⟩]) rfl (by kernel_rfl) (by kernel_rfl) (by kernel_rfl) (fun _ _ _ h => h) (Or.inl ⟨by rfl, fun w hSw => by (try dsimp only at hSw); go_simp⟩) (by assumption) ?_
  try simp only [List.getElem_toArray, List.getElem_cons_zero, List.getElem_cons_succ, Act.put, List.setIfInBounds_toArray, List.set_cons_zero, List.set_cons_succ]
  refine wpAnyH_take (i := 1) (v := .pointer (some ⟨bI, 0, none⟩)) rfl (by kernel_rfl) (by kernel_rfl) (by kernel_rfl) (fun _ _ _ h => h) (Or.inl ⟨by rfl, fun w hSw => by (try dsimp only at hSw); go_simp⟩) (by assumption) ?_
  try simp only [List.getElem_toArray, List.getElem_cons_zero, List.getElem_cons_succ, Act.put, List.setIfInBounds_toArray, List.set_cons_zero, List.set_cons_succ]
  refine wpAnyH_take (i := 2) (v := .pointer (some ⟨bI, 0, none⟩)) rfl (by kernel_rfl) (by kernel_rfl) (by kernel_rfl) (fun _ _ _ h => h) (Or.inl ⟨by rfl, fun w hSw => by (try dsimp only at hSw); go_simp⟩) (by assumption) ?_
  try simp only [List.getElem_toArray, List.getElem_cons_zero, List.getElem_cons_succ, Act.put, List.setIfInBounds_toArray, List.set_cons_zero, List.set_cons_succ]
  refine wpAnyH_take (i := 3) (v := .pointer (some ⟨bI, 2, none⟩)) rfl (by kernel_rfl) (by kernel_rfl) (by kernel_rfl) (fun _ _ _ h => h) (Or.inl ⟨by rfl, fun w hSw => by (try dsimp only at hSw); go_simp⟩) (by assumption) ?_
  try simp only [List.getElem_toArray, List.getElem_cons_zero, List.getElem_cons_succ, Act.put, List.setIfInBounds_toArray, List.set_cons_zero, List.set_cons_succ]
  refine wpAnyH_take (i := 4) (v := .int .i64 (f : Int)) rfl (by kernel_rfl) (by kernel_rfl) (by kernel_rfl) (fun _ _ _ h => h) (Or.inl ⟨by rfl, fun w hSw => by (try dsimp only at hSw); go_simp⟩) (by assumption) ?_
  try simp only [List.getElem_toArray, List.getElem_cons_zero, List.getElem_cons_succ, Act.put, List.setIfInBounds_toArray, List.set_cons_zero, List.set_cons_succ]
  refine wpAnyH_ready (rs := [5]) (by kernel_rfl) (by simp) ?_
  refine AllReadyH.cons (i := 5) rfl (fun K hK => ?_) AllReadyH.nil
  obtain ⟨d0, d1, d2, d3, d4, d5, d6, d7, df⟩ := at_cells8 hY
  go_simp
  clear d0 d1 d2 d3 d4 d5 d6 d7 df
  replace hY := at_set8 hY (.string ⟨#[]⟩) (.int .u64 0) (.int .u32 0) (.int .u8 0) (.int .u8 0) (.int .u32 0) (.int .u64 0) (.string ⟨#[]⟩)
  replace hI := at_other8 hI (Ne.symm nYI.out) (.string ⟨#[]⟩) (.int .u64 0) (.int .u32 0) (.int .u8 0) (.int .u8 0) (.int .u32 0) (.int .u64 0) (.string ⟨#[]⟩)
  replace hW := HKY.out _ (.string ⟨#[]⟩) (.int .u64 0) (.int .u32 0) (.int .u8 0) (.int .u8 0) (.int .u32 0) (.int .u64 0) (.string ⟨#[]⟩) hW
  replace hY := at_drew hY
  replace hI := at_drew hI
  replace hW := kept_drew hW
  show K _ (set8 w2 bY (.string ⟨#[]⟩) (.int .u64 0) (.int .u32 0) (.int .u8 0) (.int .u8 0) (.int .u32 0) (.int .u64 0) (.string ⟨#[]⟩)).drew
  generalize (set8 w2 bY (.string ⟨#[]⟩) (.int .u64 0) (.int .u32 0) (.int .u8 0) (.int .u8 0) (.int .u32 0) (.int .u64 0) (.string ⟨#[]⟩)).drew = w9 at *
  clear hHeld
  show K _ _
  refine hK.out _ _ (at3 hI) (fun hHeld => ?_)
  clear hK K
  try simp only [List.getElem_toArray, List.getElem_cons_zero, List.getElem_cons_succ, Act.put, List.setIfInBounds_toArray, List.set_cons_zero, List.set_cons_succ]
  refine wpAnyH_take (i := 6) (v := .int .i64 0) rfl (by kernel_rfl) (by kernel_rfl) (by kernel_rfl) (fun _ _ _ h => h) (Or.inl ⟨by rfl, fun w hSw => by (try dsimp only at hSw); go_simp⟩) (by assumption) ?_
  try simp only [List.getElem_toArray, List.getElem_cons_zero, List.getElem_cons_succ, Act.put, List.setIfInBounds_toArray, List.set_cons_zero, List.set_cons_succ]
  refine wpAnyH_take (i := 7) (v := .int .i64 (f : Int)) rfl (by kernel_rfl) (by kernel_rfl) (by kernel_rfl) (fun _ _ _ h => h) (Or.inl ⟨by rfl, fun w hSw => by (try dsimp only at hSw); go_simp⟩) (by assumption) ?_
  try simp only [List.getElem_toArray, List.getElem_cons_zero, List.getElem_cons_succ, Act.put, List.setIfInBounds_toArray, List.set_cons_zero, List.set_cons_succ]
  refine wpAnyH_done (by kernel_rfl) ?_ _
  refine NoPanic.normal ?_
  clear hHeld
  go_wp2_with fail
  exact bodyPost_ret (res3 Tryz.results123 _ rfl rfl rfl hY) rfl ⟨rfl, hW⟩
set_option maxHeartbeats 600000 in
set_option maxRecDepth 100000 in
theorem Get_mayNot (s : ByteArray) (hs : s.size ≤ 140737488355328) (p : Int) (r : R) (q : Int) (hq : recP s (stepT s 250 p 0) = (r, q, 0)) (hm : mayR r = false) (w : World) :
    Calls Tryz.prog 123 #[.string s, .int .i64 p] w fun e w' => e = .returned (recV (zeroR, 0, 3)) ∧ Kept w w' := by
  have hsz := rec_sizes s p
  rw [hq] at hsz
  have hM := May_any r (by have := hsz.1; unfold maxLen; simp only at this; omega) (by have := hsz.2; unfold maxLen; simp only at this; omega)
  rw [hm] at hM
  clear hm hsz
  have hz := zero27
  have hz67 := zero67
  have hRec : ∀ w bI, Rd bI s p 0 w → _ := fun w bI h => record_any s hs p 0 bI w h
  rw [hq] at hRec
  clear hq hs
  have hY := at_alloc (at_new w #[.string zeroR.key, .int .u64 zeroR.s.p, .int .u32 zeroR.s.l, .int .u8 zeroR.s.n, .int .u8 zeroR.kind, .int .u32 zeroR.flags, .int .u64 zeroR.exp, .string zeroR.body] 57) (.cells #[.string s, .int .i64 p, .int .i64 0] 202)
  have hI : Rd _ s p 0 _ := at_new (w.alloc (.cells #[.string zeroR.key, .int .u64 zeroR.s.p, .int .u32 zeroR.s.l, .int .u8 zeroR.s.n, .int .u8 zeroR.kind, .int .u32 zeroR.flags, .int .u64 zeroR.exp, .string zeroR.body] 57)) #[.string s, .int .i64 p, .int .i64 0] 202
  have hW := kept_alloc (kept_alloc (kept_refl w) (.cells #[.string zeroR.key, .int .u64 zeroR.s.p, .int .u32 zeroR.s.l, .int .u8 zeroR.s.n, .int .u8 zeroR.kind, .int .u32 zeroR.flags, .int .u64 zeroR.exp, .string zeroR.body] 57)) (.cells #[.string s, .int .i64 p, .int .i64 0] 202)
  simp only [World.size_alloc] at hI
  simp only [zeroR, zero] at hY hI hW
  have HKT : Hid (∀ u u' : World, Kept w u → Turn (w.heap.size + 1) u u' → Kept w u') := fun u u' h t => kept_turn h (by omega) t
  have HKY : Hid (∀ (u : World) (a0 a1 a2 a3 a4 a5 a6 a7 : Value), Kept w u → Kept w (set8 u w.heap.size a0 a1 a2 a3 a4 a5 a6 a7)) := fun u a0 a1 a2 a3 a4 a5 a6 a7 h => kept_set8 h (Nat.le_refl _) _ _ _ _ _ _ _ _
  have nYI : Hid (w.heap.size ≠ w.heap.size + 1) := by show _ ≠ _; omega
  go_enter Tryz.func123, Tryz.ntmps123
  go_wp2_with fail
  generalize (w.alloc (.cells #[.string ⟨#[]⟩, .int .u64 0, .int .u32 0, .int .u8 0, .int .u8 0, .int .u32 0, .int .u64 0, .string ⟨#[]⟩] 57)).alloc (.cells #[.string s, .int .i64 p, .int .i64 0] 202) = w0 at *
  generalize w.heap.size = bY at *
  generalize bY + 1 = bI at *
  refine (hRec _ bI hI).mono ?_
  rintro e w1 ⟨rfl, hT, hI1⟩
  clear hRec
  replace hW := HKT.out _ _ hW hT
  replace hY := at_turn hY hT nYI.out
  clear hT hI
  have hI2 := hid (at_alloc hI1 (.cells #[.string r.key, .int .u64 r.s.p, .int .u32 r.s.l, .int .u8 r.s.n, .int .u8 r.kind, .int .u32 r.flags, .int .u64 r.exp, .string r.body] 57))
  have hY2 := hid (at_alloc hY (.cells #[.string r.key, .int .u64 r.s.p, .int .u32 r.s.l, .int .u8 r.s.n, .int .u8 r.kind, .int .u32 r.flags, .int .u64 r.exp, .string r.body] 57))
  have hW2 := hid (kept_alloc hW (.cells #[.string r.key, .int .u64 r.s.p, .int .u32 r.s.l, .int .u8 r.s.n, .int .u8 r.kind, .int .u32 r.flags, .int .u64 r.exp, .string r.body] 57))
  have hR2 := hid (at_new w1 #[.string r.key, .int .u64 r.s.p, .int .u32 r.s.l, .int .u8 r.s.n, .int .u8 r.kind, .int .u32 r.flags, .int .u64 r.exp, .string r.body] 57)
  have nYR : Hid (bY ≠ w1.heap.size) := Nat.ne_of_lt (at_lt hY)
  have nIR : Hid (bI ≠ w1.heap.size) := Nat.ne_of_lt (at_lt hI1)
  have hlI := at_lt hI1
  obtain ⟨i0, i1, i2, -⟩ := at_cells3 hI1
  clear hI1 hY hW
  go_wp2_with fail
  generalize w1.alloc (.cells #[.string r.key, .int .u64 r.s.p, .int .u32 r.s.l, .int .u8 r.s.n, .int .u8 r.kind, .int .u32 r.flags, .int .u64 r.exp, .string r.body] 57) = w2 at *
  generalize w1.heap.size = bR at *
  clear i0 i1 i2 hlI
  have hI := hI2.out
  have hY := hY2.out
  have hW := hW2.out
  have hR := hR2.out
  clear hI2 hY2 hW2 hR2
  refine (hM _).mono ?_
  rintro e w3 ⟨rfl, k3⟩
  replace hW := kept_trans hW k3
  replace hY := at_kept hY k3
  replace hI := at_kept hI k3
  clear k3 hM hR
  obtain ⟨i0, i1, i2, fz⟩ := at_cells3 hI
  have hI2 := hid (rd_fault (f := 0) hI 3)
  have hY2 := hid (at_other hY nYI.out 2 (.int .i64 3))
  have hW2 := hid (HKT.out _ _ hW (turn_set (Turn.refl bI w3) 2 (.int .i64 3)))
  clear hI hY hW
  go_wp2_with fail
  clear i0 i1 i2 fz
  have hI : At _ _ #[.string s, .int .i64 q, .int .i64 3] _ := hI2.out
  have hY := hY2.out
  have hW := hW2.out
  clear hI2 hY2 hW2
  generalize w3.setCell ⟨bI, 2, none⟩ (.int .i64 3) = w4 at *
  refine wp_region_noPanic ?_
  refine wp_region_held_drew (S := (fun w' => w'.cell? ⟨bI, 0, none⟩ = some (.string s) ∧ w'.cell? ⟨bI, 1, none⟩ = some (.int .i64 q) ∧ w'.cell? ⟨bI, 2, none⟩ = some (.int .i64 3))) (by kernel_rfl) (at3 hI) (fun hHeld => ?_)
  refine wpAnyH_take (i := 0) (v := .agg #[.string ⟨#[]⟩, .int .u64 0, .int .u32 0, .int .u8 0, .int .u8 0, .int .u32 0, .int .u64 0, .string ⟨#[]⟩]) rfl (by kernel_rfl) (by kernel_rfl) (by kernel_rfl) (fun _ _ _ h => h) (Or.inl ⟨by rfl, fun w hSw => by (try dsimp only at hSw); go_simp⟩) (by assumption) ?_
  try simp only [List.getElem_toArray, List.getElem_cons_zero, List.getElem_cons_succ, Act.put, List.setIfInBounds_toArray, List.set_cons_zero, List.set_cons_succ]
  refine wpAnyH_take (i := 1) (v := .pointer (some ⟨bI, 0, none⟩)) rfl (by kernel_rfl) (by kernel_rfl) (by kernel_rfl) (fun _ _ _ h => h) (Or.inl ⟨by rfl, fun w hSw => by (try dsimp only at hSw); go_simp⟩) (by assumption) ?_
  try simp only [List.getElem_toArray, List.getElem_cons_zero, List.getElem_cons_succ, Act.put, List.setIfInBounds_toArray, List.set_cons_zero, List.set_cons_succ]
  refine wpAnyH_take (i := 2) (v := .pointer (some ⟨bI, 0, none⟩)) rfl (by kernel_rfl) (by kernel_rfl) (by kernel_rfl) (fun _ _ _ h => h) (Or.inl ⟨by rfl, fun w hSw => by (try dsimp only at hSw); go_simp⟩) (by assumption) ?_
  try simp only [List.getElem_toArray, List.getElem_cons_zero, List.getElem_cons_succ, Act.put, List.setIfInBounds_toArray, List.set_cons_zero, List.set_cons_succ]
  refine wpAnyH_take (i := 3) (v := .pointer (some ⟨bI, 2, none⟩)) rfl (by kernel_rfl) (by kernel_rfl) (by kernel_rfl) (fun _ _ _ h => h) (Or.inl ⟨by rfl, fun w hSw => by (try dsimp only at hSw); go_simp⟩) (by assumption) ?_
  try simp only [List.getElem_toArray, List.getElem_cons_zero, List.getElem_cons_succ, Act.put, List.setIfInBounds_toArray, List.set_cons_zero, List.set_cons_succ]
  refine wpAnyH_take (i := 4) (v := .int .i64 3) rfl (by kernel_rfl) (by kernel_rfl) (by kernel_rfl) (fun _ _ _ h => h) (Or.inl ⟨by rfl, fun w hSw => by (try dsimp only at hSw); go_simp⟩) (by assumption) ?_
  try simp only [List.getElem_toArray, List.getElem_cons_zero, List.getElem_cons_succ, Act.put, List.setIfInBounds_toArray, List.set_cons_zero, List.set_cons_succ]
  refine wpAnyH_ready (rs := [5]) (by kernel_rfl) (by simp) ?_
  refine AllReadyH.cons (i := 5) rfl (fun K hK => ?_) AllReadyH.nil
  obtain ⟨d0, d1, d2, d3, d4, d5, d6, d7, df⟩ := at_cells8 hY
  go_simp
  clear d0 d1 d2 d3 d4 d5 d6 d7 df
  replace hY := at_set8 hY (.string ⟨#[]⟩) (.int .u64 0) (.int .u32 0) (.int .u8 0) (.int .u8 0) (.int .u32 0) (.int .u64 0) (.string ⟨#[]⟩)
  replace hI := at_other8 hI (Ne.symm nYI.out) (.string ⟨#[]⟩) (.int .u64 0) (.int .u32 0) (.int .u8 0) (.int .u8 0) (.int .u32 0) (.int .u64 0) (.string ⟨#[]⟩)
  replace hW := HKY.out _ (.string ⟨#[]⟩) (.int .u64 0) (.int .u32 0) (.int .u8 0) (.int .u8 0) (.int .u32 0) (.int .u64 0) (.string ⟨#[]⟩) hW
  replace hY := at_drew hY
  replace hI := at_drew hI
  replace hW := kept_drew hW
  show K _ (set8 w4 bY (.string ⟨#[]⟩) (.int .u64 0) (.int .u32 0) (.int .u8 0) (.int .u8 0) (.int .u32 0) (.int .u64 0) (.string ⟨#[]⟩)).drew
  generalize (set8 w4 bY (.string ⟨#[]⟩) (.int .u64 0) (.int .u32 0) (.int .u8 0) (.int .u8 0) (.int .u32 0) (.int .u64 0) (.string ⟨#[]⟩)).drew = w9 at *
  clear hHeld
  show K _ _
  refine hK.out _ _ (at3 hI) (fun hHeld => ?_)
  clear hK K
  try simp only [List.getElem_toArray, List.getElem_cons_zero, List.getElem_cons_succ, Act.put, List.setIfInBounds_toArray, List.set_cons_zero, List.set_cons_succ]
  refine wpAnyH_take (i := 6) (v := .int .i64 0) rfl (by kernel_rfl) (by kernel_rfl) (by kernel_rfl) (fun _ _ _ h => h) (Or.inl ⟨by rfl, fun w hSw => by (try dsimp only at hSw); go_simp⟩) (by assumption) ?_
  try simp only [List.getElem_toArray, List.getElem_cons_zero, List.getElem_cons_succ, Act.put, List.setIfInBounds_toArray, List.set_cons_zero, List.set_cons_succ]
  refine wpAnyH_take (i := 7) (v := .int .i64 3) rfl (by kernel_rfl) (by kernel_rfl) (by kernel_rfl) (fun _ _ _ h => h) (Or.inl ⟨by rfl, fun w hSw => by (try dsimp only at hSw); go_simp⟩) (by assumption) ?_
  try simp only [List.getElem_toArray, List.getElem_cons_zero, List.getElem_cons_succ, Act.put, List.setIfInBounds_toArray, List.set_cons_zero, List.set_cons_succ]
  refine wpAnyH_done (by kernel_rfl) ?_ _
  refine NoPanic.normal ?_
  clear hHeld
  go_wp2_with fail
  exact bodyPost_ret (res3 Tryz.results123 _ rfl rfl rfl hY) rfl ⟨rfl, hW⟩
set_option maxHeartbeats 600000 in
set_option maxRecDepth 100000 in
theorem Get_good (s : ByteArray) (hs : s.size ≤ 140737488355328) (p : Int) (r : R) (q : Int) (hq : recP s (stepT s 250 p 0) = (r, q, 0)) (hm : mayR r = true) (w : World) :
    Calls Tryz.prog 123 #[.string s, .int .i64 p] w fun e w' => e = .returned (recV (r, q, 0)) ∧ Kept w w' := by
  have hsz := rec_sizes s p
  rw [hq] at hsz
  have hM := May_any r (by have := hsz.1; unfold maxLen; simp only at this; omega) (by have := hsz.2; unfold maxLen; simp only at this; omega)
  rw [hm] at hM
  clear hm hsz
  have hz := zero27
  have hz67 := zero67
  have hRec : ∀ w bI, Rd bI s p 0 w → _ := fun w bI h => record_any s hs p 0 bI w h
  rw [hq] at hRec
  clear hq hs
  have hY := at_alloc (at_new w #[.string zeroR.key, .int .u64 zeroR.s.p, .int .u32 zeroR.s.l, .int .u8 zeroR.s.n, .int .u8 zeroR.kind, .int .u32 zeroR.flags, .int .u64 zeroR.exp, .string zeroR.body] 57) (.cells #[.string s, .int .i64 p, .int .i64 0] 202)
  have hI : Rd _ s p 0 _ := at_new (w.alloc (.cells #[.string zeroR.key, .int .u64 zeroR.s.p, .int .u32 zeroR.s.l, .int .u8 zeroR.s.n, .int .u8 zeroR.kind, .int .u32 zeroR.flags, .int .u64 zeroR.exp, .string zeroR.body] 57)) #[.string s, .int .i64 p, .int .i64 0] 202
  have hW := kept_alloc (kept_alloc (kept_refl w) (.cells #[.string zeroR.key, .int .u64 zeroR.s.p, .int .u32 zeroR.s.l, .int .u8 zeroR.s.n, .int .u8 zeroR.kind, .int .u32 zeroR.flags, .int .u64 zeroR.exp, .string zeroR.body] 57)) (.cells #[.string s, .int .i64 p, .int .i64 0] 202)
  simp only [World.size_alloc] at hI
  simp only [zeroR, zero] at hY hI hW
  have HKT : Hid (∀ u u' : World, Kept w u → Turn (w.heap.size + 1) u u' → Kept w u') := fun u u' h t => kept_turn h (by omega) t
  have HKY : Hid (∀ (u : World) (a0 a1 a2 a3 a4 a5 a6 a7 : Value), Kept w u → Kept w (set8 u w.heap.size a0 a1 a2 a3 a4 a5 a6 a7)) := fun u a0 a1 a2 a3 a4 a5 a6 a7 h => kept_set8 h (Nat.le_refl _) _ _ _ _ _ _ _ _
  have nYI : Hid (w.heap.size ≠ w.heap.size + 1) := by show _ ≠ _; omega
  go_enter Tryz.func123, Tryz.ntmps123
  go_wp2_with fail
  generalize (w.alloc (.cells #[.string ⟨#[]⟩, .int .u64 0, .int .u32 0, .int .u8 0, .int .u8 0, .int .u32 0, .int .u64 0, .string ⟨#[]⟩] 57)).alloc (.cells #[.string s, .int .i64 p, .int .i64 0] 202) = w0 at *
  generalize w.heap.size = bY at *
  generalize bY + 1 = bI at *
  refine (hRec _ bI hI).mono ?_
  rintro e w1 ⟨rfl, hT, hI1⟩
  clear hRec
  replace hW := HKT.out _ _ hW hT
  replace hY := at_turn hY hT nYI.out
  clear hT hI
  have hI2 := hid (at_alloc hI1 (.cells #[.string r.key, .int .u64 r.s.p, .int .u32 r.s.l, .int .u8 r.s.n, .int .u8 r.kind, .int .u32 r.flags, .int .u64 r.exp, .string r.body] 57))
  have hY2 := hid (at_alloc hY (.cells #[.string r.key, .int .u64 r.s.p, .int .u32 r.s.l, .int .u8 r.s.n, .int .u8 r.kind, .int .u32 r.flags, .int .u64 r.exp, .string r.body] 57))
  have hW2 := hid (kept_alloc hW (.cells #[.string r.key, .int .u64 r.s.p, .int .u32 r.s.l, .int .u8 r.s.n, .int .u8 r.kind, .int .u32 r.flags, .int .u64 r.exp, .string r.body] 57))
  have hR2 := hid (at_new w1 #[.string r.key, .int .u64 r.s.p, .int .u32 r.s.l, .int .u8 r.s.n, .int .u8 r.kind, .int .u32 r.flags, .int .u64 r.exp, .string r.body] 57)
  have nYR : Hid (bY ≠ w1.heap.size) := Nat.ne_of_lt (at_lt hY)
  have nIR : Hid (bI ≠ w1.heap.size) := Nat.ne_of_lt (at_lt hI1)
  have hlI := at_lt hI1
  obtain ⟨i0, i1, i2, -⟩ := at_cells3 hI1
  clear hI1 hY hW
  go_wp2_with fail
  generalize w1.alloc (.cells #[.string r.key, .int .u64 r.s.p, .int .u32 r.s.l, .int .u8 r.s.n, .int .u8 r.kind, .int .u32 r.flags, .int .u64 r.exp, .string r.body] 57) = w2 at *
  generalize w1.heap.size = bR at *
  clear i0 i1 i2 hlI
  have hI := hI2.out
  have hY := hY2.out
  have hW := hW2.out
  have hR := hR2.out
  clear hI2 hY2 hW2 hR2
  refine (hM _).mono ?_
  rintro e w3 ⟨rfl, k3⟩
  replace hW := kept_trans hW k3
  replace hY := at_kept hY k3
  replace hI := at_kept hI k3
  replace hR := at_kept hR k3
  clear k3 hM
  obtain ⟨i0, i1, i2, fz⟩ := at_cells3 hI
  have hI2 := hid hI
  have hY2 := hid hY
  have hW2 := hid hW
  have hR2 := hid hR
  clear hI hY hW hR
  go_wp2_with fail
  clear i0 i1 i2 fz
  have hI : At _ _ #[.string s, .int .i64 q, .int .i64 0] _ := hI2.out
  have hY := hY2.out
  have hW := hW2.out
  have hR := hR2.out
  clear hI2 hY2 hW2 hR2
  refine wp_region_noPanic ?_
  refine wp_region_held_drew (S := (fun w' => (w'.cell? ⟨bI, 0, none⟩ = some (.string s) ∧ w'.cell? ⟨bI, 1, none⟩ = some (.int .i64 q) ∧ w'.cell? ⟨bI, 2, none⟩ = some (.int .i64 0)) ∧ (w'.cell? ⟨bR, 0, none⟩ = some (.string r.key) ∧ w'.cell? ⟨bR, 1, none⟩ = some (.int .u64 r.s.p) ∧ w'.cell? ⟨bR, 2, none⟩ = some (.int .u32 r.s.l) ∧ w'.cell? ⟨bR, 3, none⟩ = some (.int .u8 r.s.n) ∧ w'.cell? ⟨bR, 4, none⟩ = some (.int .u8 r.kind) ∧ w'.cell? ⟨bR, 5, none⟩ = some (.int .u32 r.flags) ∧ w'.cell? ⟨bR, 6, none⟩ = some (.int .u64 r.exp) ∧ w'.cell? ⟨bR, 7, none⟩ = some (.string r.body)))) (by kernel_rfl) (⟨at3 hI, at_cells8' hR⟩) (fun hHeld => ?_)
  refine wpAnyH_take (i := 0) (v := .agg #[.string r.key, .int .u64 r.s.p, .int .u32 r.s.l, .int .u8 r.s.n, .int .u8 r.kind, .int .u32 r.flags, .int .u64 r.exp, .string r.body]) rfl (by kernel_rfl) (by kernel_rfl) (by kernel_rfl) (fun _ _ _ h => h) (Or.inl ⟨by rfl, fun w hSw => by (try dsimp only at hSw); go_simp⟩) (by assumption) ?_
  try simp only [List.getElem_toArray, List.getElem_cons_zero, List.getElem_cons_succ, Act.put, List.setIfInBounds_toArray, List.set_cons_zero, List.set_cons_succ]
  refine wpAnyH_take (i := 1) (v := .pointer (some ⟨bI, 0, none⟩)) rfl (by kernel_rfl) (by kernel_rfl) (by kernel_rfl) (fun _ _ _ h => h) (Or.inl ⟨by rfl, fun w hSw => by (try dsimp only at hSw); go_simp⟩) (by assumption) ?_
  try simp only [List.getElem_toArray, List.getElem_cons_zero, List.getElem_cons_succ, Act.put, List.setIfInBounds_toArray, List.set_cons_zero, List.set_cons_succ]
  refine wpAnyH_take (i := 2) (v := .pointer (some ⟨bI, 0, none⟩)) rfl (by kernel_rfl) (by kernel_rfl) (by kernel_rfl) (fun _ _ _ h => h) (Or.inl ⟨by rfl, fun w hSw => by (try dsimp only at hSw); go_simp⟩) (by assumption) ?_
  try simp only [List.getElem_toArray, List.getElem_cons_zero, List.getElem_cons_succ, Act.put, List.setIfInBounds_toArray, List.set_cons_zero, List.set_cons_succ]
  refine wpAnyH_take (i := 3) (v := .pointer (some ⟨bI, 1, none⟩)) rfl (by kernel_rfl) (by kernel_rfl) (by kernel_rfl) (fun _ _ _ h => h) (Or.inl ⟨by rfl, fun w hSw => by (try dsimp only at hSw); go_simp⟩) (by assumption) ?_
  try simp only [List.getElem_toArray, List.getElem_cons_zero, List.getElem_cons_succ, Act.put, List.setIfInBounds_toArray, List.set_cons_zero, List.set_cons_succ]
  refine wpAnyH_take (i := 4) (v := .int .i64 q) rfl (by kernel_rfl) (by kernel_rfl) (by kernel_rfl) (fun _ _ _ h => h) (Or.inl ⟨by rfl, fun w hSw => by (try dsimp only at hSw); go_simp⟩) (by assumption) ?_
  try simp only [List.getElem_toArray, List.getElem_cons_zero, List.getElem_cons_succ, Act.put, List.setIfInBounds_toArray, List.set_cons_zero, List.set_cons_succ]
  refine wpAnyH_ready (rs := [5]) (by kernel_rfl) (by simp) ?_
  refine AllReadyH.cons (i := 5) rfl (fun K hK => ?_) AllReadyH.nil
  obtain ⟨d0, d1, d2, d3, d4, d5, d6, d7, df⟩ := at_cells8 hY
  go_simp
  clear d0 d1 d2 d3 d4 d5 d6 d7 df
  replace hY := at_set8 hY (.string r.key) (.int .u64 r.s.p) (.int .u32 r.s.l) (.int .u8 r.s.n) (.int .u8 r.kind) (.int .u32 r.flags) (.int .u64 r.exp) (.string r.body)
  replace hI := at_other8 hI (Ne.symm nYI.out) (.string r.key) (.int .u64 r.s.p) (.int .u32 r.s.l) (.int .u8 r.s.n) (.int .u8 r.kind) (.int .u32 r.flags) (.int .u64 r.exp) (.string r.body)
  replace hR := at_other8 hR (Ne.symm nYR.out) (.string r.key) (.int .u64 r.s.p) (.int .u32 r.s.l) (.int .u8 r.s.n) (.int .u8 r.kind) (.int .u32 r.flags) (.int .u64 r.exp) (.string r.body)
  replace hW := HKY.out _ (.string r.key) (.int .u64 r.s.p) (.int .u32 r.s.l) (.int .u8 r.s.n) (.int .u8 r.kind) (.int .u32 r.flags) (.int .u64 r.exp) (.string r.body) hW
  replace hY := at_drew hY
  replace hI := at_drew hI
  replace hR := at_drew hR
  replace hW := kept_drew hW
  show K _ (set8 w3 bY (.string r.key) (.int .u64 r.s.p) (.int .u32 r.s.l) (.int .u8 r.s.n) (.int .u8 r.kind) (.int .u32 r.flags) (.int .u64 r.exp) (.string r.body)).drew
  generalize (set8 w3 bY (.string r.key) (.int .u64 r.s.p) (.int .u32 r.s.l) (.int .u8 r.s.n) (.int .u8 r.kind) (.int .u32 r.flags) (.int .u64 r.exp) (.string r.body)).drew = w9 at *
  clear hHeld
  show K _ _
  refine hK.out _ _ (⟨at3 hI, at_cells8' hR⟩) (fun hHeld => ?_)
  clear hK K
  try simp only [List.getElem_toArray, List.getElem_cons_zero, List.getElem_cons_succ, Act.put, List.setIfInBounds_toArray, List.set_cons_zero, List.set_cons_succ]
  refine wpAnyH_take (i := 6) (v := .int .i64 q) rfl (by kernel_rfl) (by kernel_rfl) (by kernel_rfl) (fun _ _ _ h => h) (Or.inl ⟨by rfl, fun w hSw => by (try dsimp only at hSw); go_simp⟩) (by assumption) ?_
  try simp only [List.getElem_toArray, List.getElem_cons_zero, List.getElem_cons_succ, Act.put, List.setIfInBounds_toArray, List.set_cons_zero, List.set_cons_succ]
  refine wpAnyH_take (i := 7) (v := .int .i64 0) rfl (by kernel_rfl) (by kernel_rfl) (by kernel_rfl) (fun _ _ _ h => h) (Or.inl ⟨by rfl, fun w hSw => by (try dsimp only at hSw); go_simp⟩) (by assumption) ?_
  try simp only [List.getElem_toArray, List.getElem_cons_zero, List.getElem_cons_succ, Act.put, List.setIfInBounds_toArray, List.set_cons_zero, List.set_cons_succ]
  refine wpAnyH_done (by kernel_rfl) ?_ _
  refine NoPanic.normal ?_
  clear hHeld
  go_wp2_with fail
  exact bodyPost_ret (res3 Tryz.results123 _ rfl rfl rfl hY) rfl ⟨rfl, hW⟩
theorem GetR_any (s : ByteArray) (hs : s.size ≤ 140737488355328) (p : Int) (w : World) :
    Calls Tryz.prog 123 #[.string s, .int .i64 p] w fun e w' => e = .returned (recV (getR s p)) ∧ Kept w w' := by
  unfold getR outR
  generalize hq : recP s (stepT s 250 p 0) = Q
  obtain ⟨r, q, f⟩ := Q
  simp only
  by_cases hf : f = 0
  · subst hf
    rw [if_pos rfl]
    by_cases hm : mayR r = true
    · rw [if_pos hm]; exact Get_good s hs p r q hq hm w
    · rw [if_neg hm]; exact Get_mayNot s hs p r q hq (by simpa using hm) w
  · rw [if_neg hf]; exact Get_fault s hs p r q f hq hf w
end Go.Proofs.YtioeidhblbfgmaaGreat
