/- The contract of the landed reader's record. The bytes are at most 2^47. -/
import Derived.Test.YtioeidhblbfgmaaGreatY37

namespace Go.Proofs.YtioeidhblbfgmaaGreat
open Go.ChangeShapes Go.WideShapes Go.ChangeAt Go.RowKit
set_option linter.unusedVariables false
set_option linter.unusedSimpArgs false
set_option maxRecDepth 100000

theorem turn_new8 {c X : Nat} {u w : World} (h : Turn c u w) (hX : u.heap.size ≤ X) (a0 a1 a2 a3 a4 a5 a6 a7 : Value) : Turn c u (set8 w X a0 a1 a2 a3 a4 a5 a6 a7) := turn_new (turn_new (turn_new (turn_new (turn_new (turn_new (turn_new (turn_new h hX 0 a0) hX 1 a1) hX 2 a2) hX 3 a3) hX 4 a4) hX 5 a5) hX 6 a6) hX 7 a7
set_option maxHeartbeats 6400000 in
theorem ldRec_any (s : ByteArray) (hs : s.size ≤ 140737488355328) (p : Int) (X : Nat) (w : World) (h : In X s p w) :
    Calls Tryz.prog 104 #[.pointer (some ⟨X, 0, none⟩)] w (RdC (fun r : R => .agg #[.string r.key, .int .u64 r.s.p, .int .u32 r.s.l, .int .u8 r.s.n, .int .u8 r.kind, .int .u32 r.flags, .int .u64 r.exp, .string r.body]) s X (recM s (p, 0)) w) := by
  have hG := GetR_any s hs p
  obtain ⟨r, q, f, hg⟩ := trio (getR s p)
  rw [hg] at hG
  unfold recV at hG
  simp only at hG
  have HE : Hid (recM s (p, 0) = if f = 0 then (r, (q, 0)) else (zeroR, (p, f))) := hid (by unfold recM; simp only [hg, if_true])
  generalize recM s (p, 0) = RR at *
  have hz := zero27
  have k2 := kept_alloc (kept_refl w) (.cells #[.string ⟨#[]⟩, .int .u64 0, .int .u32 0, .int .u8 0, .int .u8 0, .int .u32 0, .int .u64 0, .string ⟨#[]⟩] 57)
  have hXw := at_lt h
  have A0' : In X s p ((w.alloc (.cells #[.string ⟨#[]⟩, .int .u64 0, .int .u32 0, .int .u8 0, .int .u8 0, .int .u32 0, .int .u64 0, .string ⟨#[]⟩] 57)).drew) := in_kept h (kept_drew k2)
  have HT0 := hid (turn_kept (c := X) (kept_drew k2))
  have HR := hid (at_drew (at_new w #[.string ⟨#[]⟩, .int .u64 0, .int .u32 0, .int .u8 0, .int .u8 0, .int .u32 0, .int .u64 0, .string ⟨#[]⟩] 57))
  have HBN : Hid (w.heap.size < ((w.alloc (.cells #[.string ⟨#[]⟩, .int .u64 0, .int .u32 0, .int .u8 0, .int .u8 0, .int .u32 0, .int .u64 0, .string ⟨#[]⟩] 57)).drew).heap.size) := hid (at_lt HR.out)
  obtain ⟨c0, c1, cf⟩ := in_cells A0'
  have HI0 := hid A0'
  clear h k2 hs hg A0'
  go_enter Tryz.func104, Tryz.ntmps104
  go_wp2_with fail
  clear c0 c1 cf
  refine wp_region_noPanic ?_
  refine wp_region_held_drew (S := (fun w' => (w'.cell? ⟨X, 0, none⟩ = some (.string s)) ∧ (w'.cell? ⟨X, 1, none⟩ = some (.int .i64 p)))) (by kernel_rfl) (in2 HI0.out) (fun hHeld => ?_)
  generalize hwd : (w.alloc (.cells #[.string ⟨#[]⟩, .int .u64 0, .int .u32 0, .int .u8 0, .int .u8 0, .int .u32 0, .int .u64 0, .string ⟨#[]⟩] 57)).drew = wd at *
  have A0 := HI0.out
  have k0 : Kept wd wd := kept_refl _
  clear hwd
  refine wpAnyH_take (i := 0) (v := .pointer (some ⟨X, 0, none⟩)) rfl (by kernel_rfl) (by kernel_rfl) (by kernel_rfl) (fun _ _ _ h => h) (Or.inl ⟨by rfl, fun w hSw => by (try dsimp only at hSw); go_simp⟩) (by assumption) ?_
  try simp only [List.getElem_toArray, List.getElem_cons_zero, List.getElem_cons_succ, Act.put, List.setIfInBounds_toArray, List.set_cons_zero, List.set_cons_succ]
  refine wpAnyH_take (i := 1) (v := .pointer (some ⟨X, 0, none⟩)) rfl (by kernel_rfl) (by kernel_rfl) (by kernel_rfl) (fun _ _ _ h => h) (Or.inl ⟨by rfl, fun w hSw => by (try dsimp only at hSw); go_simp⟩) (by assumption) ?_
  try simp only [List.getElem_toArray, List.getElem_cons_zero, List.getElem_cons_succ, Act.put, List.setIfInBounds_toArray, List.set_cons_zero, List.set_cons_succ]
  refine wpAnyH_take (i := 2) (v := .pointer (some ⟨X, 0, none⟩)) rfl (by kernel_rfl) (by kernel_rfl) (by kernel_rfl) (fun _ _ _ h => h) (Or.inl ⟨by rfl, fun w hSw => by (try dsimp only at hSw); go_simp⟩) (by assumption) ?_
  try simp only [List.getElem_toArray, List.getElem_cons_zero, List.getElem_cons_succ, Act.put, List.setIfInBounds_toArray, List.set_cons_zero, List.set_cons_succ]
  refine wpAnyH_take (i := 3) (v := .string s) rfl (by kernel_rfl) (by kernel_rfl) (by kernel_rfl) (fun _ _ _ h => h) (Or.inl ⟨by rfl, fun w hSw => by (try dsimp only at hSw); go_simp⟩) (by assumption) ?_
  try simp only [List.getElem_toArray, List.getElem_cons_zero, List.getElem_cons_succ, Act.put, List.setIfInBounds_toArray, List.set_cons_zero, List.set_cons_succ]
  refine wpAnyH_take (i := 4) (v := .pointer (some ⟨X, 0, none⟩)) rfl (by kernel_rfl) (by kernel_rfl) (by kernel_rfl) (fun _ _ _ h => h) (Or.inl ⟨by rfl, fun w hSw => by (try dsimp only at hSw); go_simp⟩) (by assumption) ?_
  try simp only [List.getElem_toArray, List.getElem_cons_zero, List.getElem_cons_succ, Act.put, List.setIfInBounds_toArray, List.set_cons_zero, List.set_cons_succ]
  refine wpAnyH_take (i := 5) (v := .pointer (some ⟨X, 0, none⟩)) rfl (by kernel_rfl) (by kernel_rfl) (by kernel_rfl) (fun _ _ _ h => h) (Or.inl ⟨by rfl, fun w hSw => by (try dsimp only at hSw); go_simp⟩) (by assumption) ?_
  try simp only [List.getElem_toArray, List.getElem_cons_zero, List.getElem_cons_succ, Act.put, List.setIfInBounds_toArray, List.set_cons_zero, List.set_cons_succ]
  refine wpAnyH_take (i := 6) (v := .pointer (some ⟨X, 1, none⟩)) rfl (by kernel_rfl) (by kernel_rfl) (by kernel_rfl) (fun _ _ _ h => h) (Or.inl ⟨by rfl, fun w hSw => by (try dsimp only at hSw); go_simp⟩) (by assumption) ?_
  try simp only [List.getElem_toArray, List.getElem_cons_zero, List.getElem_cons_succ, Act.put, List.setIfInBounds_toArray, List.set_cons_zero, List.set_cons_succ]
  refine wpAnyH_take (i := 7) (v := .int .i64 p) rfl (by kernel_rfl) (by kernel_rfl) (by kernel_rfl) (fun _ _ _ h => h) (Or.inl ⟨by rfl, fun w hSw => by (try dsimp only at hSw); go_simp⟩) (by assumption) ?_
  try simp only [List.getElem_toArray, List.getElem_cons_zero, List.getElem_cons_succ, Act.put, List.setIfInBounds_toArray, List.set_cons_zero, List.set_cons_succ]
  refine wpAnyH_ready (rs := [8, 13]) (by kernel_rfl) (by simp) ?_
  refine AllReadyH.cons (i := 8) rfl (fun K hK => ?_) ?_
  · go_simp
    refine (hG _).mono ?_
    rintro e w3 ⟨rfl, h3⟩
    replace k0 := kept_trans k0 h3
    clear h3 hHeld
    show K _ _
    refine hK.out _ _ (in2 (in_kept A0 (by assumption))) (fun hHeld => ?_)
    clear hK K
    try simp only [List.getElem_toArray, List.getElem_cons_zero, List.getElem_cons_succ, Act.put, List.setIfInBounds_toArray, List.set_cons_zero, List.set_cons_succ]
    refine wpAnyH_take (i := 9) (v := .tuple #[.agg #[.string r.key, .int .u64 r.s.p, .int .u32 r.s.l, .int .u8 r.s.n, .int .u8 r.kind, .int .u32 r.flags, .int .u64 r.exp, .string r.body], .int .i64 q, .int .i64 (f : Int)]) rfl (by kernel_rfl) (by kernel_rfl) (by kernel_rfl) (fun _ _ _ h => h) (Or.inl ⟨by rfl, fun w hSw => by (try dsimp only at hSw); go_simp⟩) (by assumption) ?_
    try simp only [List.getElem_toArray, List.getElem_cons_zero, List.getElem_cons_succ, Act.put, List.setIfInBounds_toArray, List.set_cons_zero, List.set_cons_succ]
    refine wpAnyH_take (i := 10) (v := .agg #[.string r.key, .int .u64 r.s.p, .int .u32 r.s.l, .int .u8 r.s.n, .int .u8 r.kind, .int .u32 r.flags, .int .u64 r.exp, .string r.body]) rfl (by kernel_rfl) (by kernel_rfl) (by kernel_rfl) (fun _ _ _ h => h) (Or.inl ⟨by rfl, fun w hSw => by (try dsimp only at hSw); go_simp⟩) (by assumption) ?_
    try simp only [List.getElem_toArray, List.getElem_cons_zero, List.getElem_cons_succ, Act.put, List.setIfInBounds_toArray, List.set_cons_zero, List.set_cons_succ]
    refine wpAnyH_take (i := 11) (v := .int .i64 q) rfl (by kernel_rfl) (by kernel_rfl) (by kernel_rfl) (fun _ _ _ h => h) (Or.inl ⟨by rfl, fun w hSw => by (try dsimp only at hSw); go_simp⟩) (by assumption) ?_
    try simp only [List.getElem_toArray, List.getElem_cons_zero, List.getElem_cons_succ, Act.put, List.setIfInBounds_toArray, List.set_cons_zero, List.set_cons_succ]
    refine wpAnyH_take (i := 12) (v := .int .i64 (f : Int)) rfl (by kernel_rfl) (by kernel_rfl) (by kernel_rfl) (fun _ _ _ h => h) (Or.inl ⟨by rfl, fun w hSw => by (try dsimp only at hSw); go_simp⟩) (by assumption) ?_
    try simp only [List.getElem_toArray, List.getElem_cons_zero, List.getElem_cons_succ, Act.put, List.setIfInBounds_toArray, List.set_cons_zero, List.set_cons_succ]
    refine wpAnyH_ready (rs := [13]) (by kernel_rfl) (by simp) ?_
    refine AllReadyH.cons (i := 13) rfl (fun K hK => ?_) AllReadyH.nil
    have HAY := hid (at_new w3 #[.string ⟨#[]⟩, .int .u64 0, .int .u32 0, .int .u8 0, .int .u8 0, .int .u32 0, .int .u64 0, .string ⟨#[]⟩] 57)
    have hle := k0.2
    have k1 := kept_alloc k0 (.cells #[.string ⟨#[]⟩, .int .u64 0, .int .u32 0, .int .u8 0, .int .u8 0, .int .u32 0, .int .u64 0, .string ⟨#[]⟩] 57)
    clear k0
    go_simp
    clear hHeld
    show K _ (w3.alloc (.cells #[.string ⟨#[]⟩, .int .u64 0, .int .u32 0, .int .u8 0, .int .u8 0, .int .u32 0, .int .u64 0, .string ⟨#[]⟩] 57))
    generalize w3.alloc (.cells #[.string ⟨#[]⟩, .int .u64 0, .int .u32 0, .int .u8 0, .int .u8 0, .int .u32 0, .int .u64 0, .string ⟨#[]⟩] 57) = v1 at *
    generalize hYe : w3.heap.size = Y at HAY ⊢
    have HNY : Hid (wd.heap.size ≤ Y) := hid (by omega)
    clear hYe hle
    have k0 := k1
    clear k1
    refine hK.out _ _ (in2 (in_kept A0 (by assumption))) (fun hHeld => ?_)
    clear hK K
    try simp only [List.getElem_toArray, List.getElem_cons_zero, List.getElem_cons_succ, Act.put, List.setIfInBounds_toArray, List.set_cons_zero, List.set_cons_succ]
    refine wpAnyH_ready (rs := [14]) (by kernel_rfl) (by simp) ?_
    refine AllReadyH.cons (i := 14) rfl (fun K hK => ?_) AllReadyH.nil
    obtain ⟨d0, d1, d2, d3, d4, d5, d6, d7, df⟩ := at_cells8 HAY.out
    have HAY2 := hid (at_set8 HAY.out (.string r.key) (.int .u64 r.s.p) (.int .u32 r.s.l) (.int .u8 r.s.n) (.int .u8 r.kind) (.int .u32 r.flags) (.int .u64 r.exp) (.string r.body))
    have k1 := kept_set8 k0 HNY.out (.string r.key) (.int .u64 r.s.p) (.int .u32 r.s.l) (.int .u8 r.s.n) (.int .u8 r.kind) (.int .u32 r.flags) (.int .u64 r.exp) (.string r.body)
    clear k0
    go_simp
    clear d0 d1 d2 d3 d4 d5 d6 d7 df hHeld HAY
    show K _ (set8 v1 Y (.string r.key) (.int .u64 r.s.p) (.int .u32 r.s.l) (.int .u8 r.s.n) (.int .u8 r.kind) (.int .u32 r.flags) (.int .u64 r.exp) (.string r.body))
    generalize set8 v1 Y (.string r.key) (.int .u64 r.s.p) (.int .u32 r.s.l) (.int .u8 r.s.n) (.int .u8 r.kind) (.int .u32 r.flags) (.int .u64 r.exp) (.string r.body) = v2 at *
    have k0 := k1
    clear k1
    refine hK.out _ _ (in2 (in_kept A0 (by assumption))) (fun hHeld => ?_)
    clear hK K
    try simp only [List.getElem_toArray, List.getElem_cons_zero, List.getElem_cons_succ, Act.put, List.setIfInBounds_toArray, List.set_cons_zero, List.set_cons_succ]
    refine wpAnyH_take (i := 15) (v := .int .i64 q) rfl (by kernel_rfl) (by kernel_rfl) (by kernel_rfl) (fun _ _ _ h => h) (Or.inl ⟨by rfl, fun w hSw => by (try dsimp only at hSw); go_simp⟩) (by assumption) ?_
    try simp only [List.getElem_toArray, List.getElem_cons_zero, List.getElem_cons_succ, Act.put, List.setIfInBounds_toArray, List.set_cons_zero, List.set_cons_succ]
    refine wpAnyH_take (i := 16) (v := .int .i64 (f : Int)) rfl (by kernel_rfl) (by kernel_rfl) (by kernel_rfl) (fun _ _ _ h => h) (Or.inl ⟨by rfl, fun w hSw => by (try dsimp only at hSw); go_simp⟩) (by assumption) ?_
    try simp only [List.getElem_toArray, List.getElem_cons_zero, List.getElem_cons_succ, Act.put, List.setIfInBounds_toArray, List.set_cons_zero, List.set_cons_succ]
    refine wpAnyH_done (by kernel_rfl) ?_ _
    refine NoPanic.normal ?_
    clear hHeld
    have A1 := in_kept A0 k0
    have HT1 := hid (HT0.out.trans (turn_kept (c := X) k0))
    have HR1 := hid (at_kept HR.out k0)
    have HN : Hid (X ≠ w.heap.size ∧ w.heap.size ≠ Y) := hid ⟨Nat.ne_of_lt hXw, by have := HBN.out; have := HNY.out; omega⟩
    clear A0 k0 HT0 HR
    by_cases hf : f = 0
    · subst hf
      have HE2 : Hid (RR = (r, (q, 0))) := hid (by rw [HE.out, if_pos rfl])
      have HT2 := hid (turn_set HT1.out 1 (.int .i64 q))
      have HI2 := hid (in_set A1 q)
      have HR2 := hid (at_other HR1.out (Ne.symm HN.out.1) 1 (.int .i64 q))
      have HY2 := hid (at_other HAY2.out (show Y ≠ X by have := HNY.out; have := HBN.out; omega) 1 (.int .i64 q))
      clear HT1 HR1 HAY2 HE
      go_wp2_with fail
      refine (pass_yes X s p q _ A1).mono ?_
      rintro e w4 ⟨rfl, rfl⟩
      generalize v2.setCell ⟨X, 1, none⟩ (.int .i64 q) = v3 at *
      obtain ⟨d0, d1, d2, d3, d4, d5, d6, d7, df⟩ := at_cells8 HY2.out
      obtain ⟨r0, r1, r2, r3, r4, r5, r6, r7, rf⟩ := at_cells8 HR2.out
      have HRe := hid (at_set8 HR2.out (.string r.key) (.int .u64 r.s.p) (.int .u32 r.s.l) (.int .u8 r.s.n) (.int .u8 r.kind) (.int .u32 r.flags) (.int .u64 r.exp) (.string r.body))
      have HIe := hid (at_other8 HI2.out HN.out.1 (.string r.key) (.int .u64 r.s.p) (.int .u32 r.s.l) (.int .u8 r.s.n) (.int .u8 r.kind) (.int .u32 r.flags) (.int .u64 r.exp) (.string r.body))
      have HTe := hid (turn_new8 HT2.out (Nat.le_refl _) (.string r.key) (.int .u64 r.s.p) (.int .u32 r.s.l) (.int .u8 r.s.n) (.int .u8 r.kind) (.int .u32 r.flags) (.int .u64 r.exp) (.string r.body))
      have n1 := HN.out.2
      have n2 := Ne.symm HN.out.2
      clear A1 HT2 HI2 HR2 HY2 HNY HBN hG HI0 hXw
      go_wp2_with fail
      exact bodyPost_ret (res1 Tryz.results104 _ rfl HRe.out) rfl (rdc_ok HE2.out rfl HIe.out HTe.out)
    · have HE2 : Hid (RR = (zeroR, (p, f))) := hid (by rw [HE.out, if_neg hf])
      clear HR1 HAY2 HE hG
      go_wp2_with fail
      refine (pass_no _ _ f hf _).mono ?_
      rintro e w4 ⟨rfl, rfl⟩
      go_wp2_with fail
      exact ⟨rfl, rdc_no HE2.out hf rfl HT1.out⟩
  refine AllReadyH.cons (i := 13) rfl (fun K hK => ?_) AllReadyH.nil
  have HAY := hid (at_new wd #[.string ⟨#[]⟩, .int .u64 0, .int .u32 0, .int .u8 0, .int .u8 0, .int .u32 0, .int .u64 0, .string ⟨#[]⟩] 57)
  have hle := k0.2
  have k1 := kept_alloc k0 (.cells #[.string ⟨#[]⟩, .int .u64 0, .int .u32 0, .int .u8 0, .int .u8 0, .int .u32 0, .int .u64 0, .string ⟨#[]⟩] 57)
  clear k0
  go_simp
  clear hHeld
  show K _ (wd.alloc (.cells #[.string ⟨#[]⟩, .int .u64 0, .int .u32 0, .int .u8 0, .int .u8 0, .int .u32 0, .int .u64 0, .string ⟨#[]⟩] 57))
  generalize wd.alloc (.cells #[.string ⟨#[]⟩, .int .u64 0, .int .u32 0, .int .u8 0, .int .u8 0, .int .u32 0, .int .u64 0, .string ⟨#[]⟩] 57) = v1 at *
  generalize hYe : wd.heap.size = Y at HAY ⊢
  have HNY : Hid (wd.heap.size ≤ Y) := hid (by omega)
  clear hYe hle
  have k0 := k1
  clear k1
  refine hK.out _ _ (in2 (in_kept A0 (by assumption))) (fun hHeld => ?_)
  clear hK K
  try simp only [List.getElem_toArray, List.getElem_cons_zero, List.getElem_cons_succ, Act.put, List.setIfInBounds_toArray, List.set_cons_zero, List.set_cons_succ]
  refine wpAnyH_ready (rs := [8]) (by kernel_rfl) (by simp) ?_
  refine AllReadyH.cons (i := 8) rfl (fun K hK => ?_) AllReadyH.nil
  go_simp
  refine (hG _).mono ?_
  rintro e w3 ⟨rfl, h3⟩
  replace HAY := hid (at_kept HAY.out h3)
  replace k0 := kept_trans k0 h3
  clear h3 hHeld
  show K _ _
  refine hK.out _ _ (in2 (in_kept A0 (by assumption))) (fun hHeld => ?_)
  clear hK K
  try simp only [List.getElem_toArray, List.getElem_cons_zero, List.getElem_cons_succ, Act.put, List.setIfInBounds_toArray, List.set_cons_zero, List.set_cons_succ]
  refine wpAnyH_take (i := 9) (v := .tuple #[.agg #[.string r.key, .int .u64 r.s.p, .int .u32 r.s.l, .int .u8 r.s.n, .int .u8 r.kind, .int .u32 r.flags, .int .u64 r.exp, .string r.body], .int .i64 q, .int .i64 (f : Int)]) rfl (by kernel_rfl) (by kernel_rfl) (by kernel_rfl) (fun _ _ _ h => h) (Or.inl ⟨by rfl, fun w hSw => by (try dsimp only at hSw); go_simp⟩) (by assumption) ?_
  try simp only [List.getElem_toArray, List.getElem_cons_zero, List.getElem_cons_succ, Act.put, List.setIfInBounds_toArray, List.set_cons_zero, List.set_cons_succ]
  refine wpAnyH_take (i := 10) (v := .agg #[.string r.key, .int .u64 r.s.p, .int .u32 r.s.l, .int .u8 r.s.n, .int .u8 r.kind, .int .u32 r.flags, .int .u64 r.exp, .string r.body]) rfl (by kernel_rfl) (by kernel_rfl) (by kernel_rfl) (fun _ _ _ h => h) (Or.inl ⟨by rfl, fun w hSw => by (try dsimp only at hSw); go_simp⟩) (by assumption) ?_
  try simp only [List.getElem_toArray, List.getElem_cons_zero, List.getElem_cons_succ, Act.put, List.setIfInBounds_toArray, List.set_cons_zero, List.set_cons_succ]
  refine wpAnyH_take (i := 11) (v := .int .i64 q) rfl (by kernel_rfl) (by kernel_rfl) (by kernel_rfl) (fun _ _ _ h => h) (Or.inl ⟨by rfl, fun w hSw => by (try dsimp only at hSw); go_simp⟩) (by assumption) ?_
  try simp only [List.getElem_toArray, List.getElem_cons_zero, List.getElem_cons_succ, Act.put, List.setIfInBounds_toArray, List.set_cons_zero, List.set_cons_succ]
  refine wpAnyH_take (i := 12) (v := .int .i64 (f : Int)) rfl (by kernel_rfl) (by kernel_rfl) (by kernel_rfl) (fun _ _ _ h => h) (Or.inl ⟨by rfl, fun w hSw => by (try dsimp only at hSw); go_simp⟩) (by assumption) ?_
  try simp only [List.getElem_toArray, List.getElem_cons_zero, List.getElem_cons_succ, Act.put, List.setIfInBounds_toArray, List.set_cons_zero, List.set_cons_succ]
  refine wpAnyH_ready (rs := [14]) (by kernel_rfl) (by simp) ?_
  refine AllReadyH.cons (i := 14) rfl (fun K hK => ?_) AllReadyH.nil
  obtain ⟨d0, d1, d2, d3, d4, d5, d6, d7, df⟩ := at_cells8 HAY.out
  have HAY2 := hid (at_set8 HAY.out (.string r.key) (.int .u64 r.s.p) (.int .u32 r.s.l) (.int .u8 r.s.n) (.int .u8 r.kind) (.int .u32 r.flags) (.int .u64 r.exp) (.string r.body))
  have k1 := kept_set8 k0 HNY.out (.string r.key) (.int .u64 r.s.p) (.int .u32 r.s.l) (.int .u8 r.s.n) (.int .u8 r.kind) (.int .u32 r.flags) (.int .u64 r.exp) (.string r.body)
  clear k0
  go_simp
  clear d0 d1 d2 d3 d4 d5 d6 d7 df hHeld HAY
  show K _ (set8 w3 Y (.string r.key) (.int .u64 r.s.p) (.int .u32 r.s.l) (.int .u8 r.s.n) (.int .u8 r.kind) (.int .u32 r.flags) (.int .u64 r.exp) (.string r.body))
  generalize set8 w3 Y (.string r.key) (.int .u64 r.s.p) (.int .u32 r.s.l) (.int .u8 r.s.n) (.int .u8 r.kind) (.int .u32 r.flags) (.int .u64 r.exp) (.string r.body) = v2 at *
  have k0 := k1
  clear k1
  refine hK.out _ _ (in2 (in_kept A0 (by assumption))) (fun hHeld => ?_)
  clear hK K
  try simp only [List.getElem_toArray, List.getElem_cons_zero, List.getElem_cons_succ, Act.put, List.setIfInBounds_toArray, List.set_cons_zero, List.set_cons_succ]
  refine wpAnyH_take (i := 15) (v := .int .i64 q) rfl (by kernel_rfl) (by kernel_rfl) (by kernel_rfl) (fun _ _ _ h => h) (Or.inl ⟨by rfl, fun w hSw => by (try dsimp only at hSw); go_simp⟩) (by assumption) ?_
  try simp only [List.getElem_toArray, List.getElem_cons_zero, List.getElem_cons_succ, Act.put, List.setIfInBounds_toArray, List.set_cons_zero, List.set_cons_succ]
  refine wpAnyH_take (i := 16) (v := .int .i64 (f : Int)) rfl (by kernel_rfl) (by kernel_rfl) (by kernel_rfl) (fun _ _ _ h => h) (Or.inl ⟨by rfl, fun w hSw => by (try dsimp only at hSw); go_simp⟩) (by assumption) ?_
  try simp only [List.getElem_toArray, List.getElem_cons_zero, List.getElem_cons_succ, Act.put, List.setIfInBounds_toArray, List.set_cons_zero, List.set_cons_succ]
  refine wpAnyH_done (by kernel_rfl) ?_ _
  refine NoPanic.normal ?_
  clear hHeld
  have A1 := in_kept A0 k0
  have HT1 := hid (HT0.out.trans (turn_kept (c := X) k0))
  have HR1 := hid (at_kept HR.out k0)
  have HN : Hid (X ≠ w.heap.size ∧ w.heap.size ≠ Y) := hid ⟨Nat.ne_of_lt hXw, by have := HBN.out; have := HNY.out; omega⟩
  clear A0 k0 HT0 HR
  by_cases hf : f = 0
  · subst hf
    have HE2 : Hid (RR = (r, (q, 0))) := hid (by rw [HE.out, if_pos rfl])
    have HT2 := hid (turn_set HT1.out 1 (.int .i64 q))
    have HI2 := hid (in_set A1 q)
    have HR2 := hid (at_other HR1.out (Ne.symm HN.out.1) 1 (.int .i64 q))
    have HY2 := hid (at_other HAY2.out (show Y ≠ X by have := HNY.out; have := HBN.out; omega) 1 (.int .i64 q))
    clear HT1 HR1 HAY2 HE
    go_wp2_with fail
    refine (pass_yes X s p q _ A1).mono ?_
    rintro e w4 ⟨rfl, rfl⟩
    generalize v2.setCell ⟨X, 1, none⟩ (.int .i64 q) = v3 at *
    obtain ⟨d0, d1, d2, d3, d4, d5, d6, d7, df⟩ := at_cells8 HY2.out
    obtain ⟨r0, r1, r2, r3, r4, r5, r6, r7, rf⟩ := at_cells8 HR2.out
    have HRe := hid (at_set8 HR2.out (.string r.key) (.int .u64 r.s.p) (.int .u32 r.s.l) (.int .u8 r.s.n) (.int .u8 r.kind) (.int .u32 r.flags) (.int .u64 r.exp) (.string r.body))
    have HIe := hid (at_other8 HI2.out HN.out.1 (.string r.key) (.int .u64 r.s.p) (.int .u32 r.s.l) (.int .u8 r.s.n) (.int .u8 r.kind) (.int .u32 r.flags) (.int .u64 r.exp) (.string r.body))
    have HTe := hid (turn_new8 HT2.out (Nat.le_refl _) (.string r.key) (.int .u64 r.s.p) (.int .u32 r.s.l) (.int .u8 r.s.n) (.int .u8 r.kind) (.int .u32 r.flags) (.int .u64 r.exp) (.string r.body))
    have n1 := HN.out.2
    have n2 := Ne.symm HN.out.2
    clear A1 HT2 HI2 HR2 HY2 HNY HBN hG HI0 hXw
    go_wp2_with fail
    exact bodyPost_ret (res1 Tryz.results104 _ rfl HRe.out) rfl (rdc_ok HE2.out rfl HIe.out HTe.out)
  · have HE2 : Hid (RR = (zeroR, (p, f))) := hid (by rw [HE.out, if_neg hf])
    clear HR1 HAY2 HE hG
    go_wp2_with fail
    refine (pass_no _ _ f hf _).mono ?_
    rintro e w4 ⟨rfl, rfl⟩
    go_wp2_with fail
    exact ⟨rfl, rdc_no HE2.out hf rfl HT1.out⟩
end Go.Proofs.YtioeidhblbfgmaaGreat
