/- The chapter's example, out of what the landed hints must answer. -/
import Derived.Test.YtahgplfkgijecaaHtT
import Derived.Test.YtahgplfkgijecaaRgRef
namespace Go.Proofs.Ytahgplfkgijecaa
open Go.ChangeShapes Go.WideShapes Go.ChangeAt Go.RowKit
set_option linter.unusedVariables false
set_option linter.unusedSimpArgs false
set_option maxRecDepth 100000

theorem zeroRv (w : World) : (zeroValue 35).run Try.prog w = .ok (.agg #[.string ⟨#[]⟩, .int .u64 0, .int .u32 0, .int .u8 0, .int .u8 0, .int .u32 0, .int .u64 0, .string ⟨#[]⟩]) w := by kernel_rfl
theorem zeroSv (w : World) : (zeroValue 33).run Try.prog w = .ok (.agg #[.int .u64 0, .int .u32 0, .int .u8 0]) w := by kernel_rfl
theorem exA_ok : exA.ok ∧ Sml exA := by
  refine ⟨?_, ?_⟩
  · unfold R.ok exA Stp.ok maxLen; decide
  · unfold Sml; decide
theorem exB_ok : exB.ok ∧ Sml exB := by
  refine ⟨?_, ?_⟩
  · unfold R.ok exB Stp.ok maxLen; decide
  · unfold Sml; decide
theorem hg_one (f : Nat → Bool) : Hg 1 [⟨exA, f⟩] := ⟨by decide, by decide, by simp, ⟨by simp, trivial⟩, fun h hm => by
  simp at hm
  subst hm
  exact ⟨(bad_not ex_may.1).1, (bad_not ex_may.1).2, exA_ok.1⟩⟩
theorem at_cells8' {w : World} {X T : Nat} {a0 a1 a2 a3 a4 a5 a6 a7 : Value} (h : At w X #[a0, a1, a2, a3, a4, a5, a6, a7] T) : w.cell? ⟨X, 0, none⟩ = some a0 ∧ w.cell? ⟨X, 1, none⟩ = some a1 ∧ w.cell? ⟨X, 2, none⟩ = some a2 ∧ w.cell? ⟨X, 3, none⟩ = some a3 ∧ w.cell? ⟨X, 4, none⟩ = some a4 ∧ w.cell? ⟨X, 5, none⟩ = some a5 ∧ w.cell? ⟨X, 6, none⟩ = some a6 ∧ w.cell? ⟨X, 7, none⟩ = some a7 :=
  ⟨at_cell h 0, at_cell h 1, at_cell h 2, at_cell h 3, at_cell h 4, at_cell h 5, at_cell h 6, at_cell h 7⟩
def SAB (u : World) (Za Zb : Nat) : Prop := At u Za #[.string ⟨#[97]⟩, .int .u64 5, .int .u32 0, .int .u8 0, .int .u8 2, .int .u32 0, .int .u64 0, .string ⟨#[]⟩] 35 ∧ At u Zb #[.string ⟨#[98]⟩, .int .u64 5, .int .u32 0, .int .u8 0, .int .u8 2, .int .u32 0, .int .u64 0, .string ⟨#[]⟩] 35
theorem sab_cells {u : World} {Za Zb : Nat} (h : SAB u Za Zb) : (u.cell? ⟨Za, 0, none⟩ = some (.string ⟨#[97]⟩)) ∧ (u.cell? ⟨Za, 1, none⟩ = some (.int .u64 5)) ∧ (u.cell? ⟨Za, 2, none⟩ = some (.int .u32 0)) ∧ (u.cell? ⟨Za, 3, none⟩ = some (.int .u8 0)) ∧ (u.cell? ⟨Za, 4, none⟩ = some (.int .u8 2)) ∧ (u.cell? ⟨Za, 5, none⟩ = some (.int .u32 0)) ∧ (u.cell? ⟨Za, 6, none⟩ = some (.int .u64 0)) ∧ (u.cell? ⟨Za, 7, none⟩ = some (.string ⟨#[]⟩)) ∧ (u.cell? ⟨Zb, 0, none⟩ = some (.string ⟨#[98]⟩)) ∧ (u.cell? ⟨Zb, 1, none⟩ = some (.int .u64 5)) ∧ (u.cell? ⟨Zb, 2, none⟩ = some (.int .u32 0)) ∧ (u.cell? ⟨Zb, 3, none⟩ = some (.int .u8 0)) ∧ (u.cell? ⟨Zb, 4, none⟩ = some (.int .u8 2)) ∧ (u.cell? ⟨Zb, 5, none⟩ = some (.int .u32 0)) ∧ (u.cell? ⟨Zb, 6, none⟩ = some (.int .u64 0)) ∧ (u.cell? ⟨Zb, 7, none⟩ = some (.string ⟨#[]⟩)) := by
  obtain ⟨a0, a1, a2, a3, a4, a5, a6, a7⟩ := at_cells8' h.1
  obtain ⟨b0, b1, b2, b3, b4, b5, b6, b7⟩ := at_cells8' h.2
  exact ⟨a0, a1, a2, a3, a4, a5, a6, a7, b0, b1, b2, b3, b4, b5, b6, b7⟩
set_option maxHeartbeats 6400000 in
theorem fixed_any {T : Shape Hs} (hT : HintsIs T) (w : World) : Calls Try.prog 9 #[] w fun e w' => e = .returned (.bool true) ∧ Kept w w' := by
  have HT := hid hT
  have hN := ht_new (T := T) (W := w) (n := 1) hT (kept_refl w) (by decide) (by decide)
  have hz := zeroRv
  have hzs := zeroSv
  clear hT
  go_enter Try.func9, Try.ntmps9
  go_wp2_with fail
  refine hN.mono ?_
  rintro e w1 ⟨X, F, rfl, t1, -⟩
  have ka := kept_alloc (kept_refl w1) (.cells #[.string ⟨#[97]⟩, .int .u64 5, .int .u32 0, .int .u8 0, .int .u8 2, .int .u32 0, .int .u64 0, .string ⟨#[]⟩] 35)
  have aa := at_new w1 #[.string ⟨#[97]⟩, .int .u64 5, .int .u32 0, .int .u8 0, .int .u8 2, .int .u32 0, .int .u64 0, .string ⟨#[]⟩] 35
  have t2 := tt_kept HT.out.obj t1 ka
  have oa := off_new HT.out.obj t1 (Nat.le_refl _) (at_lt aa)
  have kb := kept_alloc (kept_refl (w1.alloc (.cells #[.string ⟨#[97]⟩, .int .u64 5, .int .u32 0, .int .u8 0, .int .u8 2, .int .u32 0, .int .u64 0, .string ⟨#[]⟩] 35))) (.cells #[.string ⟨#[98]⟩, .int .u64 5, .int .u32 0, .int .u8 0, .int .u8 2, .int .u32 0, .int .u64 0, .string ⟨#[]⟩] 35)
  have ab := at_new (w1.alloc (.cells #[.string ⟨#[97]⟩, .int .u64 5, .int .u32 0, .int .u8 0, .int .u8 2, .int .u32 0, .int .u64 0, .string ⟨#[]⟩] 35)) #[.string ⟨#[98]⟩, .int .u64 5, .int .u32 0, .int .u8 0, .int .u8 2, .int .u32 0, .int .u64 0, .string ⟨#[]⟩] 35
  have HT3 := hid (tt_kept HT.out.obj t2 kb)
  have ob := off_new HT.out.obj t2 (Nat.le_refl _) (at_lt ab)
  have HAB : Hid (SAB _ _ _ ∧ Off _ F _ ∧ Off _ F _) := hid ⟨⟨at_kept aa kb, ab⟩, off_kept oa kb, ob⟩
  clear ka aa t2 oa kb ab ob t1 hN
  go_wp2_with fail
  have hsz : (w1.alloc (.cells #[.string ⟨#[97]⟩, .int .u64 5, .int .u32 0, .int .u8 0, .int .u8 2, .int .u32 0, .int .u64 0, .string ⟨#[]⟩] 35)).heap.size = w1.heap.size + 1 := by show (w1.heap.push _).size = _; simp
  rw [hsz] at HAB
  clear hsz
  generalize (w1.alloc (.cells #[.string ⟨#[97]⟩, .int .u64 5, .int .u32 0, .int .u8 0, .int .u8 2, .int .u32 0, .int .u64 0, .string ⟨#[]⟩] 35)).alloc (.cells #[.string ⟨#[98]⟩, .int .u64 5, .int .u32 0, .int .u8 0, .int .u8 2, .int .u32 0, .int .u64 0, .string ⟨#[]⟩] 35) = w3 at *
  generalize w1.heap.size = Za at *
  generalize Za + 1 = Zb at *
  have kd : Kept w3 w3.drew := kept_drew (kept_refl w3)
  have hA1 := ht_add HT.out (tt_kept HT.out.obj HT3.out kd) (hg_nil (by decide) (by decide)) exA_ok.1 exA_ok.2
  rw [ex1.1, ex1.2] at hA1
  have HB : Hid (∀ F5 w5, TT T w X ⟨1, [⟨exA, nob⟩]⟩ F5 w5 → Calls Try.prog 12 #[.pointer (some ⟨X, 0, none⟩), .agg #[.string ⟨#[98]⟩, .int .u64 5, .int .u32 0, .int .u8 0, .int .u8 2, .int .u32 0, .int .u64 0, .string ⟨#[]⟩]] w5 fun e w' => ∃ F', e = .returned (.int .i64 6) ∧ TT T w X ⟨1, [⟨exA, nob⟩]⟩ F' w' ∧ Sd F5 w5 F' w') := hid (fun F5 w5 t5 => by
    have h := ht_add HT.out t5 (hg_one nob) exB_ok.1 exB_ok.2
    rw [ex2.1, ex2.2] at h
    exact h)
  have HN5 : Hid (∀ F5 w5, TT T w X ⟨1, [⟨exA, nob⟩]⟩ F5 w5 → Sd F w3.drew F5 w5 → (let u := w5; (u.cell? ⟨Za, 0, none⟩ = some (.string ⟨#[97]⟩)) ∧ (u.cell? ⟨Za, 1, none⟩ = some (.int .u64 5)) ∧ (u.cell? ⟨Za, 2, none⟩ = some (.int .u32 0)) ∧ (u.cell? ⟨Za, 3, none⟩ = some (.int .u8 0)) ∧ (u.cell? ⟨Za, 4, none⟩ = some (.int .u8 2)) ∧ (u.cell? ⟨Za, 5, none⟩ = some (.int .u32 0)) ∧ (u.cell? ⟨Za, 6, none⟩ = some (.int .u64 0)) ∧ (u.cell? ⟨Za, 7, none⟩ = some (.string ⟨#[]⟩)) ∧ (u.cell? ⟨Zb, 0, none⟩ = some (.string ⟨#[98]⟩)) ∧ (u.cell? ⟨Zb, 1, none⟩ = some (.int .u64 5)) ∧ (u.cell? ⟨Zb, 2, none⟩ = some (.int .u32 0)) ∧ (u.cell? ⟨Zb, 3, none⟩ = some (.int .u8 0)) ∧ (u.cell? ⟨Zb, 4, none⟩ = some (.int .u8 2)) ∧ (u.cell? ⟨Zb, 5, none⟩ = some (.int .u32 0)) ∧ (u.cell? ⟨Zb, 6, none⟩ = some (.int .u64 0)) ∧ (u.cell? ⟨Zb, 7, none⟩ = some (.string ⟨#[]⟩))) ∧ Calls Try.prog 12 #[.pointer (some ⟨X, 0, none⟩), .agg #[.string ⟨#[98]⟩, .int .u64 5, .int .u32 0, .int .u8 0, .int .u8 2, .int .u32 0, .int .u64 0, .string ⟨#[]⟩]] w5 (fun e w' => ∃ F', e = .returned (.int .i64 6) ∧ TT T w X ⟨1, [⟨exA, nob⟩]⟩ F' w' ∧ Sd F5 w5 F' w') ∧ (∀ F6 w6, TT T w X ⟨1, [⟨exA, nob⟩]⟩ F6 w6 → Sd F5 w5 F6 w6 → (let u := w6; (u.cell? ⟨Za, 0, none⟩ = some (.string ⟨#[97]⟩)) ∧ (u.cell? ⟨Za, 1, none⟩ = some (.int .u64 5)) ∧ (u.cell? ⟨Za, 2, none⟩ = some (.int .u32 0)) ∧ (u.cell? ⟨Za, 3, none⟩ = some (.int .u8 0)) ∧ (u.cell? ⟨Za, 4, none⟩ = some (.int .u8 2)) ∧ (u.cell? ⟨Za, 5, none⟩ = some (.int .u32 0)) ∧ (u.cell? ⟨Za, 6, none⟩ = some (.int .u64 0)) ∧ (u.cell? ⟨Za, 7, none⟩ = some (.string ⟨#[]⟩)) ∧ (u.cell? ⟨Zb, 0, none⟩ = some (.string ⟨#[98]⟩)) ∧ (u.cell? ⟨Zb, 1, none⟩ = some (.int .u64 5)) ∧ (u.cell? ⟨Zb, 2, none⟩ = some (.int .u32 0)) ∧ (u.cell? ⟨Zb, 3, none⟩ = some (.int .u8 0)) ∧ (u.cell? ⟨Zb, 4, none⟩ = some (.int .u8 2)) ∧ (u.cell? ⟨Zb, 5, none⟩ = some (.int .u32 0)) ∧ (u.cell? ⟨Zb, 6, none⟩ = some (.int .u64 0)) ∧ (u.cell? ⟨Zb, 7, none⟩ = some (.string ⟨#[]⟩))) ∧ TT T w X ⟨1, [⟨exA, nob⟩]⟩ F6 w6)) := hid (fun F5 w5 t5 d5 => by
    obtain ⟨sab, oa, ob⟩ := HAB.out
    have s5 : SAB w5 Za Zb := ⟨at_sd (at_drew sab.1) oa d5, at_sd (at_drew sab.2) ob d5⟩
    have oa5 := off_sd (w := w3.drew) oa d5
    have ob5 := off_sd (w := w3.drew) ob d5
    exact ⟨sab_cells s5, HB.out F5 w5 t5, fun F6 w6 t6 d6 => ⟨sab_cells ⟨at_sd s5.1 oa5 d6, at_sd s5.2 ob5 d6⟩, t6⟩⟩)
  have hS0 := sab_cells HAB.out.1
  have hS := sab_cells (u := w3.drew) HAB.out.1
  clear kd HB HT3 HAB
  refine wp_region_noPanic ?_
  refine wp_region_held_drew (S := (fun w' => (w'.cell? ⟨Za, 0, none⟩ = some (.string ⟨#[97]⟩)) ∧ (w'.cell? ⟨Za, 1, none⟩ = some (.int .u64 5)) ∧ (w'.cell? ⟨Za, 2, none⟩ = some (.int .u32 0)) ∧ (w'.cell? ⟨Za, 3, none⟩ = some (.int .u8 0)) ∧ (w'.cell? ⟨Za, 4, none⟩ = some (.int .u8 2)) ∧ (w'.cell? ⟨Za, 5, none⟩ = some (.int .u32 0)) ∧ (w'.cell? ⟨Za, 6, none⟩ = some (.int .u64 0)) ∧ (w'.cell? ⟨Za, 7, none⟩ = some (.string ⟨#[]⟩)) ∧ (w'.cell? ⟨Zb, 0, none⟩ = some (.string ⟨#[98]⟩)) ∧ (w'.cell? ⟨Zb, 1, none⟩ = some (.int .u64 5)) ∧ (w'.cell? ⟨Zb, 2, none⟩ = some (.int .u32 0)) ∧ (w'.cell? ⟨Zb, 3, none⟩ = some (.int .u8 0)) ∧ (w'.cell? ⟨Zb, 4, none⟩ = some (.int .u8 2)) ∧ (w'.cell? ⟨Zb, 5, none⟩ = some (.int .u32 0)) ∧ (w'.cell? ⟨Zb, 6, none⟩ = some (.int .u64 0)) ∧ (w'.cell? ⟨Zb, 7, none⟩ = some (.string ⟨#[]⟩)))) (by kernel_rfl) (by assumption) (fun hHeld => ?_)
  generalize w3.drew = wd at *
  refine wpAnyH_take (i := 0) (v := .pointer (some ⟨X, 0, none⟩)) rfl (by kernel_rfl) (by kernel_rfl) (by kernel_rfl) (fun _ _ _ h => h) (Or.inl ⟨by rfl, fun w hSw => by (try dsimp only at hSw); go_simp⟩) (by assumption) ?_
  try simp only [List.getElem_toArray, List.getElem_cons_zero, List.getElem_cons_succ, Act.put, List.setIfInBounds_toArray, List.set_cons_zero, List.set_cons_succ]
  refine wpAnyH_take (i := 1) (v := .agg #[.string ⟨#[97]⟩, .int .u64 5, .int .u32 0, .int .u8 0, .int .u8 2, .int .u32 0, .int .u64 0, .string ⟨#[]⟩]) rfl (by kernel_rfl) (by kernel_rfl) (by kernel_rfl) (fun _ _ _ h => h) (Or.inl ⟨by rfl, fun w hSw => by (try dsimp only at hSw); go_simp⟩) (by assumption) ?_
  try simp only [List.getElem_toArray, List.getElem_cons_zero, List.getElem_cons_succ, Act.put, List.setIfInBounds_toArray, List.set_cons_zero, List.set_cons_succ]
  refine wpAnyH_take (i := 3) (v := .pointer (some ⟨X, 0, none⟩)) rfl (by kernel_rfl) (by kernel_rfl) (by kernel_rfl) (fun _ _ _ h => h) (Or.inl ⟨by rfl, fun w hSw => by (try dsimp only at hSw); go_simp⟩) (by assumption) ?_
  try simp only [List.getElem_toArray, List.getElem_cons_zero, List.getElem_cons_succ, Act.put, List.setIfInBounds_toArray, List.set_cons_zero, List.set_cons_succ]
  refine wpAnyH_take (i := 4) (v := .agg #[.string ⟨#[98]⟩, .int .u64 5, .int .u32 0, .int .u8 0, .int .u8 2, .int .u32 0, .int .u64 0, .string ⟨#[]⟩]) rfl (by kernel_rfl) (by kernel_rfl) (by kernel_rfl) (fun _ _ _ h => h) (Or.inl ⟨by rfl, fun w hSw => by (try dsimp only at hSw); go_simp⟩) (by assumption) ?_
  try simp only [List.getElem_toArray, List.getElem_cons_zero, List.getElem_cons_succ, Act.put, List.setIfInBounds_toArray, List.set_cons_zero, List.set_cons_succ]
  refine wpAnyH_ready (rs := [2]) (by kernel_rfl) (by simp) ?_
  refine AllReadyH.cons (i := 2) rfl (fun K hK => ?_) AllReadyH.nil
  go_simp
  refine (hA1).mono ?_
  rintro e w5 ⟨F5, rfl, t5, d5⟩
  obtain ⟨h5a, h5b, h5c⟩ := HN5.out F5 w5 t5 d5
  have H5c := hid h5c
  have hS := h5a
  clear t5 d5 hA1 h5a h5c
  clear hHeld
  show K _ _
  refine hK.out _ _ (by assumption) (fun hHeld => ?_)
  clear hK K
  try simp only [List.getElem_toArray, List.getElem_cons_zero, List.getElem_cons_succ, Act.put, List.setIfInBounds_toArray, List.set_cons_zero, List.set_cons_succ]
  refine wpAnyH_ready (rs := [5]) (by kernel_rfl) (by simp) ?_
  refine AllReadyH.cons (i := 5) rfl (fun K hK => ?_) AllReadyH.nil
  go_simp
  refine (h5b).mono ?_
  rintro e w6 ⟨F6, rfl, t6, d6⟩
  obtain ⟨h6a, h6b⟩ := H5c.out F6 w6 t6 d6
  have H6b := hid h6b
  have hS := h6a
  clear t6 d6 h5b h6a h6b
  clear hHeld
  show K _ _
  refine hK.out _ _ (by assumption) (fun hHeld => ?_)
  clear hK K
  try simp only [List.getElem_toArray, List.getElem_cons_zero, List.getElem_cons_succ, Act.put, List.setIfInBounds_toArray, List.set_cons_zero, List.set_cons_succ]
  refine wpAnyH_take (i := 6) (v := .int .i64 0) rfl (by kernel_rfl) (by kernel_rfl) (by kernel_rfl) (fun _ _ _ h => h) (Or.inl ⟨by rfl, fun w hSw => by (try dsimp only at hSw); go_simp⟩) (by assumption) ?_
  try simp only [List.getElem_toArray, List.getElem_cons_zero, List.getElem_cons_succ, Act.put, List.setIfInBounds_toArray, List.set_cons_zero, List.set_cons_succ]
  refine wpAnyH_take (i := 7) (v := .int .i64 6) rfl (by kernel_rfl) (by kernel_rfl) (by kernel_rfl) (fun _ _ _ h => h) (Or.inl ⟨by rfl, fun w hSw => by (try dsimp only at hSw); go_simp⟩) (by assumption) ?_
  try simp only [List.getElem_toArray, List.getElem_cons_zero, List.getElem_cons_succ, Act.put, List.setIfInBounds_toArray, List.set_cons_zero, List.set_cons_succ]
  refine wpAnyH_done (by kernel_rfl) ?_ _
  refine NoPanic.normal ?_
  clear hHeld hS
  have hK1 := ht_ack (key := ⟨#[97]⟩) (st := ⟨4, 0, 0⟩) (node := 1) HT.out H6b.out (hg_one nob) (by decide) (by unfold Stp.ok; decide) (by decide) (by decide)
  rw [ex3, ex3b] at hK1
  clear H6b HN5 H5c
  go_wp2_with fail
  refine hK1.mono ?_
  rintro e w7 ⟨F7, rfl, t7, -⟩
  have hK2 := ht_ack (key := ⟨#[97]⟩) (st := ⟨5, 0, 0⟩) (node := 1) HT.out t7 (hg_one nob) (by decide) (by unfold Stp.ok; decide) (by decide) (by decide)
  rw [ex4, ex4b] at hK2
  clear t7 hK1
  go_wp2_with fail
  refine hK2.mono ?_
  rintro e w8 ⟨F8, rfl, t8, -⟩
  have ku := kept_alloc (kept_refl w8) (.cells #[.int .u8 1] 5)
  have hSt := ht_settle (up := [1]) HT.out (tt_kept HT.out.obj t8 ku) (hg_one (more nob 1)) (fun n hn => by simp at hn; omega) (by decide) (rg_own encU_ok (og_built encU_ok 5 w8 w8.heap.size (Nat.le_refl _) [1] (by decide))) (fun _ g hg hf => by
    injection hg with hg
    subst hg
    exact Nat.lt_irrefl _ (HT.out.obj.lt t8.t hf))
  rw [ex6] at hSt
  clear t8 hK2 ku
  go_wp2_with fail
  refine hSt.mono ?_
  rintro e w9 ⟨F9, rfl, t9, -⟩
  have hL := ht_len HT.out t9 (hg_nil (by decide) (by decide))
  clear t9 hSt
  go_wp2_with fail
  refine hL.mono ?_
  rintro e wz ⟨rfl, tz, -⟩
  have HK := hid tz.k
  clear tz hL
  go_wp2_with fail
  go_ret
  exact ⟨rfl, HK.out⟩
end Go.Proofs.Ytahgplfkgijecaa
