/- The landed codec's form, and the contract of its Pack. The contract of the landed Unpack; the landed codec answers as it must. -/
import Derived.Test.YtioeidhblbfgmaaGreatY19
import Derived.Test.YtioeidhblbfgmaaGreatY40
import Derived.Test.YtioeidhblbfgmaaGreatY45

namespace Go.Proofs.YtioeidhblbfgmaaGreat
open Go.ChangeShapes Go.WideShapes Go.ChangeAt Go.RowKit
set_option linter.unusedVariables false
set_option linter.unusedSimpArgs false
set_option maxRecDepth 100000

def TMs : Shape Unit := fun w X _ F => ∃ c b, At w X #[.pointer (some ⟨c, 0, none⟩)] 63 ∧ Frm.Codec c b w ∧ ∀ z, F z ↔ (z = X ∨ z = c ∨ z = b)
theorem lt_same {w w' : World} {z : Nat} (h : z < w.heap.size) (e : w'.heap[z]? = w.heap[z]?) : z < w'.heap.size := by
  rcases Nat.lt_or_ge z w'.heap.size with h1 | h1
  · exact h1
  · rw [Array.getElem?_eq_none h1, Array.getElem?_eq_getElem h] at e
    cases e
theorem tms_obj : ObjIs TMs := ⟨by
  rintro w X s F z ⟨c, b, hA, hC, hF⟩ hz
  rcases (hF z).1 hz with rfl | rfl | rfl
  · exact at_lt hA
  · exact hC.1
  · exact hC.2.1, by
  rintro w w' X s F ⟨c, b, hA, hC, hF⟩ hst
  have ec := hst c ((hF c).2 (.inr (.inl rfl)))
  have eb := hst b ((hF b).2 (.inr (.inr rfl)))
  exact ⟨c, b, (hst X ((hF X).2 (.inl rfl))).trans hA, ⟨lt_same hC.1 ec, lt_same hC.2.1 eb, (World.cell?_of_block (w := w) ec).trans hC.2.2.1, Frm.tab_block hC.2.2.2 eb⟩, hF⟩⟩
theorem tab_ne {w : World} {X b T : Nat} {v : Addr} (h : At w X #[.pointer (some v)] T) (ht : Frm.Tab b w) : X ≠ b := by
  intro e
  obtain ⟨x, hx⟩ := Frm.tab_cell ht
  have h0 : w.cell? ⟨X, 0, none⟩ = some (.pointer (some v)) := at_cell h 0
  rw [e, hx] at h0
  cases h0
theorem at_fturn {w w' : World} {Z T b : Nat} {cs : Array Value} (h : At w Z cs T) (t : Frm.Turn b w w') (hn : Z ≠ b) : At w' Z cs T := (t.2.2.2.1 Z (at_lt h) hn).trans h
theorem tn_fturn {w u u' : World} {F : Nat → Prop} {b : Nat} (hb : F b) (k : Kept w u) (t : Frm.Turn b u u') : Tn F w u' :=
  ⟨t.1.trans (kept_os k), t.2.1.trans (kept_output k), Nat.le_trans k.2 t.2.2.1, fun z hz hn => (t.2.2.2.1 z (Nat.lt_of_lt_of_le hz k.2) (fun e => hn (e ▸ hb))).trans (kept_block k hz)⟩
theorem sd_fturn {w u u' : World} {F : Nat → Prop} {b : Nat} (hb : F b) (k : Kept w u) (t : Frm.Turn b u u') : Sd F w F u' := ⟨tn_fturn hb k t, fun z hz => .inl hz⟩
theorem packS {u : World} {X M T U : Nat} {v a0 a1 a2 a3 a4 a5 a6 a7 a8 a9 aa ab : Value} (h : At u X #[v] T ∧ At u M #[a0, a1, a2, a3, a4, a5, a6, a7, a8, a9, aa, ab] U) : (u.cell? ⟨X, 0, none⟩ = some v) ∧ (u.cell? ⟨M, 0, none⟩ = some a0) ∧ (u.cell? ⟨M, 1, none⟩ = some a1) ∧ (u.cell? ⟨M, 2, none⟩ = some a2) ∧ (u.cell? ⟨M, 3, none⟩ = some a3) ∧ (u.cell? ⟨M, 4, none⟩ = some a4) ∧ (u.cell? ⟨M, 5, none⟩ = some a5) ∧ (u.cell? ⟨M, 6, none⟩ = some a6) ∧ (u.cell? ⟨M, 7, none⟩ = some a7) ∧ (u.cell? ⟨M, 8, none⟩ = some a8) ∧ (u.cell? ⟨M, 9, none⟩ = some a9) ∧ (u.cell? ⟨M, 10, none⟩ = some aa) ∧ (u.cell? ⟨M, 11, none⟩ = some ab) :=
  ⟨at_cell h.1 0, at_cell h.2 0, at_cell h.2 1, at_cell h.2 2, at_cell h.2 3, at_cell h.2 4, at_cell h.2 5, at_cell h.2 6, at_cell h.2 7, at_cell h.2 8, at_cell h.2 9, at_cell h.2 10, at_cell h.2 11⟩
theorem ldPack_nil (m : Ms) (vn vk vr vs vd : Value) (w : World) (h : MsR w vn vk vr vs vd m) : Calls Tryz.prog 11 #[.pointer none, msgV m vn vk vr vs vd] w fun e w' => ∃ s, e = .returned (.tuple #[.string s, .int .i64 1]) ∧ Kept w w' := by
  obtain ⟨a1, n1, c1, a2, n2, c2, a3, n3, c3, a4, n4, c4, a5, n5, c5, rfl, rfl, rfl, rfl, rfl⟩ := msr_is h
  have HK := hid (kept_alloc (kept_refl w) (.cells (mC m (.slice a1 n1 c1) (.slice a2 n2 c2) (.slice a3 n3 c3) (.slice a4 n4 c4) (.slice a5 n5 c5)) 29))
  unfold mC at HK
  unfold msgV
  go_enter Tryz.func11, Tryz.ntmps11
  go_wp2_with fail
  go_ret2
  exact ⟨_, rfl, HK.out⟩
theorem ldNew_any (w : World) : Calls Tryz.prog 10 #[] w fun e w' => ∃ X F, e = .returned (.pointer (some ⟨X, 0, none⟩)) ∧ TMs w' X () F ∧ Kept w w' ∧ ∀ b, F b → w.heap.size ≤ b := by
  go_enter Tryz.func10, Tryz.ntmps10
  go_wp2_with fail
  refine (Frm.New_any w).mono ?_
  rintro e w1 ⟨rfl, hb, hC⟩
  have k1 := kept_below hb
  have k2 := kept_alloc (kept_refl w1) (.cells #[.pointer (some ⟨w.heap.size + 1, 0, none⟩)] 63)
  have HA := hid (at_new w1 #[.pointer (some ⟨w.heap.size + 1, 0, none⟩)] 63)
  have HC := hid (Frm.codec_kept hC k2)
  have HK := hid (kept_trans k1 k2)
  have HZ : Hid (w.heap.size ≤ w1.heap.size) := hid k1.2
  clear hb hC k1 k2
  go_wp2_with fail
  go_ret
  exact ⟨_, fun z => z = w1.heap.size ∨ z = w.heap.size + 1 ∨ z = w.heap.size, rfl, ⟨_, _, HA.out, HC.out, fun z => Iff.rfl⟩, HK.out, fun z hz => by have := HZ.out; rcases hz with rfl | rfl | rfl <;> omega⟩
set_option maxHeartbeats 12800000 in
theorem ldPack_any (X : Nat) (F : Nat → Prop) (m : Ms) (vn vk vr vs vd : Value) (w : World) (hT : TMs w X () F) (ok : MsOk m) (h : MsR w vn vk vr vs vd m) :
    Calls Tryz.prog 11 #[.pointer (some ⟨X, 0, none⟩), msgV m vn vk vr vs vd] w fun e w' => ∃ F', e = .returned (.tuple #[.string (packM m).1, .int .i64 ((packM m).2 : Int)]) ∧ TMs w' X () F' ∧ Sd F w F' w' := by
  obtain ⟨a1, n1, c1, a2, n2, c2, a3, n3, c3, a4, n4, c4, a5, n5, c5, rfl, rfl, rfl, rfl, rfl⟩ := msr_is h
  have HT := hid hT
  obtain ⟨c, b, hA, hC, hF⟩ := hT
  have HM := hid h
  have HC := hid hC
  have hXb : X ≠ b := tab_ne hA hC.2.2.2
  have hMb : w.heap.size ≠ b := by have := hC.2.1; omega
  have HNE : Hid (X ≠ b ∧ w.heap.size ≠ b ∧ F b) := hid ⟨hXb, hMb, (hF b).2 (.inr (.inr rfl))⟩
  have hMy := fun (u : World) (k : Kept w u) => ldMay_any m ok _ _ _ _ _ u (msr_kept HM.out k)
  have HMy := hid hMy
  have k1 := kept_alloc (kept_refl w) (.cells #[.int .u8 m.kind, .int .u8 m.frm, .int .u8 m.dst, .int .u32 m.id, .int .u8 m.tgt, .int .u8 m.rng, .bool m.flag, .slice a1 n1 c1, .slice a2 n2 c2, .slice a3 n3 c3, .slice a4 n4 c4, .slice a5 n5 c5] 29)
  have aM := at_new w #[.int .u8 m.kind, .int .u8 m.frm, .int .u8 m.dst, .int .u32 m.id, .int .u8 m.tgt, .int .u8 m.rng, .bool m.flag, .slice a1 n1 c1, .slice a2 n2 c2, .slice a3 n3 c3, .slice a4 n4 c4, .slice a5 n5 c5] 29
  have HK1 := hid k1
  have HAX := hid (at_kept hA k1)
  have HAM := hid aM
  obtain ⟨⟨x0, x1, x2, x3, x4, x5, x6, x7, x8, x9, xa, xb⟩, -⟩ := cells12 aM
  clear hMy k1 aM hXb hMb
  cases hm : mayM m with
  | false =>
    have HP : Hid (packM m = (⟨#[]⟩, 1)) := hid (packM_bad (by rw [hm]; simp))
    rw [hm] at HMy
    clear hm ok h hA hC hF
    rw [HP.out]
    unfold msgV
    go_enter Tryz.func11, Tryz.ntmps11
    go_wp2_with fail
    refine (HMy.out _ HK1.out).mono ?_
    rintro e w2 ⟨rfl, k2⟩
    have HK2 := hid (kept_trans HK1.out k2)
    clear k2 x0 x1 x2 x3 x4 x5 x6 x7 x8 x9 xa xb
    go_wp2_with fail
    go_ret2
    exact ⟨F, rfl, tms_obj.stay HT.out (fun z hz => kept_block HK2.out (tms_obj.lt HT.out hz)), sd_kept HK2.out⟩
  | true =>
    have hE := fun (u : World) (hu : Frm.Codec c b u) => Frm.encode_any c b (byteI m.kind) (byteI m.frm) (byteI m.dst) (bodyM m) u hu
    unfold Frm.frameV at hE
    rw [byteI_is ok.kind, byteI_is ok.frm, byteI_is ok.dst] at hE
    have hP : packM m = Frm.encS (byteI m.kind) (byteI m.frm) (byteI m.dst) (bodyM m) := by unfold packM; rw [if_pos hm]
    rw [← hP] at hE
    have HE := hid hE
    have hW := fun (u : World) (k : Kept w u) => ldWrite_any m ok hm _ _ _ _ _ u (msr_kept HM.out k)
    unfold msgV at hW
    have HW := hid hW
    rw [hm] at HMy
    clear hE hP hW hm ok h hA hC
    generalize packM m = pm at *
    obtain ⟨ps, pf⟩ := pm
    simp only at HE ⊢
    unfold msgV
    unfold msgV at HMy
    go_enter Tryz.func11, Tryz.ntmps11
    go_wp2_with fail
    refine (HMy.out _ HK1.out).mono ?_
    rintro e w2 ⟨rfl, k2⟩
    have HK2 := hid (kept_trans HK1.out k2)
    have HAX2 := hid (at_kept HAX.out k2)
    have HAM2 := hid (at_kept HAM.out k2)
    clear k2 x0 x1 x2 x3 x4 x5 x6 x7 x8 x9 xa xb
    go_wp2_with fail
    generalize hMM : w.heap.size = M at *
    refine wp_region_noPanic ?_
    refine wp_region_held_drew (S := (fun w' => (w'.cell? ⟨X, 0, none⟩ = some (.pointer (some ⟨c, 0, none⟩))) ∧ (w'.cell? ⟨M, 0, none⟩ = some (.int .u8 m.kind)) ∧ (w'.cell? ⟨M, 1, none⟩ = some (.int .u8 m.frm)) ∧ (w'.cell? ⟨M, 2, none⟩ = some (.int .u8 m.dst)) ∧ (w'.cell? ⟨M, 3, none⟩ = some (.int .u32 m.id)) ∧ (w'.cell? ⟨M, 4, none⟩ = some (.int .u8 m.tgt)) ∧ (w'.cell? ⟨M, 5, none⟩ = some (.int .u8 m.rng)) ∧ (w'.cell? ⟨M, 6, none⟩ = some (.bool m.flag)) ∧ (w'.cell? ⟨M, 7, none⟩ = some (.slice a1 n1 c1)) ∧ (w'.cell? ⟨M, 8, none⟩ = some (.slice a2 n2 c2)) ∧ (w'.cell? ⟨M, 9, none⟩ = some (.slice a3 n3 c3)) ∧ (w'.cell? ⟨M, 10, none⟩ = some (.slice a4 n4 c4)) ∧ (w'.cell? ⟨M, 11, none⟩ = some (.slice a5 n5 c5)))) (by kernel_rfl) (packS (show At w2.drew X #[.pointer (some ⟨c, 0, none⟩)] 63 ∧ At w2.drew M #[.int .u8 m.kind, .int .u8 m.frm, .int .u8 m.dst, .int .u32 m.id, .int .u8 m.tgt, .int .u8 m.rng, .bool m.flag, .slice a1 n1 c1, .slice a2 n2 c2, .slice a3 n3 c3, .slice a4 n4 c4, .slice a5 n5 c5] 29 from ⟨HAX2.out, HAM2.out⟩)) (fun hHeld => ?_)
    generalize hwd : w2.drew = wd at *
    have AC : At wd X #[.pointer (some ⟨c, 0, none⟩)] 63 ∧ At wd M #[.int .u8 m.kind, .int .u8 m.frm, .int .u8 m.dst, .int .u32 m.id, .int .u8 m.tgt, .int .u8 m.rng, .bool m.flag, .slice a1 n1 c1, .slice a2 n2 c2, .slice a3 n3 c3, .slice a4 n4 c4, .slice a5 n5 c5] 29 := by rw [← hwd]; exact ⟨HAX2.out, HAM2.out⟩
    have k0 : Kept w wd := by rw [← hwd]; exact HK2.out
    clear hwd
    refine wpAnyH_take (i := 0) (v := .pointer (some ⟨X, 0, none⟩)) rfl (by kernel_rfl) (by kernel_rfl) (by kernel_rfl) (fun _ _ _ h => h) (Or.inl ⟨by rfl, fun w hSw => by (try dsimp only at hSw); go_simp⟩) (by assumption) ?_
    try simp only [List.getElem_toArray, List.getElem_cons_zero, List.getElem_cons_succ, Act.put, List.setIfInBounds_toArray, List.set_cons_zero, List.set_cons_succ]
    refine wpAnyH_take (i := 1) (v := .pointer (some ⟨X, 0, none⟩)) rfl (by kernel_rfl) (by kernel_rfl) (by kernel_rfl) (fun _ _ _ h => h) (Or.inl ⟨by rfl, fun w hSw => by (try dsimp only at hSw); go_simp⟩) (by assumption) ?_
    try simp only [List.getElem_toArray, List.getElem_cons_zero, List.getElem_cons_succ, Act.put, List.setIfInBounds_toArray, List.set_cons_zero, List.set_cons_succ]
    refine wpAnyH_take (i := 2) (v := .pointer (some ⟨X, 0, none⟩)) rfl (by kernel_rfl) (by kernel_rfl) (by kernel_rfl) (fun _ _ _ h => h) (Or.inl ⟨by rfl, fun w hSw => by (try dsimp only at hSw); go_simp⟩) (by assumption) ?_
    try simp only [List.getElem_toArray, List.getElem_cons_zero, List.getElem_cons_succ, Act.put, List.setIfInBounds_toArray, List.set_cons_zero, List.set_cons_succ]
    refine wpAnyH_take (i := 3) (v := .pointer (some ⟨c, 0, none⟩)) rfl (by kernel_rfl) (by kernel_rfl) (by kernel_rfl) (fun _ _ _ h => h) (Or.inl ⟨by rfl, fun w hSw => by (try dsimp only at hSw); go_simp⟩) (by assumption) ?_
    try simp only [List.getElem_toArray, List.getElem_cons_zero, List.getElem_cons_succ, Act.put, List.setIfInBounds_toArray, List.set_cons_zero, List.set_cons_succ]
    refine wpAnyH_take (i := 4) (v := .pointer (some ⟨M, 0, none⟩)) rfl (by kernel_rfl) (by kernel_rfl) (by kernel_rfl) (fun _ _ _ h => h) (Or.inl ⟨by rfl, fun w hSw => by (try dsimp only at hSw); go_simp⟩) (by assumption) ?_
    try simp only [List.getElem_toArray, List.getElem_cons_zero, List.getElem_cons_succ, Act.put, List.setIfInBounds_toArray, List.set_cons_zero, List.set_cons_succ]
    refine wpAnyH_take (i := 5) (v := .int .u8 m.kind) rfl (by kernel_rfl) (by kernel_rfl) (by kernel_rfl) (fun _ _ _ h => h) (Or.inl ⟨by rfl, fun w hSw => by (try dsimp only at hSw); go_simp⟩) (by assumption) ?_
    try simp only [List.getElem_toArray, List.getElem_cons_zero, List.getElem_cons_succ, Act.put, List.setIfInBounds_toArray, List.set_cons_zero, List.set_cons_succ]
    refine wpAnyH_take (i := 6) (v := .pointer (some ⟨M, 1, none⟩)) rfl (by kernel_rfl) (by kernel_rfl) (by kernel_rfl) (fun _ _ _ h => h) (Or.inl ⟨by rfl, fun w hSw => by (try dsimp only at hSw); go_simp⟩) (by assumption) ?_
    try simp only [List.getElem_toArray, List.getElem_cons_zero, List.getElem_cons_succ, Act.put, List.setIfInBounds_toArray, List.set_cons_zero, List.set_cons_succ]
    refine wpAnyH_take (i := 7) (v := .int .u8 m.frm) rfl (by kernel_rfl) (by kernel_rfl) (by kernel_rfl) (fun _ _ _ h => h) (Or.inl ⟨by rfl, fun w hSw => by (try dsimp only at hSw); go_simp⟩) (by assumption) ?_
    try simp only [List.getElem_toArray, List.getElem_cons_zero, List.getElem_cons_succ, Act.put, List.setIfInBounds_toArray, List.set_cons_zero, List.set_cons_succ]
    refine wpAnyH_take (i := 8) (v := .pointer (some ⟨M, 2, none⟩)) rfl (by kernel_rfl) (by kernel_rfl) (by kernel_rfl) (fun _ _ _ h => h) (Or.inl ⟨by rfl, fun w hSw => by (try dsimp only at hSw); go_simp⟩) (by assumption) ?_
    try simp only [List.getElem_toArray, List.getElem_cons_zero, List.getElem_cons_succ, Act.put, List.setIfInBounds_toArray, List.set_cons_zero, List.set_cons_succ]
    refine wpAnyH_take (i := 9) (v := .int .u8 m.dst) rfl (by kernel_rfl) (by kernel_rfl) (by kernel_rfl) (fun _ _ _ h => h) (Or.inl ⟨by rfl, fun w hSw => by (try dsimp only at hSw); go_simp⟩) (by assumption) ?_
    try simp only [List.getElem_toArray, List.getElem_cons_zero, List.getElem_cons_succ, Act.put, List.setIfInBounds_toArray, List.set_cons_zero, List.set_cons_succ]
    refine wpAnyH_take (i := 10) (v := .agg #[.int .u8 m.kind, .int .u8 m.frm, .int .u8 m.dst, .int .u32 m.id, .int .u8 m.tgt, .int .u8 m.rng, .bool m.flag, .slice a1 n1 c1, .slice a2 n2 c2, .slice a3 n3 c3, .slice a4 n4 c4, .slice a5 n5 c5]) rfl (by kernel_rfl) (by kernel_rfl) (by kernel_rfl) (fun _ _ _ h => h) (Or.inl ⟨by rfl, fun w hSw => by (try dsimp only at hSw); go_simp⟩) (by assumption) ?_
    try simp only [List.getElem_toArray, List.getElem_cons_zero, List.getElem_cons_succ, Act.put, List.setIfInBounds_toArray, List.set_cons_zero, List.set_cons_succ]
    refine wpAnyH_ready (rs := [11]) (by kernel_rfl) (by simp) ?_
    refine AllReadyH.cons (i := 11) rfl (fun K hK => ?_) AllReadyH.nil
    go_simp
    refine (HW.out _ k0).mono ?_
    rintro e w3 ⟨rfl, h3⟩
    replace AC := And.intro (at_kept AC.1 h3) (at_kept AC.2 h3)
    replace k0 := kept_trans k0 h3
    clear h3
    clear hHeld
    show K _ _
    refine hK.out _ _ (packS (by assumption)) (fun hHeld => ?_)
    clear hK K
    try simp only [List.getElem_toArray, List.getElem_cons_zero, List.getElem_cons_succ, Act.put, List.setIfInBounds_toArray, List.set_cons_zero, List.set_cons_succ]
    refine wpAnyH_take (i := 12) (v := .agg #[.int .u8 m.kind, .int .u8 m.frm, .int .u8 m.dst, .string (bodyM m)]) rfl (by kernel_rfl) (by kernel_rfl) (by kernel_rfl) (fun _ _ _ h => h) (Or.inl ⟨by rfl, fun w hSw => by (try dsimp only at hSw); go_simp⟩) (by assumption) ?_
    try simp only [List.getElem_toArray, List.getElem_cons_zero, List.getElem_cons_succ, Act.put, List.setIfInBounds_toArray, List.set_cons_zero, List.set_cons_succ]
    refine wpAnyH_ready (rs := [13]) (by kernel_rfl) (by simp) ?_
    refine AllReadyH.cons (i := 13) rfl (fun K hK => ?_) AllReadyH.nil
    go_simp
    refine (HE.out _ (Frm.codec_kept HC.out k0)).mono ?_
    rintro e w4 ⟨rfl, t4⟩
    have AC4 := And.intro (at_fturn AC.1 t4 HNE.out.1) (at_fturn AC.2 t4 HNE.out.2.1)
    have HC4 := hid (Frm.codec_turn (Frm.codec_kept HC.out k0) (Frm.codec_kept HC.out k0).2.2.2 t4)
    have HS4 := hid (sd_fturn HNE.out.2.2 k0 t4)
    clear AC k0 t4
    clear hHeld
    show K _ _
    refine hK.out _ _ (packS (by assumption)) (fun hHeld => ?_)
    clear hK K
    try simp only [List.getElem_toArray, List.getElem_cons_zero, List.getElem_cons_succ, Act.put, List.setIfInBounds_toArray, List.set_cons_zero, List.set_cons_succ]
    refine wpAnyH_take (i := 14) (v := .string ps) rfl (by kernel_rfl) (by kernel_rfl) (by kernel_rfl) (fun _ _ _ h => h) (Or.inl ⟨by rfl, fun w hSw => by (try dsimp only at hSw); go_simp⟩) (by assumption) ?_
    try simp only [List.getElem_toArray, List.getElem_cons_zero, List.getElem_cons_succ, Act.put, List.setIfInBounds_toArray, List.set_cons_zero, List.set_cons_succ]
    refine wpAnyH_take (i := 15) (v := .int .i64 (pf : Int)) rfl (by kernel_rfl) (by kernel_rfl) (by kernel_rfl) (fun _ _ _ h => h) (Or.inl ⟨by rfl, fun w hSw => by (try dsimp only at hSw); go_simp⟩) (by assumption) ?_
    try simp only [List.getElem_toArray, List.getElem_cons_zero, List.getElem_cons_succ, Act.put, List.setIfInBounds_toArray, List.set_cons_zero, List.set_cons_succ]
    refine wpAnyH_take (i := 16) (v := .string ps) rfl (by kernel_rfl) (by kernel_rfl) (by kernel_rfl) (fun _ _ _ h => h) (Or.inl ⟨by rfl, fun w hSw => by (try dsimp only at hSw); go_simp⟩) (by assumption) ?_
    try simp only [List.getElem_toArray, List.getElem_cons_zero, List.getElem_cons_succ, Act.put, List.setIfInBounds_toArray, List.set_cons_zero, List.set_cons_succ]
    refine wpAnyH_take (i := 17) (v := .int .i64 (pf : Int)) rfl (by kernel_rfl) (by kernel_rfl) (by kernel_rfl) (fun _ _ _ h => h) (Or.inl ⟨by rfl, fun w hSw => by (try dsimp only at hSw); go_simp⟩) (by assumption) ?_
    try simp only [List.getElem_toArray, List.getElem_cons_zero, List.getElem_cons_succ, Act.put, List.setIfInBounds_toArray, List.set_cons_zero, List.set_cons_succ]
    refine wpAnyH_done (by kernel_rfl) ?_ _
    refine NoPanic.normal ?_
    clear hHeld
    go_wp2_with fail
    go_ret2
    exact ⟨F, rfl, ⟨c, b, AC4.1, HC4.out, hF⟩, HS4.out⟩
end Go.Proofs.YtioeidhblbfgmaaGreat


namespace Go.Proofs.YtioeidhblbfgmaaGreat
open Go.ChangeShapes Go.WideShapes Go.ChangeAt Go.RowKit
set_option linter.unusedVariables false
set_option linter.unusedSimpArgs false
set_option maxRecDepth 100000

theorem zeroFr (w : World) : (zeroValue 46).run Tryz.prog w = .ok (.agg #[.int .u8 0, .int .u8 0, .int .u8 0, .string ⟨#[]⟩]) w := by kernel_rfl
set_option maxHeartbeats 3200000 in
theorem ldUnp_nil (s : ByteArray) (w : World) : Calls Tryz.prog 13 #[.pointer none, .string s] w fun e w' => ∃ m vn vk vr vs vd, e = .returned (.tuple #[msgV m vn vk vr vs vd, .int .i64 1]) ∧ MsO w' w.heap.size vn vk vr vs vd m ∧ Kept w w' := by
  have hz := zeroMv
  have HA := hid (at_new w #[.int .u8 0, .int .u8 0, .int .u8 0, .int .u32 0, .int .u8 0, .int .u8 0, .bool false, .slice none 0 0, .slice none 0 0, .slice none 0 0, .slice none 0 0, .slice none 0 0] 29)
  have HK := hid (kept_alloc (kept_refl w) (.cells #[.int .u8 0, .int .u8 0, .int .u8 0, .int .u32 0, .int .u8 0, .int .u8 0, .bool false, .slice none 0 0, .slice none 0 0, .slice none 0 0, .slice none 0 0, .slice none 0 0] 29))
  go_enter Tryz.func13, Tryz.ntmps13
  go_wp2_with fail
  exact bodyPost_ret (resMI Tryz.results13 _ rfl rfl HA.out) rfl ⟨zeroM, .slice none 0 0, .slice none 0 0, .slice none 0 0, .slice none 0 0, .slice none 0 0, rfl, mso_zero _ _, HK.out⟩
/- A codec stays where another block turns. -/
theorem codec_off {c b R T : Nat} {w : World} {a1 a2 a3 a4 a5 a6 a7 a8 a9 a10 a11 : Value} (h : Frm.Codec c b w) (hR : At w R #[.int .u8 0, a1, a2, a3, a4, a5, a6, a7, a8, a9, a10, a11] T) : c ≠ R := by
  intro e
  have h0 : w.cell? ⟨R, 0, none⟩ = some (.int .u8 0) := at_cell hR 0
  rw [← e, h.2.2.1] at h0
  cases h0
theorem codec_tn {c b R : Nat} {w w' : World} (h : Frm.Codec c b w) (hc : c ≠ R) (hb : R ≠ b) (t : Tn (fun z => z = R) w w') : Frm.Codec c b w' := by
  have ec := t.2.2.2 c h.1 hc
  have eb := t.2.2.2 b h.2.1 (Ne.symm hb)
  exact ⟨lt_same h.1 ec, lt_same h.2.1 eb, (World.cell?_of_block (w := w) ec).trans h.2.2.1, Frm.tab_block h.2.2.2 eb⟩
theorem codec_set12 {c b R : Nat} {w : World} (h : Frm.Codec c b w) (hc : c ≠ R) (hb : R ≠ b) (a0 a1 a2 a3 a4 a5 a6 a7 a8 a9 a10 a11 : Value) : Frm.Codec c b (set12 w R a0 a1 a2 a3 a4 a5 a6 a7 a8 a9 a10 a11) := codec_tn h hc hb (tn_set12 w R a0 a1 a2 a3 a4 a5 a6 a7 a8 a9 a10 a11)
theorem tms_turned {X : Nat} {F : Nat → Prop} {c b : Nat} {w w' : World} (hA : At w' X #[.pointer (some ⟨c, 0, none⟩)] 63) (hC : Frm.Codec c b w') (hF : ∀ z, F z ↔ (z = X ∨ z = c ∨ z = b)) : TMs w' X () F := ⟨c, b, hA, hC, hF⟩
set_option maxHeartbeats 12800000 in
theorem ldUnp_any (X : Nat) (F : Nat → Prop) (s : ByteArray) (w : World) (hT : TMs w X () F) (hs : s.size ≤ 2000000) :
    Calls Tryz.prog 13 #[.pointer (some ⟨X, 0, none⟩), .string s] w fun e w' => ∃ F' vn vk vr vs vd, e = .returned (.tuple #[msgV (unM s).1 vn vk vr vs vd, .int .i64 ((unM s).2 : Int)]) ∧ MsO w' w.heap.size vn vk vr vs vd (unM s).1 ∧ TMs w' X () F' ∧ Sd F w F' w' := by
  obtain ⟨c, b, hA, hC, hF⟩ := hT
  have hXb : X ≠ b := tab_ne hA hC.2.2.2
  have hRb : w.heap.size ≠ b := by have := hC.2.1; omega
  have hRX : X ≠ w.heap.size := by have := at_lt hA; omega
  have HNE : Hid (X ≠ b ∧ w.heap.size ≠ b ∧ X ≠ w.heap.size ∧ F b) := hid ⟨hXb, hRb, hRX, (hF b).2 (.inr (.inr rfl))⟩
  have HFF := hid hF
  have k1 := kept_alloc (kept_refl w) (.cells #[.int .u8 0, .int .u8 0, .int .u8 0, .int .u32 0, .int .u8 0, .int .u8 0, .bool false, .slice none 0 0, .slice none 0 0, .slice none 0 0, .slice none 0 0, .slice none 0 0] 29)
  have HK1 := hid k1
  have HA1 := hid (at_kept hA k1)
  have HR1 := hid (at_new w #[.int .u8 0, .int .u8 0, .int .u8 0, .int .u32 0, .int .u8 0, .int .u8 0, .bool false, .slice none 0 0, .slice none 0 0, .slice none 0 0, .slice none 0 0, .slice none 0 0] 29)
  have HC1 := hid (Frm.codec_kept hC k1)
  have hD := fun (u : World) (hu : Frm.Codec c b u) => Frm.decode_any c b s (by omega) u hu
  rw [Frm.decV_dec] at hD
  unfold Frm.frameV at hD
  have hz := zeroMv
  have hzf := zeroFr
  have x0 : (w.alloc (.cells #[.int .u8 0, .int .u8 0, .int .u8 0, .int .u32 0, .int .u8 0, .int .u8 0, .bool false, .slice none 0 0, .slice none 0 0, .slice none 0 0, .slice none 0 0, .slice none 0 0] 29)).cell? ⟨X, 0, none⟩ = some (.pointer (some ⟨c, 0, none⟩)) := at_cell HA1.out 0
  by_cases h0 : Frm.why s.data.toList = 0
  · have e : unM s = readM ((Frm.dec s).1.toNat : Int) ((Frm.dec s).2.1.toNat : Int) ((Frm.dec s).2.2.1.toNat : Int) (Frm.dec s).2.2.2 := by unfold unM; rw [if_pos h0]
    have hb : (Frm.dec s).2.2.2.size ≤ 140737488355328 := by
      unfold Frm.dec Frm.bodyOf
      rw [if_pos h0]
      simp
      omega
    rw [h0] at hD
    have HRd := hid (fun (u : World) => ldRead_any ((Frm.dec s).1.toNat : Int) ((Frm.dec s).2.1.toNat : Int) ((Frm.dec s).2.2.1.toNat : Int) (Frm.dec s).2.2.2 hb u)
    rw [e]
    unfold RdF at HRd
    generalize readM ((Frm.dec s).1.toNat : Int) ((Frm.dec s).2.1.toNat : Int) ((Frm.dec s).2.2.1.toNat : Int) (Frm.dec s).2.2.2 = RM at *
    generalize ((Frm.dec s).1.toNat : Int) = k at *
    generalize ((Frm.dec s).2.1.toNat : Int) = f at *
    generalize ((Frm.dec s).2.2.1.toNat : Int) = t at *
    generalize (Frm.dec s).2.2.2 = bd at *
    obtain ⟨mo, er⟩ := RM
    simp only at HRd ⊢
    have HD := hid hD
    clear h0 e hb hD hA hC hF k1 hXb hRb hRX hs
    go_enter Tryz.func13, Tryz.ntmps13
    go_wp2_with fail
    refine (HD.out _ HC1.out).mono ?_
    rintro e w2 ⟨rfl, t2⟩
    have HA2 := hid (at_fturn HA1.out t2 HNE.out.1)
    have HR2 := hid (at_fturn HR1.out t2 HNE.out.2.1)
    have HC2 := hid (Frm.codec_turn HC1.out HC1.out.2.2.2 t2)
    have HN2 := hid (tn_fturn HNE.out.2.2.2 HK1.out t2)
    have k3 := kept_alloc (kept_refl w2) (.cells #[.int .u8 k, .int .u8 f, .int .u8 t, .string bd] 46)
    have HA3 := hid (at_kept HA2.out k3)
    have HR3 := hid (at_kept HR2.out k3)
    have HC3 := hid (Frm.codec_kept HC2.out k3)
    have HN3 := hid (tn_next HN2.out k3)
    obtain ⟨y0, y1, y2, y3, yf⟩ := at_cells4 (at_new w2 #[.int .u8 k, .int .u8 f, .int .u8 t, .string bd] 46)
    clear t2 k3 x0 HA1 HR1 HC1 HK1 HA2 HR2 HC2 HN2 HD
    go_wp2_with fail
    refine (HRd.out _).mono ?_
    rintro e w4 ⟨vn, vk, vr, vs, vd, rfl, hO, k4⟩
    obtain ⟨a1, n1, c1, a2, n2, c2, a3, n3, c3, a4, n4, c4, a5, n5, c5, rfl, rfl, rfl, rfl, rfl⟩ := mso_is hO
    have HR4 := at_kept HR3.out k4
    have hlt3 := at_lt HR3.out
    have HA4 := hid (at_out12 (at_kept HA3.out k4) HNE.out.2.2.1 (.int .u8 mo.kind) (.int .u8 mo.frm) (.int .u8 mo.dst) (.int .u32 mo.id) (.int .u8 mo.tgt) (.int .u8 mo.rng) (.bool mo.flag) (.slice a1 n1 c1) (.slice a2 n2 c2) (.slice a3 n3 c3) (.slice a4 n4 c4) (.slice a5 n5 c5))
    have HO4 := hid (mso_low (mso_tn hO (tn_set12 w4 w.heap.size (.int .u8 mo.kind) (.int .u8 mo.frm) (.int .u8 mo.dst) (.int .u32 mo.id) (.int .u8 mo.tgt) (.int .u8 mo.rng) (.bool mo.flag) (.slice a1 n1 c1) (.slice a2 n2 c2) (.slice a3 n3 c3) (.slice a4 n4 c4) (.slice a5 n5 c5)) (fun z hz => by rw [hz]; exact hlt3)) (m2 := mo) (Nat.le_of_lt hlt3) rfl rfl rfl rfl rfl)
    have HN4 := hid (tn_comp (tn_next HN3.out k4) (tn_set12 w4 w.heap.size (.int .u8 mo.kind) (.int .u8 mo.frm) (.int .u8 mo.dst) (.int .u32 mo.id) (.int .u8 mo.tgt) (.int .u8 mo.rng) (.bool mo.flag) (.slice a1 n1 c1) (.slice a2 n2 c2) (.slice a3 n3 c3) (.slice a4 n4 c4) (.slice a5 n5 c5)) (fun z hz => .inr (by rw [hz]; exact Nat.le_refl _)))
    have HC4 := hid (codec_set12 (Frm.codec_kept HC3.out k4) (codec_off HC3.out HR3.out) HNE.out.2.1 (.int .u8 mo.kind) (.int .u8 mo.frm) (.int .u8 mo.dst) (.int .u32 mo.id) (.int .u8 mo.tgt) (.int .u8 mo.rng) (.bool mo.flag) (.slice a1 n1 c1) (.slice a2 n2 c2) (.slice a3 n3 c3) (.slice a4 n4 c4) (.slice a5 n5 c5))
    have HRe := hid (at_set12' HR4 (.int .u8 mo.kind) (.int .u8 mo.frm) (.int .u8 mo.dst) (.int .u32 mo.id) (.int .u8 mo.tgt) (.int .u8 mo.rng) (.bool mo.flag) (.slice a1 n1 c1) (.slice a2 n2 c2) (.slice a3 n3 c3) (.slice a4 n4 c4) (.slice a5 n5 c5))
    obtain ⟨⟨m0, m1, m2, m3, m4, m5, m6, m7, m8, m9, ma, mb⟩, mf⟩ := cells12 HR4
    unfold set12 at HA4 HO4 HN4 HC4 HRe
    unfold msgV
    clear hO k4 HA3 HR3 HC3 HN3 HR4 y0 y1 y2 y3 yf hlt3
    go_wp2_with fail
    exact bodyPost_ret (resMI Tryz.results13 _ rfl rfl HRe.out) rfl ⟨F, .slice a1 n1 c1, .slice a2 n2 c2, .slice a3 n3 c3, .slice a4 n4 c4, .slice a5 n5 c5, rfl, HO4.out, ⟨c, b, HA4.out, HC4.out, HFF.out⟩, HN4.out, fun z hz => .inl hz⟩
  · have e : unM s = (zeroM, Frm.why s.data.toList) := un_why h0
    have ed := Frm.dec_bad s h0
    rw [e]
    rw [ed] at hD
    obtain ⟨r, hr⟩ : ∃ r, Frm.why s.data.toList = r := ⟨_, rfl⟩
    rw [hr] at hD h0 ⊢
    have hb : ((r : Int) != 0) = true := by rw [bne_iff_ne]; omega
    have HD := hid hD
    clear e ed hr hD hA hC hF k1 hXb hRb hRX hs h0
    go_enter Tryz.func13, Tryz.ntmps13
    go_wp2_with fail
    refine (HD.out _ HC1.out).mono ?_
    rintro e w2 ⟨rfl, t2⟩
    have HA2 := hid (at_fturn HA1.out t2 HNE.out.1)
    have HR2 := hid (at_fturn HR1.out t2 HNE.out.2.1)
    have HC2 := hid (Frm.codec_turn HC1.out HC1.out.2.2.2 t2)
    have HN2 := hid (tn_fturn HNE.out.2.2.2 HK1.out t2)
    have k3 := kept_alloc (kept_refl w2) (.cells #[.int .u8 0, .int .u8 0, .int .u8 0, .string ⟨#[]⟩] 46)
    have HR3 := at_kept HR2.out k3
    have HA4 := hid (at_out12 (at_kept HA2.out k3) HNE.out.2.2.1 (.int .u8 0) (.int .u8 0) (.int .u8 0) (.int .u32 0) (.int .u8 0) (.int .u8 0) (.bool false) (.slice none 0 0) (.slice none 0 0) (.slice none 0 0) (.slice none 0 0) (.slice none 0 0))
    have HN4 := hid (tn_comp (tn_next HN2.out k3) (tn_set12 _ w.heap.size (.int .u8 0) (.int .u8 0) (.int .u8 0) (.int .u32 0) (.int .u8 0) (.int .u8 0) (.bool false) (.slice none 0 0) (.slice none 0 0) (.slice none 0 0) (.slice none 0 0) (.slice none 0 0)) (fun z hz => .inr (by rw [hz]; exact Nat.le_refl _)))
    have HC4 := hid (codec_set12 (Frm.codec_kept HC2.out k3) (codec_off HC2.out HR2.out) HNE.out.2.1 (.int .u8 0) (.int .u8 0) (.int .u8 0) (.int .u32 0) (.int .u8 0) (.int .u8 0) (.bool false) (.slice none 0 0) (.slice none 0 0) (.slice none 0 0) (.slice none 0 0) (.slice none 0 0))
    have HRe := hid (at_set12' HR3 (.int .u8 0) (.int .u8 0) (.int .u8 0) (.int .u32 0) (.int .u8 0) (.int .u8 0) (.bool false) (.slice none 0 0) (.slice none 0 0) (.slice none 0 0) (.slice none 0 0) (.slice none 0 0))
    obtain ⟨⟨m0, m1, m2, m3, m4, m5, m6, m7, m8, m9, ma, mb⟩, mf⟩ := cells12 HR3
    unfold set12 at HA4 HN4 HC4 HRe
    clear t2 k3 x0 HA1 HR1 HC1 HK1 HA2 HR2 HC2 HN2 HD HR3
    go_wp2_with fail
    exact bodyPost_ret (resMI Tryz.results13 _ rfl rfl HRe.out) rfl ⟨F, .slice none 0 0, .slice none 0 0, .slice none 0 0, .slice none 0 0, .slice none 0 0, rfl, mso_zero _ _, ⟨c, b, HA4.out, HC4.out, HFF.out⟩, HN4.out, fun z hz => .inl hz⟩
theorem tms_is : MsIs TMs := ⟨tms_obj, ldNew_any, fun X F m vn vk vr vs vd w hT ok hm => ldPack_any X F m vn vk vr vs vd w hT ok hm, fun X F s w hT hs => ldUnp_any X F s w hT hs, fun m vn vk vr vs vd w hm => ldPack_nil m vn vk vr vs vd w hm, fun s w => ldUnp_nil s w⟩
end Go.Proofs.YtioeidhblbfgmaaGreat
