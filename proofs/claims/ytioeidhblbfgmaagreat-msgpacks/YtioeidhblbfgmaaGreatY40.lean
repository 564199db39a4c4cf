/- The contract of the landed write: the body of a message that may be. -/
import Derived.Test.YtioeidhblbfgmaaGreatY39
import Derived.Test.YtioeidhblbfgmaaGreatY16

namespace Go.Proofs.YtioeidhblbfgmaaGreat
open Go.ChangeShapes Go.WideShapes Go.ChangeAt Go.RowKit
set_option linter.unusedVariables false
set_option linter.unusedSimpArgs false
set_option maxRecDepth 100000

theorem zeroWr (w : World) : (zeroValue 111).run Tryz.prog w = .ok (.agg #[.pointer none, .slice none 0 0]) w := by kernel_rfl
theorem listB_lim {α : Type} (e : α → ByteArray) (l : List α) (hl : l.length ≤ 4096) (h : ∀ x ∈ l, (e x).size ≤ 2000) : (listB e l).size ≤ 8200000 := by
  have h1 := catB_size e (fun _ => 0) 2000 l (fun x hx => h x hx)
  rw [sumOf_0] at h1
  have h2 := encB_size l.length
  unfold listB
  rw [ByteArray.size_append]
  omega
structure AllMay (m : Ms) : Prop where
  n : ∀ x ∈ m.news, NwOk x
  k : ∀ x ∈ m.keys, x.size ≤ 250
  k2 : ∀ x ∈ m.keys, x.size ≤ 1000
  r : ∀ x ∈ m.recs, x.ok ∧ mayR x = true
  s : ∀ x ∈ m.seen, SnOk x ∧ mayS x = true
  d : ∀ x ∈ m.digs, u64Ok x
theorem may_all {m : Ms} (ok : MsOk m) (h : mayM m = true) : AllMay m := by
  unfold mayM at h
  simp only [Bool.and_eq_true, List.all_eq_true] at h
  obtain ⟨-, -, -, h2, h3, h4⟩ := h
  have hk : ∀ x ∈ m.keys, x.size ≤ 250 := fun x hx => by
    have h9 := h2 x hx
    unfold keyMay at h9
    simp only [Bool.and_eq_true, decide_eq_true_eq] at h9
    exact h9.1.2
  exact ⟨ok.news, hk, fun x hx => by have := hk x hx; omega, fun x hx => ⟨ok.recs x hx, h3 x hx⟩, fun x hx => ⟨ok.seen x hx, h4 x hx⟩, ok.digs⟩
set_option maxHeartbeats 12800000 in
theorem ldWrite_any (m : Ms) (ok : MsOk m) (my : mayM m = true) (vn vk vr vs vd : Value) (w : World) (h : MsR w vn vk vr vs vd m) :
    Calls Tryz.prog 21 #[msgV m vn vk vr vs vd] w fun e w' => e = .returned (.string (bodyM m)) ∧ Kept w w' := by
  obtain ⟨a1, n1, c1, a2, n2, c2, a3, n3, c3, a4, n4, c4, a5, n5, c5, rfl, rfl, rfl, rfl, rfl⟩ := msr_is h
  have HM := hid h
  obtain ⟨l1, l2, l3, l4, l5⟩ := (small_may ok my).l
  have HF := hid (may_all ok my)
  obtain ⟨i0, i1⟩ := ok.id
  obtain ⟨t0, t1⟩ := ok.tgt
  obtain ⟨r0, r1⟩ := ok.rng
  have q1 : IntKind.u64.wrap m.id = m.id := wrap64 (by omega)
  have q2 : IntKind.u64.wrap m.tgt = m.tgt := wrap64 (by omega)
  have q3 : IntKind.u64.wrap m.rng = m.rng := wrap64 (by omega)
  obtain ⟨fl, hfl⟩ : ∃ z : Int, (if m.flag then 1 else 0) = z := ⟨_, rfl⟩
  have hf01 : 0 ≤ fl ∧ fl < 4611686018427387904 := by subst hfl; split <;> omega
  have HHd : Hid ((⟨#[]⟩ : ByteArray) ++ cat [m.id, m.tgt, m.rng, fl] = headM m) := hid (by
    subst hfl
    rw [nil_app]
    unfold headM
    rw [flagB_is]
    simp only [cat, app_nil, ByteArray.append_assoc]
    cases m.flag <;> rfl)
  have s0 : (headM m).size ≤ 32 := by
    rw [← HHd.out, nil_app]
    have h1 := encI_size m.id
    have h2 := encI_size m.tgt
    have h3 := encI_size m.rng
    have h4 := encI_size fl
    simp only [cat, app_nil, ByteArray.size_append]
    omega
  have s1 := listB_lim newsB m.news l1 (fun x hx => by have := newsB_le x; omega)
  have s2 := listB_lim textE m.keys l2 (fun x hx => by have := textE_lim x; have := HF.out.k x hx; omega)
  have s3 := listB_lim putR m.recs l3 (fun x hx => recB_lim (HF.out.r x hx).1 (HF.out.r x hx).2)
  have s4 := listB_lim seenB m.seen l4 (fun x hx => by have := seenB_le x; have := (mayS_facts (HF.out.s x hx).2).1; omega)
  have s5 := listB_lim digB m.digs l5 (fun x hx => by have := digB_le x; omega)
  have HBd : Hid (headM m ++ listB newsB m.news ++ listB textE m.keys ++ listB putR m.recs ++ listB seenB m.seen ++ listB digB m.digs = bodyM m) := hid rfl
  have HPos : Hid (0 < (bodyM m).size) := hid (by
    have h9 : (flagB m.flag).size = 1 := by cases m.flag <;> rfl
    rw [← HBd.out]
    unfold headM
    simp only [ByteArray.size_append]
    omega)
  have HL := hid (And.intro l1 (And.intro l2 (And.intro l3 (And.intro l4 l5))))
  have hzw : ∀ u : World, (zeroValue 111).run Tryz.prog u = .ok (.agg #[.pointer none, .slice none 0 0]) u := fun u => zeroWr u
  have k2 := kept_alloc (kept_alloc (kept_refl w) (.cells #[.int .u8 m.kind, .int .u8 m.frm, .int .u8 m.dst, .int .u32 m.id, .int .u8 m.tgt, .int .u8 m.rng, .bool m.flag, .slice a1 n1 c1, .slice a2 n2 c2, .slice a3 n3 c3, .slice a4 n4 c4, .slice a5 n5 c5] 29)) (.cells #[.pointer none, .slice none 0 0] 111)
  have aM := at_alloc (at_new w #[.int .u8 m.kind, .int .u8 m.frm, .int .u8 m.dst, .int .u32 m.id, .int .u8 m.tgt, .int .u8 m.rng, .bool m.flag, .slice a1 n1 c1, .slice a2 n2 c2, .slice a3 n3 c3, .slice a4 n4 c4, .slice a5 n5 c5] 29) (.cells #[.pointer none, .slice none 0 0] 111)
  have aX := at_new (w.alloc (.cells #[.int .u8 m.kind, .int .u8 m.frm, .int .u8 m.dst, .int .u32 m.id, .int .u8 m.tgt, .int .u8 m.rng, .bool m.flag, .slice a1 n1 c1, .slice a2 n2 c2, .slice a3 n3 c3, .slice a4 n4 c4, .slice a5 n5 c5] 29)) #[.pointer none, .slice none 0 0] 111
  simp only [World.size_alloc] at aX
  have HB0 : Hid (Bld w (w.heap.size + 1) ⟨#[]⟩ (((w.alloc (.cells #[.int .u8 m.kind, .int .u8 m.frm, .int .u8 m.dst, .int .u32 m.id, .int .u8 m.tgt, .int .u8 m.rng, .bool m.flag, .slice a1 n1 c1, .slice a2 n2 c2, .slice a3 n3 c3, .slice a4 n4 c4, .slice a5 n5 c5] 29)).alloc (.cells #[.pointer none, .slice none 0 0] 111)).drew)) := hid ⟨⟨_, _, .inl rfl, at_drew aX, og_nil _ _ _ _ _⟩, kept_drew k2, by omega⟩
  have HA0 := hid (at_drew aM)
  have HXM : Hid (w.heap.size ≠ w.heap.size + 1) := hid (by omega)
  clear k2 aX l1 l2 l3 l4 l5 ok my h
  unfold msgV
  go_enter Tryz.func21, Tryz.ntmps21
  obtain ⟨⟨x0, x1, x2, x3, x4, x5, x6, x7, x8, x9, xa, xb⟩, -⟩ := cells12 aM
  go_wp2_with fail
  clear x0 x1 x2 x3 x4 x5 x6 x7 x8 x9 xa xb aM
  generalize hX : w.heap.size + 1 = X at *
  generalize hMM : w.heap.size = M at *
  refine wp_region_noPanic ?_
  refine wp_region_held_drew (S := (fun w' => (w'.cell? ⟨M, 3, none⟩ = some (.int .u32 m.id)) ∧ (w'.cell? ⟨M, 4, none⟩ = some (.int .u8 m.tgt)) ∧ (w'.cell? ⟨M, 5, none⟩ = some (.int .u8 m.rng)) ∧ (w'.cell? ⟨M, 6, none⟩ = some (.bool m.flag)))) (by kernel_rfl) ⟨at_cell HA0.out 3, at_cell HA0.out 4, at_cell HA0.out 5, at_cell HA0.out 6⟩ (fun hHeld => ?_)
  generalize hwd : (((w.alloc (.cells #[.int .u8 m.kind, .int .u8 m.frm, .int .u8 m.dst, .int .u32 m.id, .int .u8 m.tgt, .int .u8 m.rng, .bool m.flag, .slice a1 n1 c1, .slice a2 n2 c2, .slice a3 n3 c3, .slice a4 n4 c4, .slice a5 n5 c5] 29)).alloc (.cells #[.pointer none, .slice none 0 0] 111)).drew) = wd at *
  clear hwd
  have hS4 : ∀ u, WrT X wd u → (u.cell? ⟨M, 3, none⟩ = some (.int .u32 m.id)) ∧ (u.cell? ⟨M, 4, none⟩ = some (.int .u8 m.tgt)) ∧ (u.cell? ⟨M, 5, none⟩ = some (.int .u8 m.rng)) ∧ (u.cell? ⟨M, 6, none⟩ = some (.bool m.flag)) := fun u t => by
    have h9 := at_wrt HA0.out t HXM.out (by decide)
    exact ⟨at_cell h9 3, at_cell h9 4, at_cell h9 5, at_cell h9 6⟩
  have T0 := wrt_refl X wd
  refine wpAnyH_take (i := 0) (v := .pointer (some ⟨X, 0, none⟩)) rfl (by kernel_rfl) (by kernel_rfl) (by kernel_rfl) (fun _ _ _ h => h) (Or.inl ⟨by rfl, fun w hSw => by (try dsimp only at hSw); go_simp⟩) (by assumption) ?_
  try simp only [List.getElem_toArray, List.getElem_cons_zero, List.getElem_cons_succ, Act.put, List.setIfInBounds_toArray, List.set_cons_zero, List.set_cons_succ]
  refine wpAnyH_take (i := 1) (v := .pointer (some ⟨M, 3, none⟩)) rfl (by kernel_rfl) (by kernel_rfl) (by kernel_rfl) (fun _ _ _ h => h) (Or.inl ⟨by rfl, fun w hSw => by (try dsimp only at hSw); go_simp⟩) (by assumption) ?_
  try simp only [List.getElem_toArray, List.getElem_cons_zero, List.getElem_cons_succ, Act.put, List.setIfInBounds_toArray, List.set_cons_zero, List.set_cons_succ]
  refine wpAnyH_take (i := 2) (v := .int .u32 m.id) rfl (by kernel_rfl) (by kernel_rfl) (by kernel_rfl) (fun _ _ _ h => h) (Or.inl ⟨by rfl, fun w hSw => by (try dsimp only at hSw); go_simp⟩) (by assumption) ?_
  try simp only [List.getElem_toArray, List.getElem_cons_zero, List.getElem_cons_succ, Act.put, List.setIfInBounds_toArray, List.set_cons_zero, List.set_cons_succ]
  refine wpAnyH_take (i := 3) (v := .int .u64 m.id) rfl (by kernel_rfl) (by kernel_rfl) (by kernel_rfl) (fun _ _ _ h => h) (Or.inl ⟨by rfl, fun w hSw => by (try dsimp only at hSw); go_simp⟩) (by assumption) ?_
  try simp only [List.getElem_toArray, List.getElem_cons_zero, List.getElem_cons_succ, Act.put, List.setIfInBounds_toArray, List.set_cons_zero, List.set_cons_succ]
  refine wpAnyH_take (i := 4) (v := .pointer (some ⟨M, 4, none⟩)) rfl (by kernel_rfl) (by kernel_rfl) (by kernel_rfl) (fun _ _ _ h => h) (Or.inl ⟨by rfl, fun w hSw => by (try dsimp only at hSw); go_simp⟩) (by assumption) ?_
  try simp only [List.getElem_toArray, List.getElem_cons_zero, List.getElem_cons_succ, Act.put, List.setIfInBounds_toArray, List.set_cons_zero, List.set_cons_succ]
  refine wpAnyH_take (i := 5) (v := .int .u8 m.tgt) rfl (by kernel_rfl) (by kernel_rfl) (by kernel_rfl) (fun _ _ _ h => h) (Or.inl ⟨by rfl, fun w hSw => by (try dsimp only at hSw); go_simp⟩) (by assumption) ?_
  try simp only [List.getElem_toArray, List.getElem_cons_zero, List.getElem_cons_succ, Act.put, List.setIfInBounds_toArray, List.set_cons_zero, List.set_cons_succ]
  refine wpAnyH_take (i := 6) (v := .int .u64 m.tgt) rfl (by kernel_rfl) (by kernel_rfl) (by kernel_rfl) (fun _ _ _ h => h) (Or.inl ⟨by rfl, fun w hSw => by (try dsimp only at hSw); go_simp⟩) (by assumption) ?_
  try simp only [List.getElem_toArray, List.getElem_cons_zero, List.getElem_cons_succ, Act.put, List.setIfInBounds_toArray, List.set_cons_zero, List.set_cons_succ]
  refine wpAnyH_take (i := 7) (v := .pointer (some ⟨M, 5, none⟩)) rfl (by kernel_rfl) (by kernel_rfl) (by kernel_rfl) (fun _ _ _ h => h) (Or.inl ⟨by rfl, fun w hSw => by (try dsimp only at hSw); go_simp⟩) (by assumption) ?_
  try simp only [List.getElem_toArray, List.getElem_cons_zero, List.getElem_cons_succ, Act.put, List.setIfInBounds_toArray, List.set_cons_zero, List.set_cons_succ]
  refine wpAnyH_take (i := 8) (v := .int .u8 m.rng) rfl (by kernel_rfl) (by kernel_rfl) (by kernel_rfl) (fun _ _ _ h => h) (Or.inl ⟨by rfl, fun w hSw => by (try dsimp only at hSw); go_simp⟩) (by assumption) ?_
  try simp only [List.getElem_toArray, List.getElem_cons_zero, List.getElem_cons_succ, Act.put, List.setIfInBounds_toArray, List.set_cons_zero, List.set_cons_succ]
  refine wpAnyH_take (i := 9) (v := .int .u64 m.rng) rfl (by kernel_rfl) (by kernel_rfl) (by kernel_rfl) (fun _ _ _ h => h) (Or.inl ⟨by rfl, fun w hSw => by (try dsimp only at hSw); go_simp⟩) (by assumption) ?_
  try simp only [List.getElem_toArray, List.getElem_cons_zero, List.getElem_cons_succ, Act.put, List.setIfInBounds_toArray, List.set_cons_zero, List.set_cons_succ]
  refine wpAnyH_take (i := 10) (v := .pointer (some ⟨M, 6, none⟩)) rfl (by kernel_rfl) (by kernel_rfl) (by kernel_rfl) (fun _ _ _ h => h) (Or.inl ⟨by rfl, fun w hSw => by (try dsimp only at hSw); go_simp⟩) (by assumption) ?_
  try simp only [List.getElem_toArray, List.getElem_cons_zero, List.getElem_cons_succ, Act.put, List.setIfInBounds_toArray, List.set_cons_zero, List.set_cons_succ]
  refine wpAnyH_take (i := 11) (v := .bool m.flag) rfl (by kernel_rfl) (by kernel_rfl) (by kernel_rfl) (fun _ _ _ h => h) (Or.inl ⟨by rfl, fun w hSw => by (try dsimp only at hSw); go_simp⟩) (by assumption) ?_
  try simp only [List.getElem_toArray, List.getElem_cons_zero, List.getElem_cons_succ, Act.put, List.setIfInBounds_toArray, List.set_cons_zero, List.set_cons_succ]
  have hBit := ldBit_any m.flag
  rw [hfl] at hBit
  refine wpAnyH_ready (rs := [12]) (by kernel_rfl) (by simp) ?_
  refine AllReadyH.cons (i := 12) rfl (fun K hK => ?_) AllReadyH.nil
  go_simp
  refine (hBit _).mono ?_
  rintro e w3 ⟨rfl, rfl⟩
  clear hHeld
  show K _ _
  refine hK.out _ _ (hS4 _ (by assumption)) (fun hHeld => ?_)
  clear hK K
  try simp only [List.getElem_toArray, List.getElem_cons_zero, List.getElem_cons_succ, Act.put, List.setIfInBounds_toArray, List.set_cons_zero, List.set_cons_succ]
  refine wpAnyH_ready (rs := [13]) (by kernel_rfl) (by simp) ?_
  refine AllReadyH.cons (i := 13) rfl (fun K hK => ?_) AllReadyH.nil
  have k3 := kept_alloc (kept_refl w3) (.cells #[.int .u64 m.id, .int .u64 m.tgt, .int .u64 m.rng, .int .u64 fl] 53)
  have HG3 := hid (at_new w3 #[.int .u64 m.id, .int .u64 m.tgt, .int .u64 m.rng, .int .u64 fl] 53)
  have HB3 := hid (bld_kept HB0.out k3)
  have T3 : WrT X w3 (w3.alloc (.cells #[.int .u64 m.id, .int .u64 m.tgt, .int .u64 m.rng, .int .u64 fl] 53)) := wrt_kept k3
  clear k3 T0
  go_simp
  show K _ (w3.alloc (.cells #[.int .u64 m.id, .int .u64 m.tgt, .int .u64 m.rng, .int .u64 fl] 53))
  generalize hGn : w3.heap.size = G at *
  generalize w3.alloc (.cells #[.int .u64 m.id, .int .u64 m.tgt, .int .u64 m.rng, .int .u64 fl] 53) = w3b at *
  clear hHeld
  show K _ _
  refine hK.out _ _ (hS4 _ (by assumption)) (fun hHeld => ?_)
  clear hK K
  try simp only [List.getElem_toArray, List.getElem_cons_zero, List.getElem_cons_succ, Act.put, List.setIfInBounds_toArray, List.set_cons_zero, List.set_cons_succ]
  refine wpAnyH_ready (rs := [14]) (by kernel_rfl) (by simp) ?_
  refine AllReadyH.cons (i := 14) rfl (fun K hK => ?_) AllReadyH.nil
  go_simp
  refine (ldNums_any w X ⟨#[]⟩ _ HB3.out (by decide) [m.id, m.tgt, m.rng, fl] (by simp) (by intro y hy; simp at hy; rcases hy with rfl | rfl | rfl | rfl <;> omega) G HG3.out).mono ?_
  rintro e w4 ⟨rfl, hb4, t4⟩
  rw [HHd.out] at hb4
  have HB4 := hid hb4
  have T4 := wrt_trans T3 t4
  have HA4 := hid (at_wrt HA0.out T4 HXM.out (by decide))
  clear hb4 t4 T3
  clear hHeld
  show K _ _
  refine hK.out _ _ (hS4 _ (by assumption)) (fun hHeld => ?_)
  clear hK K
  try simp only [List.getElem_toArray, List.getElem_cons_zero, List.getElem_cons_succ, Act.put, List.setIfInBounds_toArray, List.set_cons_zero, List.set_cons_succ]
  refine wpAnyH_done (by kernel_rfl) ?_ _
  refine NoPanic.normal ?_
  clear hHeld hS4
  clear T4
  obtain ⟨⟨y0, y1, y2, y3, y4, y5, y6, y7, y8, y9, ya, yb⟩, -⟩ := cells12 HA4.out
  go_wp2_with fail
  refine (ldListN_w w X (headM m) _ HB4.out (by (try simp only [ByteArray.size_append]); omega) m.news HL.out.1 (fun x hx => HF.out.n x hx) _ HM.out.n).mono ?_
  rintro e w5 ⟨rfl, hb5, t5⟩
  have HB5 := hid hb5
  have HA5 := hid (at_wrt HA4.out t5 HXM.out (by decide))
  clear hb5 t5 HB4 HA4 y0 y1 y2 y3 y4 y5 y6 y7 y8 y9 ya yb
  obtain ⟨⟨y0, y1, y2, y3, y4, y5, y6, y7, y8, y9, ya, yb⟩, -⟩ := cells12 HA5.out
  go_wp2_with fail
  refine (ldListK_w w X (headM m ++ listB newsB m.news) _ HB5.out (by (try simp only [ByteArray.size_append]); omega) m.keys HL.out.2.1 (fun x hx => HF.out.k2 x hx) _ HM.out.k).mono ?_
  rintro e w6 ⟨rfl, hb6, t6⟩
  have HB6 := hid hb6
  have HA6 := hid (at_wrt HA5.out t6 HXM.out (by decide))
  clear hb6 t6 HB5 HA5 y0 y1 y2 y3 y4 y5 y6 y7 y8 y9 ya yb
  obtain ⟨⟨y0, y1, y2, y3, y4, y5, y6, y7, y8, y9, ya, yb⟩, -⟩ := cells12 HA6.out
  go_wp2_with fail
  refine (ldListR_w w X (headM m ++ listB newsB m.news ++ listB textE m.keys) _ HB6.out (by (try simp only [ByteArray.size_append]); omega) m.recs HL.out.2.2.1 (fun x hx => HF.out.r x hx) _ HM.out.r).mono ?_
  rintro e w7 ⟨rfl, hb7, t7⟩
  have HB7 := hid hb7
  have HA7 := hid (at_wrt HA6.out t7 HXM.out (by decide))
  clear hb7 t7 HB6 HA6 y0 y1 y2 y3 y4 y5 y6 y7 y8 y9 ya yb
  obtain ⟨⟨y0, y1, y2, y3, y4, y5, y6, y7, y8, y9, ya, yb⟩, -⟩ := cells12 HA7.out
  go_wp2_with fail
  refine (ldListS_w w X (headM m ++ listB newsB m.news ++ listB textE m.keys ++ listB putR m.recs) _ HB7.out (by (try simp only [ByteArray.size_append]); omega) m.seen HL.out.2.2.2.1 (fun x hx => HF.out.s x hx) _ HM.out.s).mono ?_
  rintro e w8 ⟨rfl, hb8, t8⟩
  have HB8 := hid hb8
  have HA8 := hid (at_wrt HA7.out t8 HXM.out (by decide))
  clear hb8 t8 HB7 HA7 y0 y1 y2 y3 y4 y5 y6 y7 y8 y9 ya yb
  obtain ⟨⟨y0, y1, y2, y3, y4, y5, y6, y7, y8, y9, ya, yb⟩, -⟩ := cells12 HA8.out
  go_wp2_with fail
  refine (ldListG_w w X (headM m ++ listB newsB m.news ++ listB textE m.keys ++ listB putR m.recs ++ listB seenB m.seen) _ HB8.out (by (try simp only [ByteArray.size_append]); omega) m.digs HL.out.2.2.2.2 (fun x hx => HF.out.d x hx) _ HM.out.d).mono ?_
  rintro e w9 ⟨rfl, hb9, t9⟩
  have HB9 := hid hb9
  have HA9 := hid (at_wrt HA8.out t9 HXM.out (by decide))
  clear hb9 t9 HB8 HA8 y0 y1 y2 y3 y4 y5 y6 y7 y8 y9 ya yb
  rw [HBd.out] at HB9
  go_wp2_with fail
  refine (string_any w X (bodyM m) _ HB9.out HPos.out).mono ?_
  rintro e w10 ⟨rfl, k10⟩
  go_wp2_with fail
  go_ret
  exact ⟨rfl, k10⟩
end Go.Proofs.YtioeidhblbfgmaaGreat
