/- The contract of the reference's set: it answers what the plain function does, of any row of words that is a set. The line has at most 5000 bytes. It turns nothing that was there. -/
import Derived.Test.YtjlojkcdglocbaaRefSet
import Derived.OrdersHeld
import Derived.Deep.RegionHeld3
namespace Go.Proofs.Ytjlojkcdglocbaa
open Go.ChangeShapes Go.WideShapes Go.ChangeAt Go.RowKit
set_option linter.unusedVariables false
set_option linter.unusedSimpArgs false

set_option maxHeartbeats 1600000 in
set_option maxRecDepth 100000 in
theorem rs5_g (d f t : Int) (A cap : Nat) (x1 x2 x3 x4 : ByteArray) (c : Cm) (hc : c = ⟨2, [x1], f, t, false, mt⟩) (lt : Bool) (hd : ¬ d < 0) (hf : 0 ≤ f ∧ f < 4294967296) (hbig : ¬ 1024 < d) (w : World) (hx : ∀ u, Kept w u → u.cell? ⟨A, 1, none⟩ = some (.string x1) ∧ u.cell? ⟨A, 2, none⟩ = some (.string x2) ∧ u.cell? ⟨A, 3, none⟩ = some (.string x3) ∧ u.cell? ⟨A, 4, none⟩ = some (.string x4)) (hD : ∀ w, Calls Try.prog 31 #[.string x4] w fun e w' => e = .returned (.int .i64 d) ∧ w' = w) (hM : ∀ w, Calls Try.prog 22 #[.string x1] w fun e w' => e = .returned (.bool true) ∧ w' = w) (hF : ∀ w, Calls Try.prog 31 #[.string x2] w fun e w' => e = .returned (.int .i64 f) ∧ w' = w) (hT : ∀ w, Calls Try.prog 23 #[.string x3] w fun e w' => e = .returned (.tuple #[.int .i64 t, .bool true]) ∧ w' = w) :
    Calls Try.prog 24 #[.slice (some ⟨A, 0, none⟩) 5 cap, .bool lt] w fun e w' => ∃ kv, e = .returned (.tuple #[.agg #[.int .i64 c.kind, kv, .int .u32 c.flags, .int .i64 c.exp, .string ⟨#[]⟩, .bool c.quiet, .string c.reply], .int .i64 d]) ∧ Keys w' kv c.keys ∧ Kept w w' := by
  have hz := zero26
  have HA : Hid (At (w.alloc (.cells #[.int .i64 0, .slice none 0 0, .int .u32 0, .int .i64 0, .string ⟨#[]⟩, .bool false, .string ⟨#[]⟩] 38)) w.heap.size #[.int .i64 0, .slice none 0 0, .int .u32 0, .int .i64 0, .string ⟨#[]⟩, .bool false, .string ⟨#[]⟩] 38) := at_new _ _ _
  have HK : Hid (Kept w (w.alloc (.cells #[.int .i64 0, .slice none 0 0, .int .u32 0, .int .i64 0, .string ⟨#[]⟩, .bool false, .string ⟨#[]⟩] 38))) := kept_alloc (kept_refl w) _
  have HY : Hid (∀ (u : World) (a0 a1 a2 a3 a4 a5 a6 : Value), Kept w u → Kept w (set7 u w.heap.size a0 a1 a2 a3 a4 a5 a6)) := fun u a0 a1 a2 a3 a4 a5 a6 h => kept_set7 h (Nat.le_refl _) _ _ _ _ _ _ _
  have hfw : IntKind.u32.wrap f = f := by rw [IntKind.wrap_u32]; omega
  have hf0 : ¬ f < 0 := by omega
  have HLS : Hid (∀ u, Kept w u → u.cell? ⟨A, 1, none⟩ = some (.string x1) ∧ u.cell? ⟨A, 2, none⟩ = some (.string x2)) := fun u hu => ⟨(hx u hu).1, (hx u hu).2.1⟩
  have HFK : Hid (∀ w, Calls Try.prog 31 #[.string x2] w fun e w' => e = .returned (.int .i64 f) ∧ Kept w w') := fun w => (hF w).mono fun e w' ⟨he, hw⟩ => ⟨he, by rw [hw]; exact kept_refl w⟩
  have HX := hid hx
  have HD := hid hD
  have HM := hid hM
  have HF := hid hF
  have HT := hid hT
  clear hx hD hM hF hT
  go_enter Try.func24, Try.ntmps24
  go_wp2_with fail
  generalize w.alloc (.cells #[.int .i64 0, .slice none 0 0, .int .u32 0, .int .i64 0, .string ⟨#[]⟩, .bool false, .string ⟨#[]⟩] 38) = wa at *
  generalize w.heap.size = X at *
  refine (Bad_fmt _).mono ?_
  rintro e w2 ⟨rfl, hk2⟩
  have AX := hid (at_alloc (at_kept HA.out hk2) (.cells #[.int .i64 8, .slice none 0 0, .int .u32 0, .int .i64 0, .string ⟨#[]⟩, .bool false, .string rFmt] 38))
  have AY := hid (at_new w2 #[.int .i64 8, .slice none 0 0, .int .u32 0, .int .i64 0, .string ⟨#[]⟩, .bool false, .string rFmt] 38)
  have KV := hid (kept_alloc (kept_trans HK.out hk2) (.cells #[.int .i64 8, .slice none 0 0, .int .u32 0, .int .i64 0, .string ⟨#[]⟩, .bool false, .string rFmt] 38))
  clear hk2 HA HK
  obtain ⟨hx1, hx2, hx3, hx4⟩ := HX.out _ KV.out
  go_wp2_with fail
  generalize w2.alloc (.cells #[.int .i64 8, .slice none 0 0, .int .u32 0, .int .i64 0, .string ⟨#[]⟩, .bool false, .string rFmt] 38) = v at *
  generalize w2.heap.size = Y at *
  refine (HD.out _).mono ?_
  rintro e u1 ⟨rfl, hu⟩
  rw [hu]; clear hu u1
  go_wp2_with fail
  refine (HM.out _).mono ?_
  rintro e u1 ⟨rfl, hu⟩
  rw [hu]; clear hu u1
  go_wp2_with fail
  refine (HF.out _).mono ?_
  rintro e u1 ⟨rfl, hu⟩
  rw [hu]; clear hu u1
  go_wp2_with fail
  refine (HT.out _).mono ?_
  rintro e u1 ⟨rfl, hu⟩
  rw [hu]; clear hu u1
  go_wp2_with fail
  clear hx1 hx2 hx3 hx4
  have kv := KV.out
  refine wp_region_noPanic ?_
  refine wp_region_held_drew (S := (fun w' => w'.cell? ⟨A, 1, none⟩ = some (.string x1) ∧ w'.cell? ⟨A, 2, none⟩ = some (.string x2))) (by kernel_rfl) (HLS.out _ (by repeat (first | with_reducible assumption | with_reducible apply kept_drew | with_reducible apply kept_alloc))) (fun hHeld => ?_)
  refine wpAnyH_take (i := 0) (v := .slice (some ⟨A, 0, none⟩) 5 cap) rfl (by kernel_rfl) (by kernel_rfl) (by kernel_rfl) (fun _ _ _ h => h) (Or.inl ⟨by rfl, fun w hSw => by (try dsimp only at hSw); go_simp⟩) (by assumption) ?_
  try simp only [List.getElem_toArray, List.getElem_cons_zero, List.getElem_cons_succ, Act.put, List.setIfInBounds_toArray, List.set_cons_zero, List.set_cons_succ]
  refine wpAnyH_take (i := 1) (v := .pointer (some ⟨A, 1, none⟩)) rfl (by kernel_rfl) (by kernel_rfl) (by kernel_rfl) (fun _ _ _ h => h) (Or.inl ⟨by rfl, fun w hSw => by (try dsimp only at hSw); go_simp⟩) (by assumption) ?_
  try simp only [List.getElem_toArray, List.getElem_cons_zero, List.getElem_cons_succ, Act.put, List.setIfInBounds_toArray, List.set_cons_zero, List.set_cons_succ]
  refine wpAnyH_take (i := 2) (v := .string x1) rfl (by kernel_rfl) (by kernel_rfl) (by kernel_rfl) (fun _ _ _ h => h) (Or.inl ⟨by rfl, fun w hSw => by (try dsimp only at hSw); go_simp⟩) (by assumption) ?_
  try simp only [List.getElem_toArray, List.getElem_cons_zero, List.getElem_cons_succ, Act.put, List.setIfInBounds_toArray, List.set_cons_zero, List.set_cons_succ]
  refine wpAnyH_take (i := 4) (v := .slice (some ⟨A, 0, none⟩) 5 cap) rfl (by kernel_rfl) (by kernel_rfl) (by kernel_rfl) (fun _ _ _ h => h) (Or.inl ⟨by rfl, fun w hSw => by (try dsimp only at hSw); go_simp⟩) (by assumption) ?_
  try simp only [List.getElem_toArray, List.getElem_cons_zero, List.getElem_cons_succ, Act.put, List.setIfInBounds_toArray, List.set_cons_zero, List.set_cons_succ]
  refine wpAnyH_take (i := 5) (v := .pointer (some ⟨A, 2, none⟩)) rfl (by kernel_rfl) (by kernel_rfl) (by kernel_rfl) (fun _ _ _ h => h) (Or.inl ⟨by rfl, fun w hSw => by (try dsimp only at hSw); go_simp⟩) (by assumption) ?_
  try simp only [List.getElem_toArray, List.getElem_cons_zero, List.getElem_cons_succ, Act.put, List.setIfInBounds_toArray, List.set_cons_zero, List.set_cons_succ]
  refine wpAnyH_take (i := 6) (v := .string x2) rfl (by kernel_rfl) (by kernel_rfl) (by kernel_rfl) (fun _ _ _ h => h) (Or.inl ⟨by rfl, fun w hSw => by (try dsimp only at hSw); go_simp⟩) (by assumption) ?_
  try simp only [List.getElem_toArray, List.getElem_cons_zero, List.getElem_cons_succ, Act.put, List.setIfInBounds_toArray, List.set_cons_zero, List.set_cons_succ]
  refine wpAnyH_take (i := 9) (v := .int .i64 t) rfl (by kernel_rfl) (by kernel_rfl) (by kernel_rfl) (fun _ _ _ h => h) (Or.inl ⟨by rfl, fun w hSw => by (try dsimp only at hSw); go_simp⟩) (by assumption) ?_
  try simp only [List.getElem_toArray, List.getElem_cons_zero, List.getElem_cons_succ, Act.put, List.setIfInBounds_toArray, List.set_cons_zero, List.set_cons_succ]
  refine wpAnyH_take (i := 10) (v := .int .i64 5) rfl (by kernel_rfl) (by kernel_rfl) (by kernel_rfl) (fun _ _ _ h => h) (Or.inl ⟨by rfl, fun w hSw => by (try dsimp only at hSw); go_simp⟩) (by assumption) ?_
  try simp only [List.getElem_toArray, List.getElem_cons_zero, List.getElem_cons_succ, Act.put, List.setIfInBounds_toArray, List.set_cons_zero, List.set_cons_succ]
  refine wpAnyH_take (i := 11) (v := .bool false) rfl (by kernel_rfl) (by kernel_rfl) (by kernel_rfl) (fun _ _ _ h => h) (Or.inl ⟨by rfl, fun w hSw => by (try dsimp only at hSw); go_simp⟩) (by assumption) ?_
  try simp only [List.getElem_toArray, List.getElem_cons_zero, List.getElem_cons_succ, Act.put, List.setIfInBounds_toArray, List.set_cons_zero, List.set_cons_succ]
  refine wpAnyH_take (i := 13) (v := .int .i64 d) rfl (by kernel_rfl) (by kernel_rfl) (by kernel_rfl) (fun _ _ _ h => h) (Or.inl ⟨by rfl, fun w hSw => by (try dsimp only at hSw); go_simp⟩) (by assumption) ?_
  try simp only [List.getElem_toArray, List.getElem_cons_zero, List.getElem_cons_succ, Act.put, List.setIfInBounds_toArray, List.set_cons_zero, List.set_cons_succ]
  refine wpAnyH_ready (rs := [3, 7]) (by kernel_rfl) (by simp) ?_
  refine AllReadyH.cons (i := 3) rfl (fun K hK => ?_) ?_
  · go_simp
    have kK := keys_kept (keys_one v x1 9) (kept_drew (kept_refl _))
    have kW := kept_drew (kept_alloc KV.out (.cells #[.string x1] 9))
    have aX := at_drew (at_alloc AX.out (.cells #[.string x1] 9))
    have nB : v.heap.size ≠ X := by have := at_lt AX.out; omega
    show K _ (v.alloc (.cells #[.string x1] 9)).drew
    generalize (v.alloc (.cells #[.string x1] 9)).drew = wb at *
    generalize v.heap.size = bb at *
    refine hK.out _ _ (HLS.out _ (by repeat (first | with_reducible assumption | with_reducible apply kept_drew | with_reducible apply kept_alloc))) (fun hHeld => ?_)
    clear hK K
    try simp only [List.getElem_toArray, List.getElem_cons_zero, List.getElem_cons_succ, Act.put, List.setIfInBounds_toArray, List.set_cons_zero, List.set_cons_succ]
    refine wpAnyH_ready (rs := [7]) (by kernel_rfl) (by simp) ?_
    refine AllReadyH.cons (i := 7) rfl (fun K hK => ?_) AllReadyH.nil
    go_simp
    refine (HFK.out _).mono ?_
    rintro e w4 ⟨rfl, h4⟩
    replace kK := keys_kept kK h4
    replace kW := kept_trans kW h4
    replace aX := at_kept aX h4
    clear h4
    show K _ _
    refine hK.out _ _ (HLS.out _ (by repeat (first | with_reducible assumption | with_reducible apply kept_drew | with_reducible apply kept_alloc))) (fun hHeld => ?_)
    clear hK K
    try simp only [List.getElem_toArray, List.getElem_cons_zero, List.getElem_cons_succ, Act.put, List.setIfInBounds_toArray, List.set_cons_zero, List.set_cons_succ]
    refine wpAnyH_take (i := 8) (v := .int .u32 f) rfl (by kernel_rfl) (by kernel_rfl) (by kernel_rfl) (fun _ _ _ h => h) (Or.inl ⟨by rfl, fun w hSw => by (try dsimp only at hSw); go_simp; try (rw [hfw])⟩) (by assumption) ?_
    try simp only [List.getElem_toArray, List.getElem_cons_zero, List.getElem_cons_succ, Act.put, List.setIfInBounds_toArray, List.set_cons_zero, List.set_cons_succ]
    refine wpAnyH_take (i := 12) (v := .agg #[.int .i64 2, .slice (some ⟨bb, 0, none⟩) 1 1, .int .u32 f, .int .i64 t, .string ⟨#[]⟩, .bool false, .string ⟨#[]⟩]) rfl (by kernel_rfl) (by kernel_rfl) (by kernel_rfl) (fun _ _ _ h => h) (Or.inl ⟨by rfl, fun w hSw => by (try dsimp only at hSw); go_simp⟩) (by assumption) ?_
    try simp only [List.getElem_toArray, List.getElem_cons_zero, List.getElem_cons_succ, Act.put, List.setIfInBounds_toArray, List.set_cons_zero, List.set_cons_succ]
    refine wpAnyH_ready (rs := [14]) (by kernel_rfl) (by simp) ?_
    refine AllReadyH.cons (i := 14) rfl (fun K hK => ?_) AllReadyH.nil
    obtain ⟨c0, c1, c2, c3, c4, c5, c6, fr⟩ := at_cells7 aX
    go_simp
    have AE := hid (at_set7 aX (.int .i64 2) (.slice (some ⟨bb, 0, none⟩) 1 1) (.int .u32 f) (.int .i64 t) (.string ⟨#[]⟩) (.bool false) (.string ⟨#[]⟩))
    have KE := hid (keys_set7 kK (fun A' n' cap' h => by cases h; exact nB) (.int .i64 2) (.slice (some ⟨bb, 0, none⟩) 1 1) (.int .u32 f) (.int .i64 t) (.string ⟨#[]⟩) (.bool false) (.string ⟨#[]⟩))
    have KW := hid (HY.out w4 (.int .i64 2) (.slice (some ⟨bb, 0, none⟩) 1 1) (.int .u32 f) (.int .i64 t) (.string ⟨#[]⟩) (.bool false) (.string ⟨#[]⟩) kW)
    show K _ (set7 w4 X (.int .i64 2) (.slice (some ⟨bb, 0, none⟩) 1 1) (.int .u32 f) (.int .i64 t) (.string ⟨#[]⟩) (.bool false) (.string ⟨#[]⟩))
    generalize set7 w4 X (.int .i64 2) (.slice (some ⟨bb, 0, none⟩) 1 1) (.int .u32 f) (.int .i64 t) (.string ⟨#[]⟩) (.bool false) (.string ⟨#[]⟩) = wz at *
    have kW := KW.out
    refine hK.out _ _ (HLS.out _ KW.out) (fun hHeld => ?_)
    clear hK K
    try simp only [List.getElem_toArray, List.getElem_cons_zero, List.getElem_cons_succ, Act.put, List.setIfInBounds_toArray, List.set_cons_zero, List.set_cons_succ]
    refine wpAnyH_take (i := 15) (v := .int .i64 d) rfl (by kernel_rfl) (by kernel_rfl) (by kernel_rfl) (fun _ _ _ h => h) (Or.inl ⟨by rfl, fun w hSw => by (try dsimp only at hSw); go_simp⟩) (by assumption) ?_
    try simp only [List.getElem_toArray, List.getElem_cons_zero, List.getElem_cons_succ, Act.put, List.setIfInBounds_toArray, List.set_cons_zero, List.set_cons_succ]
    refine wpAnyH_done (by kernel_rfl) ?_ _
    refine NoPanic.normal ?_
    go_wp2_with fail
    refine bodyPost_ret (res2 rfl _ rfl rfl AE.out) rfl ?_
    subst hc
    exact ⟨_, rfl, KE.out, KW.out⟩
  refine AllReadyH.cons (i := 7) rfl (fun K hK => ?_) AllReadyH.nil
  go_simp
  refine (HFK.out _).mono ?_
  rintro e w3 ⟨rfl, h3⟩
  have k3 := kept_trans (kept_drew KV.out) h3
  have a3 := at_kept (at_drew AX.out) h3
  clear h3
  show K _ _
  refine hK.out _ _ (HLS.out _ (by repeat (first | with_reducible assumption | with_reducible apply kept_drew | with_reducible apply kept_alloc))) (fun hHeld => ?_)
  clear hK K
  try simp only [List.getElem_toArray, List.getElem_cons_zero, List.getElem_cons_succ, Act.put, List.setIfInBounds_toArray, List.set_cons_zero, List.set_cons_succ]
  refine wpAnyH_take (i := 8) (v := .int .u32 f) rfl (by kernel_rfl) (by kernel_rfl) (by kernel_rfl) (fun _ _ _ h => h) (Or.inl ⟨by rfl, fun w hSw => by (try dsimp only at hSw); go_simp; try (rw [hfw])⟩) (by assumption) ?_
  try simp only [List.getElem_toArray, List.getElem_cons_zero, List.getElem_cons_succ, Act.put, List.setIfInBounds_toArray, List.set_cons_zero, List.set_cons_succ]
  refine wpAnyH_ready (rs := [3]) (by kernel_rfl) (by simp) ?_
  refine AllReadyH.cons (i := 3) rfl (fun K hK => ?_) AllReadyH.nil
  go_simp
  have kK := keys_one w3 x1 9
  have kW := kept_alloc k3 (.cells #[.string x1] 9)
  have aX := at_alloc a3 (.cells #[.string x1] 9)
  have nB : w3.heap.size ≠ X := by have := at_lt a3; omega
  show K _ (w3.alloc (.cells #[.string x1] 9))
  generalize w3.alloc (.cells #[.string x1] 9) = wb at *
  generalize w3.heap.size = bb at *
  refine hK.out _ _ (HLS.out _ (by repeat (first | with_reducible assumption | with_reducible apply kept_drew | with_reducible apply kept_alloc))) (fun hHeld => ?_)
  clear hK K
  try simp only [List.getElem_toArray, List.getElem_cons_zero, List.getElem_cons_succ, Act.put, List.setIfInBounds_toArray, List.set_cons_zero, List.set_cons_succ]
  refine wpAnyH_take (i := 12) (v := .agg #[.int .i64 2, .slice (some ⟨bb, 0, none⟩) 1 1, .int .u32 f, .int .i64 t, .string ⟨#[]⟩, .bool false, .string ⟨#[]⟩]) rfl (by kernel_rfl) (by kernel_rfl) (by kernel_rfl) (fun _ _ _ h => h) (Or.inl ⟨by rfl, fun w hSw => by (try dsimp only at hSw); go_simp⟩) (by assumption) ?_
  try simp only [List.getElem_toArray, List.getElem_cons_zero, List.getElem_cons_succ, Act.put, List.setIfInBounds_toArray, List.set_cons_zero, List.set_cons_succ]
  refine wpAnyH_ready (rs := [14]) (by kernel_rfl) (by simp) ?_
  refine AllReadyH.cons (i := 14) rfl (fun K hK => ?_) AllReadyH.nil
  obtain ⟨c0, c1, c2, c3, c4, c5, c6, fr⟩ := at_cells7 aX
  go_simp
  have AE := hid (at_set7 aX (.int .i64 2) (.slice (some ⟨bb, 0, none⟩) 1 1) (.int .u32 f) (.int .i64 t) (.string ⟨#[]⟩) (.bool false) (.string ⟨#[]⟩))
  have KE := hid (keys_set7 kK (fun A' n' cap' h => by cases h; exact nB) (.int .i64 2) (.slice (some ⟨bb, 0, none⟩) 1 1) (.int .u32 f) (.int .i64 t) (.string ⟨#[]⟩) (.bool false) (.string ⟨#[]⟩))
  have KW := hid (HY.out wb (.int .i64 2) (.slice (some ⟨bb, 0, none⟩) 1 1) (.int .u32 f) (.int .i64 t) (.string ⟨#[]⟩) (.bool false) (.string ⟨#[]⟩) kW)
  show K _ (set7 wb X (.int .i64 2) (.slice (some ⟨bb, 0, none⟩) 1 1) (.int .u32 f) (.int .i64 t) (.string ⟨#[]⟩) (.bool false) (.string ⟨#[]⟩))
  generalize set7 wb X (.int .i64 2) (.slice (some ⟨bb, 0, none⟩) 1 1) (.int .u32 f) (.int .i64 t) (.string ⟨#[]⟩) (.bool false) (.string ⟨#[]⟩) = wz at *
  have kW := KW.out
  refine hK.out _ _ (HLS.out _ KW.out) (fun hHeld => ?_)
  clear hK K
  try simp only [List.getElem_toArray, List.getElem_cons_zero, List.getElem_cons_succ, Act.put, List.setIfInBounds_toArray, List.set_cons_zero, List.set_cons_succ]
  refine wpAnyH_take (i := 15) (v := .int .i64 d) rfl (by kernel_rfl) (by kernel_rfl) (by kernel_rfl) (fun _ _ _ h => h) (Or.inl ⟨by rfl, fun w hSw => by (try dsimp only at hSw); go_simp⟩) (by assumption) ?_
  try simp only [List.getElem_toArray, List.getElem_cons_zero, List.getElem_cons_succ, Act.put, List.setIfInBounds_toArray, List.set_cons_zero, List.set_cons_succ]
  refine wpAnyH_done (by kernel_rfl) ?_ _
  refine NoPanic.normal ?_
  go_wp2_with fail
  refine bodyPost_ret (res2 rfl _ rfl rfl AE.out) rfl ?_
  subst hc
  exact ⟨_, rfl, KE.out, KW.out⟩
set_option maxHeartbeats 1600000 in
set_option maxRecDepth 100000 in
theorem rs6_g (d f t : Int) (A cap : Nat) (x1 x2 x3 x4 : ByteArray) (c : Cm) (hc : c = ⟨2, [x1], f, t, true, mt⟩) (hd : ¬ d < 0) (hf : 0 ≤ f ∧ f < 4294967296) (hbig : ¬ 1024 < d) (w : World) (hx : ∀ u, Kept w u → u.cell? ⟨A, 1, none⟩ = some (.string x1) ∧ u.cell? ⟨A, 2, none⟩ = some (.string x2) ∧ u.cell? ⟨A, 3, none⟩ = some (.string x3) ∧ u.cell? ⟨A, 4, none⟩ = some (.string x4)) (hD : ∀ w, Calls Try.prog 31 #[.string x4] w fun e w' => e = .returned (.int .i64 d) ∧ w' = w) (hM : ∀ w, Calls Try.prog 22 #[.string x1] w fun e w' => e = .returned (.bool true) ∧ w' = w) (hF : ∀ w, Calls Try.prog 31 #[.string x2] w fun e w' => e = .returned (.int .i64 f) ∧ w' = w) (hT : ∀ w, Calls Try.prog 23 #[.string x3] w fun e w' => e = .returned (.tuple #[.int .i64 t, .bool true]) ∧ w' = w) :
    Calls Try.prog 24 #[.slice (some ⟨A, 0, none⟩) 6 cap, .bool true] w fun e w' => ∃ kv, e = .returned (.tuple #[.agg #[.int .i64 c.kind, kv, .int .u32 c.flags, .int .i64 c.exp, .string ⟨#[]⟩, .bool c.quiet, .string c.reply], .int .i64 d]) ∧ Keys w' kv c.keys ∧ Kept w w' := by
  have hz := zero26
  have HA : Hid (At (w.alloc (.cells #[.int .i64 0, .slice none 0 0, .int .u32 0, .int .i64 0, .string ⟨#[]⟩, .bool false, .string ⟨#[]⟩] 38)) w.heap.size #[.int .i64 0, .slice none 0 0, .int .u32 0, .int .i64 0, .string ⟨#[]⟩, .bool false, .string ⟨#[]⟩] 38) := at_new _ _ _
  have HK : Hid (Kept w (w.alloc (.cells #[.int .i64 0, .slice none 0 0, .int .u32 0, .int .i64 0, .string ⟨#[]⟩, .bool false, .string ⟨#[]⟩] 38))) := kept_alloc (kept_refl w) _
  have HY : Hid (∀ (u : World) (a0 a1 a2 a3 a4 a5 a6 : Value), Kept w u → Kept w (set7 u w.heap.size a0 a1 a2 a3 a4 a5 a6)) := fun u a0 a1 a2 a3 a4 a5 a6 h => kept_set7 h (Nat.le_refl _) _ _ _ _ _ _ _
  have hfw : IntKind.u32.wrap f = f := by rw [IntKind.wrap_u32]; omega
  have hf0 : ¬ f < 0 := by omega
  have HLS : Hid (∀ u, Kept w u → u.cell? ⟨A, 1, none⟩ = some (.string x1) ∧ u.cell? ⟨A, 2, none⟩ = some (.string x2)) := fun u hu => ⟨(hx u hu).1, (hx u hu).2.1⟩
  have HFK : Hid (∀ w, Calls Try.prog 31 #[.string x2] w fun e w' => e = .returned (.int .i64 f) ∧ Kept w w') := fun w => (hF w).mono fun e w' ⟨he, hw⟩ => ⟨he, by rw [hw]; exact kept_refl w⟩
  have HX := hid hx
  have HD := hid hD
  have HM := hid hM
  have HF := hid hF
  have HT := hid hT
  clear hx hD hM hF hT
  go_enter Try.func24, Try.ntmps24
  go_wp2_with fail
  generalize w.alloc (.cells #[.int .i64 0, .slice none 0 0, .int .u32 0, .int .i64 0, .string ⟨#[]⟩, .bool false, .string ⟨#[]⟩] 38) = wa at *
  generalize w.heap.size = X at *
  refine (Bad_fmt _).mono ?_
  rintro e w2 ⟨rfl, hk2⟩
  have AX := hid (at_alloc (at_kept HA.out hk2) (.cells #[.int .i64 8, .slice none 0 0, .int .u32 0, .int .i64 0, .string ⟨#[]⟩, .bool false, .string rFmt] 38))
  have AY := hid (at_new w2 #[.int .i64 8, .slice none 0 0, .int .u32 0, .int .i64 0, .string ⟨#[]⟩, .bool false, .string rFmt] 38)
  have KV := hid (kept_alloc (kept_trans HK.out hk2) (.cells #[.int .i64 8, .slice none 0 0, .int .u32 0, .int .i64 0, .string ⟨#[]⟩, .bool false, .string rFmt] 38))
  clear hk2 HA HK
  obtain ⟨hx1, hx2, hx3, hx4⟩ := HX.out _ KV.out
  go_wp2_with fail
  generalize w2.alloc (.cells #[.int .i64 8, .slice none 0 0, .int .u32 0, .int .i64 0, .string ⟨#[]⟩, .bool false, .string rFmt] 38) = v at *
  generalize w2.heap.size = Y at *
  refine (HD.out _).mono ?_
  rintro e u1 ⟨rfl, hu⟩
  rw [hu]; clear hu u1
  go_wp2_with fail
  refine (HM.out _).mono ?_
  rintro e u1 ⟨rfl, hu⟩
  rw [hu]; clear hu u1
  go_wp2_with fail
  refine (HF.out _).mono ?_
  rintro e u1 ⟨rfl, hu⟩
  rw [hu]; clear hu u1
  go_wp2_with fail
  refine (HT.out _).mono ?_
  rintro e u1 ⟨rfl, hu⟩
  rw [hu]; clear hu u1
  go_wp2_with fail
  clear hx1 hx2 hx3 hx4
  have kv := KV.out
  refine wp_region_noPanic ?_
  refine wp_region_held_drew (S := (fun w' => w'.cell? ⟨A, 1, none⟩ = some (.string x1) ∧ w'.cell? ⟨A, 2, none⟩ = some (.string x2))) (by kernel_rfl) (HLS.out _ (by repeat (first | with_reducible assumption | with_reducible apply kept_drew | with_reducible apply kept_alloc))) (fun hHeld => ?_)
  refine wpAnyH_take (i := 0) (v := .slice (some ⟨A, 0, none⟩) 6 cap) rfl (by kernel_rfl) (by kernel_rfl) (by kernel_rfl) (fun _ _ _ h => h) (Or.inl ⟨by rfl, fun w hSw => by (try dsimp only at hSw); go_simp⟩) (by assumption) ?_
  try simp only [List.getElem_toArray, List.getElem_cons_zero, List.getElem_cons_succ, Act.put, List.setIfInBounds_toArray, List.set_cons_zero, List.set_cons_succ]
  refine wpAnyH_take (i := 1) (v := .pointer (some ⟨A, 1, none⟩)) rfl (by kernel_rfl) (by kernel_rfl) (by kernel_rfl) (fun _ _ _ h => h) (Or.inl ⟨by rfl, fun w hSw => by (try dsimp only at hSw); go_simp⟩) (by assumption) ?_
  try simp only [List.getElem_toArray, List.getElem_cons_zero, List.getElem_cons_succ, Act.put, List.setIfInBounds_toArray, List.set_cons_zero, List.set_cons_succ]
  refine wpAnyH_take (i := 2) (v := .string x1) rfl (by kernel_rfl) (by kernel_rfl) (by kernel_rfl) (fun _ _ _ h => h) (Or.inl ⟨by rfl, fun w hSw => by (try dsimp only at hSw); go_simp⟩) (by assumption) ?_
  try simp only [List.getElem_toArray, List.getElem_cons_zero, List.getElem_cons_succ, Act.put, List.setIfInBounds_toArray, List.set_cons_zero, List.set_cons_succ]
  refine wpAnyH_take (i := 4) (v := .slice (some ⟨A, 0, none⟩) 6 cap) rfl (by kernel_rfl) (by kernel_rfl) (by kernel_rfl) (fun _ _ _ h => h) (Or.inl ⟨by rfl, fun w hSw => by (try dsimp only at hSw); go_simp⟩) (by assumption) ?_
  try simp only [List.getElem_toArray, List.getElem_cons_zero, List.getElem_cons_succ, Act.put, List.setIfInBounds_toArray, List.set_cons_zero, List.set_cons_succ]
  refine wpAnyH_take (i := 5) (v := .pointer (some ⟨A, 2, none⟩)) rfl (by kernel_rfl) (by kernel_rfl) (by kernel_rfl) (fun _ _ _ h => h) (Or.inl ⟨by rfl, fun w hSw => by (try dsimp only at hSw); go_simp⟩) (by assumption) ?_
  try simp only [List.getElem_toArray, List.getElem_cons_zero, List.getElem_cons_succ, Act.put, List.setIfInBounds_toArray, List.set_cons_zero, List.set_cons_succ]
  refine wpAnyH_take (i := 6) (v := .string x2) rfl (by kernel_rfl) (by kernel_rfl) (by kernel_rfl) (fun _ _ _ h => h) (Or.inl ⟨by rfl, fun w hSw => by (try dsimp only at hSw); go_simp⟩) (by assumption) ?_
  try simp only [List.getElem_toArray, List.getElem_cons_zero, List.getElem_cons_succ, Act.put, List.setIfInBounds_toArray, List.set_cons_zero, List.set_cons_succ]
  refine wpAnyH_take (i := 9) (v := .int .i64 t) rfl (by kernel_rfl) (by kernel_rfl) (by kernel_rfl) (fun _ _ _ h => h) (Or.inl ⟨by rfl, fun w hSw => by (try dsimp only at hSw); go_simp⟩) (by assumption) ?_
  try simp only [List.getElem_toArray, List.getElem_cons_zero, List.getElem_cons_succ, Act.put, List.setIfInBounds_toArray, List.set_cons_zero, List.set_cons_succ]
  refine wpAnyH_take (i := 10) (v := .int .i64 6) rfl (by kernel_rfl) (by kernel_rfl) (by kernel_rfl) (fun _ _ _ h => h) (Or.inl ⟨by rfl, fun w hSw => by (try dsimp only at hSw); go_simp⟩) (by assumption) ?_
  try simp only [List.getElem_toArray, List.getElem_cons_zero, List.getElem_cons_succ, Act.put, List.setIfInBounds_toArray, List.set_cons_zero, List.set_cons_succ]
  refine wpAnyH_take (i := 11) (v := .bool true) rfl (by kernel_rfl) (by kernel_rfl) (by kernel_rfl) (fun _ _ _ h => h) (Or.inl ⟨by rfl, fun w hSw => by (try dsimp only at hSw); go_simp⟩) (by assumption) ?_
  try simp only [List.getElem_toArray, List.getElem_cons_zero, List.getElem_cons_succ, Act.put, List.setIfInBounds_toArray, List.set_cons_zero, List.set_cons_succ]
  refine wpAnyH_take (i := 13) (v := .int .i64 d) rfl (by kernel_rfl) (by kernel_rfl) (by kernel_rfl) (fun _ _ _ h => h) (Or.inl ⟨by rfl, fun w hSw => by (try dsimp only at hSw); go_simp⟩) (by assumption) ?_
  try simp only [List.getElem_toArray, List.getElem_cons_zero, List.getElem_cons_succ, Act.put, List.setIfInBounds_toArray, List.set_cons_zero, List.set_cons_succ]
  refine wpAnyH_ready (rs := [3, 7]) (by kernel_rfl) (by simp) ?_
  refine AllReadyH.cons (i := 3) rfl (fun K hK => ?_) ?_
  · go_simp
    have kK := keys_kept (keys_one v x1 9) (kept_drew (kept_refl _))
    have kW := kept_drew (kept_alloc KV.out (.cells #[.string x1] 9))
    have aX := at_drew (at_alloc AX.out (.cells #[.string x1] 9))
    have nB : v.heap.size ≠ X := by have := at_lt AX.out; omega
    show K _ (v.alloc (.cells #[.string x1] 9)).drew
    generalize (v.alloc (.cells #[.string x1] 9)).drew = wb at *
    generalize v.heap.size = bb at *
    refine hK.out _ _ (HLS.out _ (by repeat (first | with_reducible assumption | with_reducible apply kept_drew | with_reducible apply kept_alloc))) (fun hHeld => ?_)
    clear hK K
    try simp only [List.getElem_toArray, List.getElem_cons_zero, List.getElem_cons_succ, Act.put, List.setIfInBounds_toArray, List.set_cons_zero, List.set_cons_succ]
    refine wpAnyH_ready (rs := [7]) (by kernel_rfl) (by simp) ?_
    refine AllReadyH.cons (i := 7) rfl (fun K hK => ?_) AllReadyH.nil
    go_simp
    refine (HFK.out _).mono ?_
    rintro e w4 ⟨rfl, h4⟩
    replace kK := keys_kept kK h4
    replace kW := kept_trans kW h4
    replace aX := at_kept aX h4
    clear h4
    show K _ _
    refine hK.out _ _ (HLS.out _ (by repeat (first | with_reducible assumption | with_reducible apply kept_drew | with_reducible apply kept_alloc))) (fun hHeld => ?_)
    clear hK K
    try simp only [List.getElem_toArray, List.getElem_cons_zero, List.getElem_cons_succ, Act.put, List.setIfInBounds_toArray, List.set_cons_zero, List.set_cons_succ]
    refine wpAnyH_take (i := 8) (v := .int .u32 f) rfl (by kernel_rfl) (by kernel_rfl) (by kernel_rfl) (fun _ _ _ h => h) (Or.inl ⟨by rfl, fun w hSw => by (try dsimp only at hSw); go_simp; try (rw [hfw])⟩) (by assumption) ?_
    try simp only [List.getElem_toArray, List.getElem_cons_zero, List.getElem_cons_succ, Act.put, List.setIfInBounds_toArray, List.set_cons_zero, List.set_cons_succ]
    refine wpAnyH_take (i := 12) (v := .agg #[.int .i64 2, .slice (some ⟨bb, 0, none⟩) 1 1, .int .u32 f, .int .i64 t, .string ⟨#[]⟩, .bool true, .string ⟨#[]⟩]) rfl (by kernel_rfl) (by kernel_rfl) (by kernel_rfl) (fun _ _ _ h => h) (Or.inl ⟨by rfl, fun w hSw => by (try dsimp only at hSw); go_simp⟩) (by assumption) ?_
    try simp only [List.getElem_toArray, List.getElem_cons_zero, List.getElem_cons_succ, Act.put, List.setIfInBounds_toArray, List.set_cons_zero, List.set_cons_succ]
    refine wpAnyH_ready (rs := [14]) (by kernel_rfl) (by simp) ?_
    refine AllReadyH.cons (i := 14) rfl (fun K hK => ?_) AllReadyH.nil
    obtain ⟨c0, c1, c2, c3, c4, c5, c6, fr⟩ := at_cells7 aX
    go_simp
    have AE := hid (at_set7 aX (.int .i64 2) (.slice (some ⟨bb, 0, none⟩) 1 1) (.int .u32 f) (.int .i64 t) (.string ⟨#[]⟩) (.bool true) (.string ⟨#[]⟩))
    have KE := hid (keys_set7 kK (fun A' n' cap' h => by cases h; exact nB) (.int .i64 2) (.slice (some ⟨bb, 0, none⟩) 1 1) (.int .u32 f) (.int .i64 t) (.string ⟨#[]⟩) (.bool true) (.string ⟨#[]⟩))
    have KW := hid (HY.out w4 (.int .i64 2) (.slice (some ⟨bb, 0, none⟩) 1 1) (.int .u32 f) (.int .i64 t) (.string ⟨#[]⟩) (.bool true) (.string ⟨#[]⟩) kW)
    show K _ (set7 w4 X (.int .i64 2) (.slice (some ⟨bb, 0, none⟩) 1 1) (.int .u32 f) (.int .i64 t) (.string ⟨#[]⟩) (.bool true) (.string ⟨#[]⟩))
    generalize set7 w4 X (.int .i64 2) (.slice (some ⟨bb, 0, none⟩) 1 1) (.int .u32 f) (.int .i64 t) (.string ⟨#[]⟩) (.bool true) (.string ⟨#[]⟩) = wz at *
    have kW := KW.out
    refine hK.out _ _ (HLS.out _ KW.out) (fun hHeld => ?_)
    clear hK K
    try simp only [List.getElem_toArray, List.getElem_cons_zero, List.getElem_cons_succ, Act.put, List.setIfInBounds_toArray, List.set_cons_zero, List.set_cons_succ]
    refine wpAnyH_take (i := 15) (v := .int .i64 d) rfl (by kernel_rfl) (by kernel_rfl) (by kernel_rfl) (fun _ _ _ h => h) (Or.inl ⟨by rfl, fun w hSw => by (try dsimp only at hSw); go_simp⟩) (by assumption) ?_
    try simp only [List.getElem_toArray, List.getElem_cons_zero, List.getElem_cons_succ, Act.put, List.setIfInBounds_toArray, List.set_cons_zero, List.set_cons_succ]
    refine wpAnyH_done (by kernel_rfl) ?_ _
    refine NoPanic.normal ?_
    go_wp2_with fail
    refine bodyPost_ret (res2 rfl _ rfl rfl AE.out) rfl ?_
    subst hc
    exact ⟨_, rfl, KE.out, KW.out⟩
  refine AllReadyH.cons (i := 7) rfl (fun K hK => ?_) AllReadyH.nil
  go_simp
  refine (HFK.out _).mono ?_
  rintro e w3 ⟨rfl, h3⟩
  have k3 := kept_trans (kept_drew KV.out) h3
  have a3 := at_kept (at_drew AX.out) h3
  clear h3
  show K _ _
  refine hK.out _ _ (HLS.out _ (by repeat (first | with_reducible assumption | with_reducible apply kept_drew | with_reducible apply kept_alloc))) (fun hHeld => ?_)
  clear hK K
  try simp only [List.getElem_toArray, List.getElem_cons_zero, List.getElem_cons_succ, Act.put, List.setIfInBounds_toArray, List.set_cons_zero, List.set_cons_succ]
  refine wpAnyH_take (i := 8) (v := .int .u32 f) rfl (by kernel_rfl) (by kernel_rfl) (by kernel_rfl) (fun _ _ _ h => h) (Or.inl ⟨by rfl, fun w hSw => by (try dsimp only at hSw); go_simp; try (rw [hfw])⟩) (by assumption) ?_
  try simp only [List.getElem_toArray, List.getElem_cons_zero, List.getElem_cons_succ, Act.put, List.setIfInBounds_toArray, List.set_cons_zero, List.set_cons_succ]
  refine wpAnyH_ready (rs := [3]) (by kernel_rfl) (by simp) ?_
  refine AllReadyH.cons (i := 3) rfl (fun K hK => ?_) AllReadyH.nil
  go_simp
  have kK := keys_one w3 x1 9
  have kW := kept_alloc k3 (.cells #[.string x1] 9)
  have aX := at_alloc a3 (.cells #[.string x1] 9)
  have nB : w3.heap.size ≠ X := by have := at_lt a3; omega
  show K _ (w3.alloc (.cells #[.string x1] 9))
  generalize w3.alloc (.cells #[.string x1] 9) = wb at *
  generalize w3.heap.size = bb at *
  refine hK.out _ _ (HLS.out _ (by repeat (first | with_reducible assumption | with_reducible apply kept_drew | with_reducible apply kept_alloc))) (fun hHeld => ?_)
  clear hK K
  try simp only [List.getElem_toArray, List.getElem_cons_zero, List.getElem_cons_succ, Act.put, List.setIfInBounds_toArray, List.set_cons_zero, List.set_cons_succ]
  refine wpAnyH_take (i := 12) (v := .agg #[.int .i64 2, .slice (some ⟨bb, 0, none⟩) 1 1, .int .u32 f, .int .i64 t, .string ⟨#[]⟩, .bool true, .string ⟨#[]⟩]) rfl (by kernel_rfl) (by kernel_rfl) (by kernel_rfl) (fun _ _ _ h => h) (Or.inl ⟨by rfl, fun w hSw => by (try dsimp only at hSw); go_simp⟩) (by assumption) ?_
  try simp only [List.getElem_toArray, List.getElem_cons_zero, List.getElem_cons_succ, Act.put, List.setIfInBounds_toArray, List.set_cons_zero, List.set_cons_succ]
  refine wpAnyH_ready (rs := [14]) (by kernel_rfl) (by simp) ?_
  refine AllReadyH.cons (i := 14) rfl (fun K hK => ?_) AllReadyH.nil
  obtain ⟨c0, c1, c2, c3, c4, c5, c6, fr⟩ := at_cells7 aX
  go_simp
  have AE := hid (at_set7 aX (.int .i64 2) (.slice (some ⟨bb, 0, none⟩) 1 1) (.int .u32 f) (.int .i64 t) (.string ⟨#[]⟩) (.bool true) (.string ⟨#[]⟩))
  have KE := hid (keys_set7 kK (fun A' n' cap' h => by cases h; exact nB) (.int .i64 2) (.slice (some ⟨bb, 0, none⟩) 1 1) (.int .u32 f) (.int .i64 t) (.string ⟨#[]⟩) (.bool true) (.string ⟨#[]⟩))
  have KW := hid (HY.out wb (.int .i64 2) (.slice (some ⟨bb, 0, none⟩) 1 1) (.int .u32 f) (.int .i64 t) (.string ⟨#[]⟩) (.bool true) (.string ⟨#[]⟩) kW)
  show K _ (set7 wb X (.int .i64 2) (.slice (some ⟨bb, 0, none⟩) 1 1) (.int .u32 f) (.int .i64 t) (.string ⟨#[]⟩) (.bool true) (.string ⟨#[]⟩))
  generalize set7 wb X (.int .i64 2) (.slice (some ⟨bb, 0, none⟩) 1 1) (.int .u32 f) (.int .i64 t) (.string ⟨#[]⟩) (.bool true) (.string ⟨#[]⟩) = wz at *
  have kW := KW.out
  refine hK.out _ _ (HLS.out _ KW.out) (fun hHeld => ?_)
  clear hK K
  try simp only [List.getElem_toArray, List.getElem_cons_zero, List.getElem_cons_succ, Act.put, List.setIfInBounds_toArray, List.set_cons_zero, List.set_cons_succ]
  refine wpAnyH_take (i := 15) (v := .int .i64 d) rfl (by kernel_rfl) (by kernel_rfl) (by kernel_rfl) (fun _ _ _ h => h) (Or.inl ⟨by rfl, fun w hSw => by (try dsimp only at hSw); go_simp⟩) (by assumption) ?_
  try simp only [List.getElem_toArray, List.getElem_cons_zero, List.getElem_cons_succ, Act.put, List.setIfInBounds_toArray, List.set_cons_zero, List.set_cons_succ]
  refine wpAnyH_done (by kernel_rfl) ?_ _
  refine NoPanic.normal ?_
  go_wp2_with fail
  refine bodyPost_ret (res2 rfl _ rfl rfl AE.out) rfl ?_
  subst hc
  exact ⟨_, rfl, KE.out, KW.out⟩
end Go.Proofs.Ytjlojkcdglocbaa
