/- The law that what is said of values is what is said of each, walked: it answers true and turns nothing that was there. -/
import Derived.Test.YtlbpmehlfihpbaaDoorAppend
namespace Go.Proofs.YtlbpmehlfihpbaaDoor
open Go.ChangeShapes Go.WideShapes Go.ChangeAt Go.RowKit
set_option linter.unusedVariables false
set_option linter.unusedSimpArgs false

theorem row_ok {w : World} {oa : Option Addr} {len cap b o : Nat} {L : List R} (h : Row w oa len cap b o L) : ∀ r ∈ L, r.ok := by
  intro r hr
  obtain ⟨i, hi, rfl⟩ := List.getElem_of_mem hr
  exact (h.2.2.2.2.2 i hi).1
theorem item_size {r : R} (hf : r.flags < 4294967296) (hk : r.key.size ≤ 3000) (hb : r.body.size ≤ 3000) : (itemR r).length ≤ 6100 := by
  unfold itemR itemL firstL first3
  have h1 := dec_len 10 r.flags (by omega) (by omega)
  have h2 := dec_len 10 r.body.data.toList.length (by omega) (by rw [size_list]; omega)
  simp only [List.length_append, List.length_cons, List.length_nil, size_list] at h2 ⊢
  omega
theorem items_size : ∀ {L : List R}, (∀ r ∈ L, r.ok) → (∀ r ∈ L, r.key.size ≤ 3000 ∧ r.body.size ≤ 3000) → (L.flatMap itemR).length ≤ L.length * 6100
  | [], _, _ => by simp
  | r :: L, h, k => by
    have ih := items_size (L := L) (fun x hx => h x (by simp [hx])) (fun x hx => k x (by simp [hx]))
    have h1 := item_size (h r (by simp)).2.1 (k r (by simp)).1 (k r (by simp)).2
    rw [List.flatMap_cons, List.length_append, List.length_cons]
    omega
theorem flat_append (L K : List R) : flat (L ++ K) = flat L ++ flat K := by simp [flat]
set_option maxHeartbeats 1600000 in
set_option maxRecDepth 100000 in
theorem each_main (oa0 : Option Addr) (len0 cap0 b0 o0 : Nat) (L0 : List R) (oa1 : Option Addr) (len1 cap1 b1 o1 : Nat) (L1 : List R) (w : World) (hB : Base w) (hr0 : Row w oa0 len0 cap0 b0 o0 L0) (hr1 : Row w oa1 len1 cap1 b1 o1 L1) (hg0 : greatL L0 = false) (hg1 : greatL L1 = false) :
    Calls Tryd.prog 7 #[.slice oa0 len0 cap0, .slice oa1 len1 cap1] w fun e w' => e = .returned (.bool true) ∧ Kept w w' := by
  obtain ⟨i0, hi, hz0, hz1, hz2⟩ := info_parts info45
  obtain ⟨hn0, hs0⟩ := not_great hg0
  obtain ⟨hn1, hs1⟩ := not_great hg1
  have hf0 := items_size (row_ok hr0) hs0
  have hf1 := items_size (row_ok hr1) hs1
  have hG0 := great_any oa0 len0 cap0 b0 o0 L0 w hr0
  rw [hg0] at hG0
  have HG1 : Hid (∀ u, Kept w u → Calls Tryd.prog 8 #[.slice oa1 len1 cap1] u fun e w' => e = .returned (.bool false) ∧ Kept u w') := fun u hu => by
    have := great_any oa1 len1 cap1 b1 o1 L1 u (row_kept hr1 hu)
    rw [hg1] at this
    exact this
  have HI0 : Hid (∀ u, Kept w u → Calls Tryd.prog 10 #[.slice oa0 len0 cap0] u fun e w' => e = .returned (.string ⟨(itemsR L0).toArray⟩) ∧ Kept u w') := fun u hu => Items_any oa0 len0 cap0 b0 o0 L0 u (base_kept hB hu) (row_kept hr0 hu) (by omega)
  have HI1 : Hid (∀ u, Kept w u → Calls Tryd.prog 10 #[.slice oa1 len1 cap1] u fun e w' => e = .returned (.string ⟨(itemsR L1).toArray⟩) ∧ Kept u w') := fun u hu => Items_any oa1 len1 cap1 b1 o1 L1 u (base_kept hB hu) (row_kept hr1 hu) (by omega)
  have HA1 : Hid (∀ (u : World) (V : Nat), Kept w u → At u V #[] 45 → w.heap.size ≤ V → ∃ v u', (Builtin.append_ #[22, 22] 22 #[.slice (some ⟨V, 0, none⟩) 0 0, .slice oa0 len0 cap0]).run Tryd.prog u = .ok v u' ∧ u'.ownsRow w.heap.size 45 8 v len0 (flat L0) ∧ Kept w u') := fun u V hu hA hV => by
    obtain ⟨v, u', h1, h2, h3, -⟩ := own_src u w.heap.size 22 22 22 45 i0 _ 8 64 Tryd.underlying22 hi hz0 hz1 hz2 rfl (own_at (xs := []) hV hA (Nat.le_refl 0) (by unfold maxLen; omega) (by simp) ⟨[], rfl⟩ (by simp)) (row_src (row_kept hr0 hu)) (by have := hr0.1; unfold maxLen; omega) (by have := hr0.1; omega) hu.2
    refine ⟨v, u', h1, ?_, kept_grown' hu h3 (fun k hk => by simp [Value.ownBlock] at hk; omega)⟩
    rw [Nat.zero_add] at h2
    exact h2
  have HA2 : Hid (∀ (u : World) (v : Value), u.ownsRow w.heap.size 45 8 v len0 (flat L0) → Kept w u → ∃ v' u', (Builtin.append_ #[22, 22] 22 #[v, .slice oa1 len1 cap1]).run Tryd.prog u = .ok v' u' ∧ Kept w u' ∧ Calls Tryd.prog 10 #[v'] u' fun e w' => e = .returned (.string ⟨(itemsR (L0 ++ L1)).toArray⟩) ∧ Kept u' w') := fun u v ho hu => by
    obtain ⟨v', u', h1, h2, h3, -⟩ := own_src u w.heap.size 22 22 22 45 i0 _ 8 64 Tryd.underlying22 hi hz0 hz1 hz2 rfl ho (row_src (row_kept hr1 hu)) (by have := hr0.1; have := hr1.1; unfold maxLen; omega) (by have := hr0.1; have := hr1.1; omega) hu.2
    have hk := kept_grown' hu h3 (fun k hk => (ho.lt k hk).1)
    rw [← flat_append] at h2
    obtain ⟨oa, cap, b, rfl, hrow⟩ := row_own h2 (by rw [List.length_append, hr0.1, hr1.1]) (fun r hr => (List.mem_append.1 hr).elim (row_ok hr0 r) (row_ok hr1 r))
    exact ⟨_, u', h1, hk, Items_any oa _ cap b 0 (L0 ++ L1) u' (base_kept hB hk) hrow (by rw [List.flatMap_append, List.length_append]; omega)⟩
  obtain ⟨X, hX⟩ : ∃ X : ByteArray, X = ⟨(itemsR L0).toArray⟩ := ⟨_, rfl⟩
  obtain ⟨Y, hY⟩ : ∃ Y : ByteArray, Y = ⟨(itemsR L1).toArray⟩ := ⟨_, rfl⟩
  obtain ⟨Z, hZ⟩ : ∃ Z : ByteArray, Z = ⟨(itemsR (L0 ++ L1)).toArray⟩ := ⟨_, rfl⟩
  have hXs : X.size = (L0.flatMap itemR).length + 5 := by rw [hX, mk_size]; simp [itemsR, endL]
  have hYs : Y.size = (L1.flatMap itemR).length + 5 := by rw [hY, mk_size]; simp [itemsR, endL]
  obtain ⟨P, hP⟩ : ∃ P : ByteArray, P = X.extract 0 (X.size - 5) := ⟨_, rfl⟩
  have hPl : P.data.toList = L0.flatMap itemR := by
    rw [hP, ext_to, hXs, hX, mk_list, Nat.add_sub_cancel]
    unfold itemsR
    rw [List.take_left]
  have hPY : P ++ Y = Z := by
    apply bytes_ext
    rw [hZ, mk_list, show (P ++ Y).data.toList = P.data.toList ++ Y.data.toList by simp, hPl, hY, mk_list]
    simp [itemsR]
  have hPs : P.size ≤ 1000000 := by rw [← size_list, hPl]; omega
  have hYs2 : Y.size ≤ 1000000 := by omega
  have hX5 : (5 : Int) ≤ (X.size : Int) := by omega
  have hXs2 : (X.size : Int) ≤ 1000000 := by omega
  have hsl : ∀ u, (Instr.slice 9 (.string X) none (some (.int .i64 ((X.size : Int) - 5))) none).run Tryd.prog u = .ok (.string P) u := fun u => by
    have := run_slice_string_h (P := Tryd.prog) u 9 X Tryd.underlying9 .i64 ((X.size : Int) - 5) (by omega) (by omega)
    rw [show ((X.size : Int) - 5).toNat = X.size - 5 by omega, ← hP] at this
    exact this
  have hw : IntKind.i64.wrap ((X.size : Int) - 5) = (X.size : Int) - 5 := by rw [IntKind.wrap_i64]; omega
  have HB := hid hB
  rw [← hX] at HI0
  rw [← hY] at HI1
  rw [← hZ] at HA2
  clear hX hY hZ hXs hYs hP hPl hf0 hf1 hs0 hs1 hn0 hn1 hg0 hg1 hr0 hr1 hB hi hz0 hz1 hz2 i0
  go_enter Tryd.func7, Tryd.ntmps7
  go_wp2_with fail
  refine hG0.mono ?_
  rintro e w1 ⟨rfl, hk1⟩
  have hc1 := HG1.out w1 hk1
  have HK1 := hid hk1
  clear hG0 HG1 hk1
  go_wp2_with fail
  refine hc1.mono ?_
  rintro e w2 ⟨rfl, hk2⟩
  have HK2 := hid (kept_trans HK1.out hk2)
  have hc2 := HI0.out w2 HK2.out
  clear hc1 HI0 hk2 HK1
  go_wp2_with fail
  refine hc2.mono ?_
  rintro e w3 ⟨rfl, hk3⟩
  have HK3 := hid (kept_trans HK2.out hk3)
  have hc3 := HI1.out w3 HK3.out
  clear hc2 HI1 hk3 HK2
  go_wp2_with fail
  refine hc3.mono ?_
  rintro e w4 ⟨rfl, hk4⟩
  have HK4 := hid (kept_trans HK3.out hk4)
  have hF := fixed_any w4.drew (base_kept HB.out (kept_drew HK4.out))
  clear hc3 hk4 HK3
  go_wp2_with fail
  refine wp_region_noPanic ?_
  refine wp_region_held_drew (S := (fun _ => True)) (by kernel_rfl) (trivial) (fun hHeld => ?_)
  refine wpAnyH_ready (rs := [0]) (by kernel_rfl) (by simp) ?_
  refine AllReadyH.cons (i := 0) rfl (fun K hK => ?_) AllReadyH.nil
  go_simp
  refine (hF).mono ?_
  rintro e w3 ⟨rfl, h3⟩
  have k1 := hid (kept_trans (kept_drew HK4.out) h3)
  clear h3 hF HK4
  clear hHeld
  show K _ _
  refine hK.out _ _ (trivial) (fun hHeld => ?_)
  clear hK K
  try simp only [List.getElem_toArray, List.getElem_cons_zero, List.getElem_cons_succ, Act.put, List.setIfInBounds_toArray, List.set_cons_zero, List.set_cons_succ]
  refine wpAnyH_take (i := 1) (v := .bool true) rfl (by kernel_rfl) (by kernel_rfl) (by kernel_rfl) (fun _ _ _ h => h) (Or.inl ⟨by rfl, fun w hSw => by (try dsimp only at hSw); go_simp⟩) (by assumption) ?_
  try simp only [List.getElem_toArray, List.getElem_cons_zero, List.getElem_cons_succ, Act.put, List.setIfInBounds_toArray, List.set_cons_zero, List.set_cons_succ]
  refine wpAnyH_take (i := 2) (v := .string X) rfl (by kernel_rfl) (by kernel_rfl) (by kernel_rfl) (fun _ _ _ h => h) (Or.inl ⟨by rfl, fun w hSw => by (try dsimp only at hSw); go_simp⟩) (by assumption) ?_
  try simp only [List.getElem_toArray, List.getElem_cons_zero, List.getElem_cons_succ, Act.put, List.setIfInBounds_toArray, List.set_cons_zero, List.set_cons_succ]
  refine wpAnyH_take (i := 3) (v := .int .i64 (X.size : Int)) rfl (by kernel_rfl) (by kernel_rfl) (by kernel_rfl) (fun _ _ _ h => h) (Or.inl ⟨by rfl, fun w hSw => by (try dsimp only at hSw); go_simp⟩) (by assumption) ?_
  try simp only [List.getElem_toArray, List.getElem_cons_zero, List.getElem_cons_succ, Act.put, List.setIfInBounds_toArray, List.set_cons_zero, List.set_cons_succ]
  refine wpAnyH_take (i := 4) (v := .int .i64 5) rfl (by kernel_rfl) (by kernel_rfl) (by kernel_rfl) (fun _ _ _ h => h) (Or.inl ⟨by rfl, fun w hSw => by (try dsimp only at hSw); go_simp⟩) (by assumption) ?_
  try simp only [List.getElem_toArray, List.getElem_cons_zero, List.getElem_cons_succ, Act.put, List.setIfInBounds_toArray, List.set_cons_zero, List.set_cons_succ]
  refine wpAnyH_take (i := 5) (v := .bool true) rfl (by kernel_rfl) (by kernel_rfl) (by kernel_rfl) (fun _ _ _ h => h) (Or.inl ⟨by rfl, fun w hSw => by (try dsimp only at hSw); go_simp⟩) (by assumption) ?_
  try simp only [List.getElem_toArray, List.getElem_cons_zero, List.getElem_cons_succ, Act.put, List.setIfInBounds_toArray, List.set_cons_zero, List.set_cons_succ]
  refine wpAnyH_take (i := 6) (v := .bool true) rfl (by kernel_rfl) (by kernel_rfl) (by kernel_rfl) (fun _ _ _ h => h) (Or.inl ⟨by rfl, fun w hSw => by (try dsimp only at hSw); go_simp⟩) (by assumption) ?_
  try simp only [List.getElem_toArray, List.getElem_cons_zero, List.getElem_cons_succ, Act.put, List.setIfInBounds_toArray, List.set_cons_zero, List.set_cons_succ]
  refine wpAnyH_take (i := 7) (v := .bool true) rfl (by kernel_rfl) (by kernel_rfl) (by kernel_rfl) (fun _ _ _ h => h) (Or.inl ⟨by rfl, fun w hSw => by (try dsimp only at hSw); go_simp⟩) (by assumption) ?_
  try simp only [List.getElem_toArray, List.getElem_cons_zero, List.getElem_cons_succ, Act.put, List.setIfInBounds_toArray, List.set_cons_zero, List.set_cons_succ]
  refine wpAnyH_take (i := 9) (v := .slice oa0 len0 cap0) rfl (by kernel_rfl) (by kernel_rfl) (by kernel_rfl) (fun _ _ _ h => h) (Or.inl ⟨by rfl, fun w hSw => by (try dsimp only at hSw); go_simp⟩) (by assumption) ?_
  try simp only [List.getElem_toArray, List.getElem_cons_zero, List.getElem_cons_succ, Act.put, List.setIfInBounds_toArray, List.set_cons_zero, List.set_cons_succ]
  refine wpAnyH_take (i := 11) (v := .slice oa1 len1 cap1) rfl (by kernel_rfl) (by kernel_rfl) (by kernel_rfl) (fun _ _ _ h => h) (Or.inl ⟨by rfl, fun w hSw => by (try dsimp only at hSw); go_simp⟩) (by assumption) ?_
  try simp only [List.getElem_toArray, List.getElem_cons_zero, List.getElem_cons_succ, Act.put, List.setIfInBounds_toArray, List.set_cons_zero, List.set_cons_succ]
  refine wpAnyH_take (i := 14) (v := .string X) rfl (by kernel_rfl) (by kernel_rfl) (by kernel_rfl) (fun _ _ _ h => h) (Or.inl ⟨by rfl, fun w hSw => by (try dsimp only at hSw); go_simp⟩) (by assumption) ?_
  try simp only [List.getElem_toArray, List.getElem_cons_zero, List.getElem_cons_succ, Act.put, List.setIfInBounds_toArray, List.set_cons_zero, List.set_cons_succ]
  refine wpAnyH_take (i := 15) (v := .string X) rfl (by kernel_rfl) (by kernel_rfl) (by kernel_rfl) (fun _ _ _ h => h) (Or.inl ⟨by rfl, fun w hSw => by (try dsimp only at hSw); go_simp⟩) (by assumption) ?_
  try simp only [List.getElem_toArray, List.getElem_cons_zero, List.getElem_cons_succ, Act.put, List.setIfInBounds_toArray, List.set_cons_zero, List.set_cons_succ]
  refine wpAnyH_take (i := 16) (v := .int .i64 (X.size : Int)) rfl (by kernel_rfl) (by kernel_rfl) (by kernel_rfl) (fun _ _ _ h => h) (Or.inl ⟨by rfl, fun w hSw => by (try dsimp only at hSw); go_simp⟩) (by assumption) ?_
  try simp only [List.getElem_toArray, List.getElem_cons_zero, List.getElem_cons_succ, Act.put, List.setIfInBounds_toArray, List.set_cons_zero, List.set_cons_succ]
  refine wpAnyH_take (i := 17) (v := .int .i64 5) rfl (by kernel_rfl) (by kernel_rfl) (by kernel_rfl) (fun _ _ _ h => h) (Or.inl ⟨by rfl, fun w hSw => by (try dsimp only at hSw); go_simp⟩) (by assumption) ?_
  try simp only [List.getElem_toArray, List.getElem_cons_zero, List.getElem_cons_succ, Act.put, List.setIfInBounds_toArray, List.set_cons_zero, List.set_cons_succ]
  refine wpAnyH_take (i := 18) (v := .int .i64 ((X.size : Int) - 5)) rfl (by kernel_rfl) (by kernel_rfl) (by kernel_rfl) (fun _ _ _ h => h) (Or.inl ⟨by rfl, fun w hSw => by (try dsimp only at hSw); go_simp; try (rw [hw])⟩) (by assumption) ?_
  try simp only [List.getElem_toArray, List.getElem_cons_zero, List.getElem_cons_succ, Act.put, List.setIfInBounds_toArray, List.set_cons_zero, List.set_cons_succ]
  refine wpAnyH_take (i := 19) (v := .string P) rfl (by kernel_rfl) (by kernel_rfl) (by kernel_rfl) (fun _ _ _ h => h) (Or.inl ⟨by rfl, fun w hSw => by (try dsimp only at hSw); go_simp; try (rw [hsl])⟩) (by assumption) ?_
  try simp only [List.getElem_toArray, List.getElem_cons_zero, List.getElem_cons_succ, Act.put, List.setIfInBounds_toArray, List.set_cons_zero, List.set_cons_succ]
  refine wpAnyH_take (i := 20) (v := .string Y) rfl (by kernel_rfl) (by kernel_rfl) (by kernel_rfl) (fun _ _ _ h => h) (Or.inl ⟨by rfl, fun w hSw => by (try dsimp only at hSw); go_simp⟩) (by assumption) ?_
  try simp only [List.getElem_toArray, List.getElem_cons_zero, List.getElem_cons_succ, Act.put, List.setIfInBounds_toArray, List.set_cons_zero, List.set_cons_succ]
  refine wpAnyH_take (i := 21) (v := .string (P ++ Y)) rfl (by kernel_rfl) (by kernel_rfl) (by kernel_rfl) (fun _ _ _ h => h) (Or.inl ⟨by rfl, fun w hSw => by (try dsimp only at hSw); go_simp; omega⟩) (by assumption) ?_
  try simp only [List.getElem_toArray, List.getElem_cons_zero, List.getElem_cons_succ, Act.put, List.setIfInBounds_toArray, List.set_cons_zero, List.set_cons_succ]
  refine wpAnyH_ready (rs := [8]) (by kernel_rfl) (by simp) ?_
  refine AllReadyH.cons (i := 8) rfl (fun K hK => ?_) AllReadyH.nil
  go_simp
  have hA := at_new w3 #[] 45
  have HV : Hid (w.heap.size ≤ w3.heap.size) := k1.out.2
  have k2 := hid (kept_alloc k1.out (.cells #[] 45))
  generalize w3.alloc (.cells #[] 45) = w4 at *
  generalize w3.heap.size = V at *
  clear hHeld
  show K _ _
  refine hK.out _ _ (trivial) (fun hHeld => ?_)
  clear hK K
  try simp only [List.getElem_toArray, List.getElem_cons_zero, List.getElem_cons_succ, Act.put, List.setIfInBounds_toArray, List.set_cons_zero, List.set_cons_succ]
  refine wpAnyH_ready (rs := [10]) (by kernel_rfl) (by simp) ?_
  refine AllReadyH.cons (i := 10) rfl (fun K hK => ?_) AllReadyH.nil
  obtain ⟨v1, w5, hr1, ho1, hg1⟩ := HA1.out w4 V k2.out hA HV.out
  refine op_run (.tmp 27) (.tmp 28) 22 22 rfl _ _ _ rfl rfl hr1 ?_
  clear hHeld
  show K _ _
  refine hK.out _ _ (trivial) (fun hHeld => ?_)
  clear hK K
  try simp only [List.getElem_toArray, List.getElem_cons_zero, List.getElem_cons_succ, Act.put, List.setIfInBounds_toArray, List.set_cons_zero, List.set_cons_succ]
  refine wpAnyH_ready (rs := [12]) (by kernel_rfl) (by simp) ?_
  refine AllReadyH.cons (i := 12) rfl (fun K hK => ?_) AllReadyH.nil
  obtain ⟨v2, w6, hr2, hg2, hI2⟩ := HA2.out w5 v1 ho1 hg1
  refine op_run (.tmp 29) (.tmp 30) 22 22 rfl _ _ _ rfl rfl hr2 ?_
  clear hHeld
  show K _ _
  refine hK.out _ _ (trivial) (fun hHeld => ?_)
  clear hK K
  try simp only [List.getElem_toArray, List.getElem_cons_zero, List.getElem_cons_succ, Act.put, List.setIfInBounds_toArray, List.set_cons_zero, List.set_cons_succ]
  refine wpAnyH_ready (rs := [13]) (by kernel_rfl) (by simp) ?_
  refine AllReadyH.cons (i := 13) rfl (fun K hK => ?_) AllReadyH.nil
  go_simp
  refine (hI2).mono ?_
  rintro e w3 ⟨rfl, h3⟩
  have k7 := hid (kept_trans hg2 h3)
  clear h3 hI2 hg2
  clear hHeld
  show K _ _
  refine hK.out _ _ (trivial) (fun hHeld => ?_)
  clear hK K
  try simp only [List.getElem_toArray, List.getElem_cons_zero, List.getElem_cons_succ, Act.put, List.setIfInBounds_toArray, List.set_cons_zero, List.set_cons_succ]
  refine wpAnyH_take (i := 22) (v := .bool true) rfl (by kernel_rfl) (by kernel_rfl) (by kernel_rfl) (fun _ _ _ h => h) (Or.inl ⟨by rfl, fun w hSw => by (try dsimp only at hSw); go_simp; try (rw [hPY]); try simp⟩) (by assumption) ?_
  try simp only [List.getElem_toArray, List.getElem_cons_zero, List.getElem_cons_succ, Act.put, List.setIfInBounds_toArray, List.set_cons_zero, List.set_cons_succ]
  refine wpAnyH_take (i := 23) (v := .bool true) rfl (by kernel_rfl) (by kernel_rfl) (by kernel_rfl) (fun _ _ _ h => h) (Or.inl ⟨by rfl, fun w hSw => by (try dsimp only at hSw); go_simp⟩) (by assumption) ?_
  try simp only [List.getElem_toArray, List.getElem_cons_zero, List.getElem_cons_succ, Act.put, List.setIfInBounds_toArray, List.set_cons_zero, List.set_cons_succ]
  refine wpAnyH_take (i := 24) (v := .bool true) rfl (by kernel_rfl) (by kernel_rfl) (by kernel_rfl) (fun _ _ _ h => h) (Or.inl ⟨by rfl, fun w hSw => by (try dsimp only at hSw); go_simp⟩) (by assumption) ?_
  try simp only [List.getElem_toArray, List.getElem_cons_zero, List.getElem_cons_succ, Act.put, List.setIfInBounds_toArray, List.set_cons_zero, List.set_cons_succ]
  refine wpAnyH_done (by kernel_rfl) ?_ _
  refine NoPanic.normal ?_
  go_wp2
  go_ret
  exact ⟨rfl, k7.out⟩
theorem each_walk (oa0 : Option Addr) (len0 cap0 b0 o0 : Nat) (L0 : List R) (oa1 : Option Addr) (len1 cap1 b1 o1 : Nat) (L1 : List R) (w : World) (hB : Base w) (hr0 : Row w oa0 len0 cap0 b0 o0 L0) (hr1 : Row w oa1 len1 cap1 b1 o1 L1) :
    Calls Tryd.prog 7 #[.slice oa0 len0 cap0, .slice oa1 len1 cap1] w fun e w' => e = .returned (.bool true) ∧ Kept w w' := by
  have hG0 := great_any oa0 len0 cap0 b0 o0 L0 w hr0
  cases hg0 : greatL L0 with
  | true =>
    rw [hg0] at hG0
    have HB := hid hB
    clear hr0 hr1 hg0 hB
    go_enter Tryd.func7, Tryd.ntmps7
    go_wp2_with fail
    refine hG0.mono ?_
    rintro e w1 ⟨rfl, hk1⟩
    have hF := fixed_any w1 (base_kept HB.out hk1)
    have HK1 := hid hk1
    clear hG0 hk1
    go_wp2_with fail
    refine hF.mono ?_
    rintro e w2 ⟨rfl, hk2⟩
    have HK2 := hid (kept_trans HK1.out hk2)
    clear hF hk2 HK1
    go_wp2
    go_ret
    exact ⟨rfl, HK2.out⟩
  | false =>
    cases hg1 : greatL L1 with
    | false => exact each_main oa0 len0 cap0 b0 o0 L0 oa1 len1 cap1 b1 o1 L1 w hB hr0 hr1 hg0 hg1
    | true =>
      rw [hg0] at hG0
      have HG1 : Hid (∀ u, Kept w u → Calls Tryd.prog 8 #[.slice oa1 len1 cap1] u fun e w' => e = .returned (.bool true) ∧ Kept u w') := fun u hu => by
        have := great_any oa1 len1 cap1 b1 o1 L1 u (row_kept hr1 hu)
        rw [hg1] at this
        exact this
      have HB := hid hB
      clear hr0 hr1 hg0 hg1 hB
      go_enter Tryd.func7, Tryd.ntmps7
      go_wp2_with fail
      refine hG0.mono ?_
      rintro e w1 ⟨rfl, hk1⟩
      have hc1 := HG1.out w1 hk1
      have HK1 := hid hk1
      clear hG0 HG1 hk1
      go_wp2_with fail
      refine hc1.mono ?_
      rintro e w2 ⟨rfl, hk2⟩
      have HK2 := hid (kept_trans HK1.out hk2)
      have hF := fixed_any w2 (base_kept HB.out HK2.out)
      clear hc1 hk2 HK1
      go_wp2_with fail
      refine hF.mono ?_
      rintro e w3 ⟨rfl, hk3⟩
      have HK3 := hid (kept_trans HK2.out hk3)
      clear hF hk3 HK2
      go_wp2
      go_ret
      exact ⟨rfl, HK3.out⟩
end Go.Proofs.YtlbpmehlfihpbaaDoor
