/- The law that what is read is just what is said of it, and each beginning of it too short, walked: it answers true and turns nothing that was there. -/
import Derived.Test.YtlbpmehlfihpbaaDoorFixed
namespace Go.Proofs.YtlbpmehlfihpbaaDoor
open Go.ChangeShapes Go.WideShapes Go.ChangeAt Go.RowKit
set_option linter.unusedVariables false
set_option linter.unusedSimpArgs false

theorem slice_run (s : ByteArray) (i j : Nat) (h1 : i ≤ j) (h2 : j ≤ s.size) (u : World) : (Instr.slice 9 (.string s) (some (.int .i64 (i : Int))) (some (.int .i64 (j : Int))) none).run Tryd.prog u = .ok (.string (s.extract i j)) u := by
  have := run_slice_string (P := Tryd.prog) u 9 s .i64 .i64 (i : Int) (j : Int) Tryd.underlying9 (by omega) (by omega) (by omega)
  simpa using this
theorem itemR_of (x : It) : itemR (recOf x) = itL x := by
  show itemL (⟨x.key.toArray⟩ : ByteArray).data.toList x.flags (⟨x.body.toArray⟩ : ByteArray).data.toList = itL x
  rw [mk_list, mk_list]; rfl
theorem itemsR_of (l : List It) : itemsR (l.map recOf) = itemsL l := by
  unfold itemsR itemsL
  rw [List.flatMap_map]
  simp only [itemR_of]
theorem flatR_of (l : List It) : ((l.map recOf).flatMap itemR).length + 5 = (itemsL l).length := by
  rw [← itemsR_of]; simp [itemsR, endL]
theorem step_code {t : List UInt8} {c : Nat} (h : stepOf t = .err c) : c = 2 ∨ c = 3 := by
  unfold stepOf at h
  split at h
  · cases h; exact .inr rfl
  · split at h
    · cases h; exact .inl rfl
    · unfold lineOf at h
      split at h
      · cases h
      · split at h
        · cases h; exact .inr rfl
        · unfold bodyOf at h
          split at h
          · cases h
          · split at h
            · cases h; exact .inl rfl
            · cases h; exact .inr rfl
theorem read_code : ∀ (n : Nat) (t : List UInt8), t.length ≤ n → ∀ c, readOf t = .err c → c = 2 ∨ c = 3 := by
  intro n
  induction n with
  | zero =>
    intro t ht c h
    cases hs : stepOf t using St.each with
    | err d => rw [read_err hs] at h; cases h; exact step_code hs
    | done q => rw [read_done hs] at h; cases h
    | item k f b q => have := step_less hs; omega
  | succ n ih =>
    intro t ht c h
    cases hs : stepOf t using St.each with
    | err d => rw [read_err hs] at h; cases h; exact step_code hs
    | done q => rw [read_done hs] at h; cases h
    | item k f b q =>
      have hl := step_less hs
      rw [read_item hs] at h
      cases hq : readOf q using Out.each with
      | err d => rw [hq] at h; cases h; exact ih q (by omega) _ hq
      | ok m r => rw [hq] at h; cases h
theorem rec_ok {x : It} (h : x.may) : (recOf x).ok := by
  refine ⟨?_, ?_, ?_⟩
  · show (⟨x.key.toArray⟩ : ByteArray).size ≤ maxLen
    rw [mk_size]; have := (kOk_len h.1).2; unfold maxLen; omega
  · show x.flags < 4294967296
    have := h.2.1; omega
  · show (⟨x.body.toArray⟩ : ByteArray).size ≤ maxLen
    rw [mk_size]; have := h.2.2; unfold maxLen; omega
/- What Items says of what was read. -/
theorem items_read {w : World} {B : Nat} {v : Value} {l : List It} (ho : w.ownsRow B 45 8 v l.length (flat (l.map recOf))) (hm : ∀ x ∈ l, x.may) (hl : (itemsL l).length ≤ 70368744177664) :
    ∃ oa cap, v = .slice oa l.length cap ∧ ∀ u, Kept w u → Base u → Calls Tryd.prog 10 #[.slice oa l.length cap] u fun e w' => e = .returned (.string ⟨(itemsL l).toArray⟩) ∧ Kept u w' := by
  obtain ⟨oa, cap, b, hv, hr⟩ := row_own ho (by simp) (fun r hr => by
    obtain ⟨x, hx, rfl⟩ := List.mem_map.1 hr
    exact rec_ok (hm x hx))
  refine ⟨oa, cap, hv, fun u hu hB => ?_⟩
  have := Items_any oa l.length cap b 0 (l.map recOf) u hB (row_kept hr hu) (by rw [flatR_of]; exact hl)
  rw [itemsR_of] at this
  exact this
theorem items_len (l : List It) : 5 ≤ (itemsL l).length := by unfold itemsL endL; simp
set_option maxHeartbeats 1600000 in
set_option maxRecDepth 100000 in
theorem only_err (s : ByteArray) (z n : Int) (c : Nat) (w : World) (hs : ¬ (20000 : Int) < (s.size : Int)) (hB : Base w) (hc : c ≠ 0)
    (hR : Calls Tryd.prog 14 #[.string s, .int .i64 z] w fun e w' => e = .returned (.tuple #[.slice none 0 0, .int .i64 0, .int .i64 (c : Int)]) ∧ Kept w w') :
    Calls Tryd.prog 6 #[.string s, .int .i64 z, .int .u16 n] w fun e w' => e = .returned (.bool true) ∧ Kept w w' := by
  have HB := hid hB
  have hc1 : ((c : Int) == 0) = false := by simp; omega
  have hc2 : ((c : Int) != 0) = true := by simp; omega
  clear hB hc
  go_enter Tryd.func6, Tryd.ntmps6
  go_wp2_with fail
  refine hR.mono ?_
  rintro e w1 ⟨rfl, hk1⟩
  have HK1 := hid hk1
  have hF := fixed_any w1 (base_kept HB.out hk1)
  clear hR hk1
  go_wp2_with fail
  refine hF.mono ?_
  rintro e w2 ⟨rfl, hk2⟩
  have HK2 := hid (kept_trans HK1.out hk2)
  clear hF hk2 HK1
  go_wp2
  go_ret
  exact ⟨rfl, HK2.out⟩
set_option maxHeartbeats 1600000 in
set_option maxRecDepth 100000 in
theorem only_ok (s : ByteArray) (a : Nat) (n : Int) (l : List It) (r : List UInt8) (ha : a ≤ s.size) (hn : 0 ≤ n ∧ n < 65536) (w : World) (hs : ¬ (20000 : Int) < (s.size : Int)) (hB : Base w) (ho : readOf (s.data.toList.drop a) = .ok l r) :
    Calls Tryd.prog 6 #[.string s, .int .i64 (a : Int), .int .u16 n] w fun e w' => e = .returned (.bool true) ∧ Kept w w' := by
  obtain ⟨ht, hm⟩ := read_inv _ _ (Nat.le_refl _) _ _ ho
  have hlen : s.size - a = (itemsL l).length + r.length := by
    have := congrArg List.length ht
    rw [List.length_drop, size_list, List.length_append] at this
    exact this
  have h5 := items_len l
  obtain ⟨nx, hnx⟩ : ∃ nx : Nat, nx = s.size - r.length := ⟨_, rfl⟩
  have hR := read_at s a ha (by omega) w hB
  rw [ho] at hR
  have hnx2 : (s.size : Int) - (r.length : Int) = (nx : Int) := by omega
  have hX : (⟨(itemsL l).toArray⟩ : ByteArray) = s.extract a nx := by
    apply bytes_ext
    rw [mk_list, ext_list, ht, show nx - a = (itemsL l).length by omega, List.take_left]
  obtain ⟨m, hm0⟩ : ∃ m : Nat, m = n.toNat % (itemsL l).length := ⟨_, rfl⟩
  have hml : m < (itemsL l).length := by rw [hm0]; exact Nat.mod_lt _ (by omega)
  have hmod : Int.tmod n ((nx : Int) - (a : Int)) = (m : Int) := by
    rw [Int.tmod_eq_emod_of_nonneg hn.1, show (nx : Int) - (a : Int) = ((itemsL l).length : Int) by omega, hm0, Int.natCast_emod, Int.toNat_of_nonneg hn.1]
  have hS : (s.extract 0 (a + m)).size = a + m := by rw [← size_list, ext_to, List.length_take, size_list]; omega
  have hShort : readOf ((s.extract 0 (a + m)).data.toList.drop a) = .err 2 := by
    have e : (s.extract 0 (a + m)).data.toList.drop a = (itemsL l).take m := by
      rw [ext_to, List.drop_take, ht, show a + m - a = m by omega, List.take_append_of_le_length (by omega)]
    rw [e]
    exact read_short l m hm hml
  have hR2 := fun u hu => read_at (s.extract 0 (a + m)) a (by rw [hS]; omega) (by rw [hS]; omega) u hu
  rw [hShort] at hR2
  have HB := hid hB
  have HM := hid hm
  have HL : Hid ((itemsL l).length ≤ 70368744177664) := by show _ ≤ _; omega
  have HX := hid hX
  have hsl := slice_run s a nx (by omega) (by omega)
  have hslk : ∀ u, (Instr.slice 9 (.string s) none (some (.int .i64 ((a : Int) + (m : Int)))) none).run Tryd.prog u = .ok (.string (s.extract 0 (a + m))) u := fun u => by
    have := run_slice_string_h (P := Tryd.prog) u 9 s Tryd.underlying9 .i64 ((a : Int) + (m : Int)) (by omega) (by omega)
    rw [show ((a : Int) + (m : Int)).toNat = a + m by omega] at this
    exact this
  have hd : decide ((s.size : Int) < (nx : Int)) = false := decide_eq_false (by omega)
  have hd2 : ¬ (s.size : Int) < (nx : Int) := by omega
  have hsub : ((nx : Int) - (a : Int) == 0) = false := by simp; omega
  have hsub2 : ¬ (nx : Int) - (a : Int) = 0 := by omega
  have hk0 : (0 : Int) ≤ (a : Int) + (m : Int) := by omega
  have hk1 : (a : Int) + (m : Int) ≤ (s.size : Int) := by omega
  have hkn : ((a : Int) + (m : Int)).toNat = a + m := by omega
  have hnn : 0 ≤ n := hn.1
  have hnm : n < 65536 := hn.2
  have hs2 : s.size ≤ 20000 := by omega
  have hnw : IntKind.i64.wrap n = n := by rw [IntKind.wrap_i64]; omega
  have ha3 : (a : Int) ≤ 20000 := by omega
  have hnx3 : (nx : Int) ≤ 20000 := by omega
  have hm3 : (m : Int) ≤ 20000 := by omega
  have hax : (a : Int) < (nx : Int) := by omega
  clear hm ho hm0 hml hnx ht hlen h5 hX hShort hS hn hB hs2
  go_enter Tryd.func6, Tryd.ntmps6
  go_wp2_with fail
  refine hR.mono ?_
  rintro e w1 ⟨hkk1, v, rfl, hown⟩
  have HK1 := hid hkk1
  obtain ⟨oa, cap, rfl, hI0⟩ := items_read hown HM.out HL.out
  have hI := fun u hu => hI0 u hu (base_kept HB.out (kept_trans HK1.out hu))
  rw [HX.out] at hI
  clear hR hkk1 hown hI0 HX HM HL
  rw [hnx2]
  generalize s.extract a nx = X at *
  generalize l.length = len at *
  have hne : (!X.toList == X.toList) = false := by simp
  go_wp2_with fail
  refine wp_region_noPanic ?_
  refine wp_region_held_drew (S := (fun _ => True)) (by kernel_rfl) (trivial) (fun hHeld => ?_)
  refine wpAnyH_take (i := 0) (v := .int .i64 (nx : Int)) rfl (by kernel_rfl) (by kernel_rfl) (by kernel_rfl) (fun _ _ _ h => h) (Or.inl ⟨by rfl, fun w hSw => by (try dsimp only at hSw); go_simp⟩) (by assumption) ?_
  try simp only [List.getElem_toArray, List.getElem_cons_zero, List.getElem_cons_succ, Act.put, List.setIfInBounds_toArray, List.set_cons_zero, List.set_cons_succ]
  refine wpAnyH_take (i := 1) (v := .string s) rfl (by kernel_rfl) (by kernel_rfl) (by kernel_rfl) (fun _ _ _ h => h) (Or.inl ⟨by rfl, fun w hSw => by (try dsimp only at hSw); go_simp⟩) (by assumption) ?_
  try simp only [List.getElem_toArray, List.getElem_cons_zero, List.getElem_cons_succ, Act.put, List.setIfInBounds_toArray, List.set_cons_zero, List.set_cons_succ]
  refine wpAnyH_take (i := 2) (v := .int .i64 (s.size : Int)) rfl (by kernel_rfl) (by kernel_rfl) (by kernel_rfl) (fun _ _ _ h => h) (Or.inl ⟨by rfl, fun w hSw => by (try dsimp only at hSw); go_simp⟩) (by assumption) ?_
  try simp only [List.getElem_toArray, List.getElem_cons_zero, List.getElem_cons_succ, Act.put, List.setIfInBounds_toArray, List.set_cons_zero, List.set_cons_succ]
  refine wpAnyH_take (i := 3) (v := .bool false) rfl (by kernel_rfl) (by kernel_rfl) (by kernel_rfl) (fun _ _ _ h => h) (Or.inl ⟨by rfl, fun w hSw => by (try dsimp only at hSw); go_simp; omega⟩) (by assumption) ?_
  try simp only [List.getElem_toArray, List.getElem_cons_zero, List.getElem_cons_succ, Act.put, List.setIfInBounds_toArray, List.set_cons_zero, List.set_cons_succ]
  refine wpAnyH_take (i := 4) (v := .bool false) rfl (by kernel_rfl) (by kernel_rfl) (by kernel_rfl) (fun _ _ _ h => h) (Or.inl ⟨by rfl, fun w hSw => by (try dsimp only at hSw); go_simp⟩) (by assumption) ?_
  try simp only [List.getElem_toArray, List.getElem_cons_zero, List.getElem_cons_succ, Act.put, List.setIfInBounds_toArray, List.set_cons_zero, List.set_cons_succ]
  refine wpAnyH_take (i := 5) (v := .slice oa len cap) rfl (by kernel_rfl) (by kernel_rfl) (by kernel_rfl) (fun _ _ _ h => h) (Or.inl ⟨by rfl, fun w hSw => by (try dsimp only at hSw); go_simp⟩) (by assumption) ?_
  try simp only [List.getElem_toArray, List.getElem_cons_zero, List.getElem_cons_succ, Act.put, List.setIfInBounds_toArray, List.set_cons_zero, List.set_cons_succ]
  refine wpAnyH_take (i := 7) (v := .string s) rfl (by kernel_rfl) (by kernel_rfl) (by kernel_rfl) (fun _ _ _ h => h) (Or.inl ⟨by rfl, fun w hSw => by (try dsimp only at hSw); go_simp⟩) (by assumption) ?_
  try simp only [List.getElem_toArray, List.getElem_cons_zero, List.getElem_cons_succ, Act.put, List.setIfInBounds_toArray, List.set_cons_zero, List.set_cons_succ]
  refine wpAnyH_take (i := 8) (v := .int .i64 (a : Int)) rfl (by kernel_rfl) (by kernel_rfl) (by kernel_rfl) (fun _ _ _ h => h) (Or.inl ⟨by rfl, fun w hSw => by (try dsimp only at hSw); go_simp⟩) (by assumption) ?_
  try simp only [List.getElem_toArray, List.getElem_cons_zero, List.getElem_cons_succ, Act.put, List.setIfInBounds_toArray, List.set_cons_zero, List.set_cons_succ]
  refine wpAnyH_take (i := 9) (v := .int .i64 (nx : Int)) rfl (by kernel_rfl) (by kernel_rfl) (by kernel_rfl) (fun _ _ _ h => h) (Or.inl ⟨by rfl, fun w hSw => by (try dsimp only at hSw); go_simp⟩) (by assumption) ?_
  try simp only [List.getElem_toArray, List.getElem_cons_zero, List.getElem_cons_succ, Act.put, List.setIfInBounds_toArray, List.set_cons_zero, List.set_cons_succ]
  refine wpAnyH_take (i := 10) (v := .string X) rfl (by kernel_rfl) (by kernel_rfl) (by kernel_rfl) (fun _ _ _ h => h) (Or.inl ⟨by rfl, fun w hSw => by (try dsimp only at hSw); go_simp; try (rw [hsl])⟩) (by assumption) ?_
  try simp only [List.getElem_toArray, List.getElem_cons_zero, List.getElem_cons_succ, Act.put, List.setIfInBounds_toArray, List.set_cons_zero, List.set_cons_succ]
  refine wpAnyH_ready (rs := [6]) (by kernel_rfl) (by simp) ?_
  refine AllReadyH.cons (i := 6) rfl (fun K hK => ?_) AllReadyH.nil
  go_simp
  refine (hI _ (kept_drew (kept_refl w1))).mono ?_
  rintro e w3 ⟨rfl, h3⟩
  have k2 := hid h3
  clear h3
  clear hHeld
  show K _ _
  refine hK.out _ _ (trivial) (fun hHeld => ?_)
  clear hK K
  try simp only [List.getElem_toArray, List.getElem_cons_zero, List.getElem_cons_succ, Act.put, List.setIfInBounds_toArray, List.set_cons_zero, List.set_cons_succ]
  refine wpAnyH_take (i := 11) (v := .bool false) rfl (by kernel_rfl) (by kernel_rfl) (by kernel_rfl) (fun _ _ _ h => h) (Or.inl ⟨by rfl, fun w hSw => by (try dsimp only at hSw); go_simp⟩) (by assumption) ?_
  try simp only [List.getElem_toArray, List.getElem_cons_zero, List.getElem_cons_succ, Act.put, List.setIfInBounds_toArray, List.set_cons_zero, List.set_cons_succ]
  refine wpAnyH_take (i := 12) (v := .bool false) rfl (by kernel_rfl) (by kernel_rfl) (by kernel_rfl) (fun _ _ _ h => h) (Or.inl ⟨by rfl, fun w hSw => by (try dsimp only at hSw); go_simp⟩) (by assumption) ?_
  try simp only [List.getElem_toArray, List.getElem_cons_zero, List.getElem_cons_succ, Act.put, List.setIfInBounds_toArray, List.set_cons_zero, List.set_cons_succ]
  refine wpAnyH_done (by kernel_rfl) ?_ _
  refine NoPanic.normal ?_
  have HK2 := hid (kept_trans HK1.out k2.out)
  have hR3 := hR2 w3 (base_kept HB.out HK2.out)
  clear k2 HK1 hR2 hI hHeld
  generalize s.extract 0 (a + m) = Y at *
  go_wp2_with fail
  refine hR3.mono ?_
  rintro e w4 ⟨hk4, rfl⟩
  have HK4 := hid (kept_trans HK2.out hk4)
  have hF := fixed_any w4 (base_kept HB.out HK4.out)
  clear hR3 hk4 HK2
  go_wp2_with fail
  refine hF.mono ?_
  rintro e w5 ⟨rfl, hk5⟩
  have HK5 := hid (kept_trans HK4.out hk5)
  clear hF hk5 HK4
  go_wp2
  go_ret
  exact ⟨rfl, HK5.out⟩
theorem only_any (s : ByteArray) (z n : Int) (w : World) (hB : Base w) (hn : 0 ≤ n ∧ n < 65536) :
    Calls Tryd.prog 6 #[.string s, .int .i64 z, .int .u16 n] w fun e w' => e = .returned (.bool true) ∧ Kept w w' := by
  by_cases hs : (20000 : Int) < (s.size : Int)
  · have hF := fixed_any w hB
    go_enter Tryd.func6, Tryd.ntmps6
    go_wp2_with fail
    refine hF.mono ?_
    rintro e w5 ⟨rfl, hk5⟩
    go_wp2
    go_ret
    exact ⟨rfl, hk5⟩
  · by_cases hz : z < 0 ∨ (s.size : Int) < z
    · exact only_err s z n 1 w hs hB (by omega) ((read_bad s z hz w).mono fun e w' ⟨he, hw⟩ => ⟨he, by rw [hw]; exact kept_refl w⟩)
    · obtain ⟨a, rfl⟩ : ∃ a : Nat, z = (a : Int) := ⟨z.toNat, by omega⟩
      have ha : a ≤ s.size := by omega
      cases ho : readOf (s.data.toList.drop a) using Out.each with
      | err c =>
        have hc := read_code _ _ (Nat.le_refl _) c ho
        have hR := read_at s a ha (by omega) w hB
        rw [ho] at hR
        exact only_err s a n c w hs hB (by omega) (hR.mono fun e w' h => ⟨h.2, h.1⟩)
      | ok l r => exact only_ok s a n l r ha hn w hs hB ho
theorem only_walk (s : ByteArray) (z n : Int) (w : World) (hB : Base w) (ws : s.size ≤ maxLen) (wz : (Lit.int .i64 z).wf = true) (wn : (Lit.int .u16 n).wf = true) :
    Calls Tryd.prog 6 #[.string s, .int .i64 z, .int .u16 n] w fun e w' => e = .returned (.bool true) ∧ Kept w w' := by
  have := bounds_u16 wn
  exact only_any s z n w hB (by omega)
end Go.Proofs.YtlbpmehlfihpbaaDoor
