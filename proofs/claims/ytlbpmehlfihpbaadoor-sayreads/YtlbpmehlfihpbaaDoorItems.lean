/- The contract of the program's Items: what it says of a row of records. What is said has at most 2^46 bytes. -/
import Derived.Test.YtlbpmehlfihpbaaDoorSay
import Derived.Deep.RegionHeld3
namespace Go.Proofs.YtlbpmehlfihpbaaDoor
open Go.ChangeShapes Go.WideShapes Go.ChangeAt Go.RowKit
set_option linter.unusedVariables false
set_option linter.unusedSimpArgs false

theorem cells8 {w : World} {X T : Nat} {r : R} (h : At w X #[.string r.key, .int .u64 r.s.p, .int .u32 r.s.l, .int .u8 r.s.n, .int .u8 r.kind, .int .u32 r.flags, .int .u64 r.exp, .string r.body] T) : w.cell? ⟨X, 0, none⟩ = some (.string r.key) ∧ w.cell? ⟨X, 1, none⟩ = some (.int .u64 r.s.p) ∧ w.cell? ⟨X, 2, none⟩ = some (.int .u32 r.s.l) ∧ w.cell? ⟨X, 3, none⟩ = some (.int .u8 r.s.n) ∧ w.cell? ⟨X, 4, none⟩ = some (.int .u8 r.kind) ∧ w.cell? ⟨X, 5, none⟩ = some (.int .u32 r.flags) ∧ w.cell? ⟨X, 6, none⟩ = some (.int .u64 r.exp) ∧ w.cell? ⟨X, 7, none⟩ = some (.string r.body) :=
  ⟨at_cell h 0, at_cell h 1, at_cell h 2, at_cell h 3, at_cell h 4, at_cell h 5, at_cell h 6, at_cell h 7⟩
theorem zero53 (w : World) : (zeroValue 53).run Tryd.prog w = .ok (.agg #[.pointer none, .slice none 0 0]) w := by kernel_rfl
set_option maxHeartbeats 3200000 in
set_option maxRecDepth 100000 in
theorem Items_any (oa : Option Addr) (len cap b o : Nat) (L : List R) (w : World) (hB : Base w) (hR : Row w oa len cap b o L) (hlen : (L.flatMap itemR).length + 5 ≤ 70368744177664) :
    Calls Tryd.prog 10 #[.slice oa len cap] w fun e w' => e = .returned (.string ⟨(itemsR L).toArray⟩) ∧ Kept w w' := by
  have hz := zero45
  have hz3 := zero53
  obtain ⟨h0, h1, h2, -, h4, h5⟩ := hR
  have H0 : Hid (L.length = len) := h0
  have H4 : Hid (0 < len → oa = some ⟨b, o, none⟩ ∧ b < w.heap.size) := h4
  have H5 : Hid (∀ i (h : i < L.length), L[i].ok ∧ Lies w b (o + i * 8) L[i]) := h5
  have HN : Hid ((L.flatMap itemR).length + 5 ≤ 70368744177664) := hlen
  have hm : len ≤ 9223372036854775807 := by unfold maxLen at h2; omega
  have M0 := hid (made_new w)
  have K0 := hid (kept_alloc (kept_refl w) (.cells #[.pointer none, .slice none 0 0] 53))
  clear h0 h2 h4 h5 hlen
  go_enter Tryd.func10, Tryd.ntmps10
  go_wp2
  generalize w.alloc (.cells #[.pointer none, .slice none 0 0] 53) = wa at *
  have HX : Hid (w.heap.size ≤ w.heap.size) := Nat.le_refl _
  obtain ⟨X, hX⟩ : ∃ X, X = w.heap.size := ⟨_, rfl⟩
  rw [← hX] at M0 HX
  simp only [← hX]
  have HX : Hid (w.heap.size ≤ X) := by show _ ≤ _; omega
  clear hX
  go_loopw [5, 8] (fun p j wr => ∃ k : Nat, k ≤ len ∧ j = .int .i64 k ∧ Hid (Made X X ((L.take k).flatMap itemR) wr) ∧ Hid (Kept w wr)) (fun _ j _ => len - (intOf j).toNat)
  case atStart => exact ⟨0, Nat.zero_le _, rfl, by simpa using M0, K0⟩
  case round =>
    obtain ⟨k, hk, rfl, HM, HK⟩ := hrel
    by_cases hlt : k < len
    · have hkL : k < L.length := by rw [H0.out]; exact hlt
      obtain ⟨hoa, hb⟩ := H4.out (by omega)
      obtain ⟨hok, hcell⟩ := H5.out k hkL
      have hc := lies_kept hcell hb HK.out
      have HS := hid (flat_succ itemR L k hkL)
      have HL : Hid (((L.take k).flatMap itemR).length + (itemR L[k]).length ≤ 70368744177664) := by
        show _ ≤ _
        have h1 := flat_le itemR L (k + 1)
        rw [flat_succ itemR L k hkL, List.length_append] at h1
        have := HN.out
        omega
      have hfl := hok.2.1
      have hbs := hok.2.2
      have HL2 : Hid (((L.take k).flatMap itemR ++ firstL L[k].key.data.toList L[k].flags L[k].body.data.toList.length).length + (L[k].body.size + 2) ≤ 70368744177664) := by
        have h7 := HL.out
        have h8 : (itemR L[k]).length = (firstL L[k].key.data.toList L[k].flags L[k].body.data.toList.length).length + (L[k].body.size + 2) := by
          unfold itemR itemL
          rw [List.length_append]
          simp only [List.length_append, List.length_cons, List.length_nil, size_list]
        show _ ≤ _
        rw [List.length_append]
        omega
      have HE : Hid (∀ l, (L.take k).flatMap itemR = l → l ++ firstL L[k].key.data.toList L[k].flags L[k].body.data.toList.length ++ (L[k].body.data.toList ++ [13, 10]) = (L.take (k + 1)).flatMap itemR) := fun l e => by
        rw [HS.out, ← e]; simp [itemR, itemL]
      have HA := hid (at_new wr #[.string L[k].key, .int .u64 L[k].s.p, .int .u32 L[k].s.l, .int .u8 L[k].s.n, .int .u8 L[k].kind, .int .u32 L[k].flags, .int .u64 L[k].exp, .string L[k].body] 45)
      have HM2 := hid (made_kept HM.out (kept_alloc (kept_refl wr) (.cells #[.string L[k].key, .int .u64 L[k].s.p, .int .u32 L[k].s.l, .int .u8 L[k].s.n, .int .u8 L[k].kind, .int .u32 L[k].flags, .int .u64 L[k].exp, .string L[k].body] 45)))
      have HK2 := hid (kept_alloc HK.out (.cells #[.string L[k].key, .int .u64 L[k].s.p, .int .u32 L[k].s.l, .int .u8 L[k].s.n, .int .u8 L[k].kind, .int .u32 L[k].flags, .int .u64 L[k].exp, .string L[k].body] 45))
      have HY : Hid (wr.heap.size ≠ X) := by
        show _ ≠ _
        have := HM.out.1
        have : X < wr.heap.size := this.elim (fun h => h.lt) (fun h => h.lt)
        omega
      clear HS HM hok hcell hb HN
      generalize L[k] = r at *
      have HE2 := hid (HE.out _ rfl)
      clear HE
      generalize (L.take k).flatMap itemR = l at *
      obtain ⟨c0, c1, c2, c3, c4, c5, c6, c7⟩ := hc
      unfold maxLen at hbs
      have hw1 : IntKind.u64.wrap (r.flags : Int) = (r.flags : Int) := by rw [IntKind.wrap_u64]; omega
      have hw2 : IntKind.u64.wrap (r.body.size : Int) = (r.body.size : Int) := by rw [IntKind.wrap_u64]; omega
      subst hoa
      go_wp2_with fail
      clear c0 c1 c2 c3 c4 c5 c6 c7
      generalize wr.alloc (.cells #[.string r.key, .int .u64 r.s.p, .int .u32 r.s.l, .int .u8 r.s.n, .int .u8 r.kind, .int .u32 r.flags, .int .u64 r.exp, .string r.body] 45) = w2 at *
      generalize wr.heap.size = Y at *
      have hA := HA.out
      have hM := HM2.out
      have k0 := HK2.out
      clear HA HM2 HK2 HK
      obtain ⟨c0, c1, c2, c3, c4, c5, c6, c7⟩ := cells8 hA
      refine wp_region_noPanic ?_
      refine wp_region_held_drew (S := (fun w' => w'.cell? ⟨Y, 0, none⟩ = some (.string r.key) ∧ w'.cell? ⟨Y, 1, none⟩ = some (.int .u64 r.s.p) ∧ w'.cell? ⟨Y, 2, none⟩ = some (.int .u32 r.s.l) ∧ w'.cell? ⟨Y, 3, none⟩ = some (.int .u8 r.s.n) ∧ w'.cell? ⟨Y, 4, none⟩ = some (.int .u8 r.kind) ∧ w'.cell? ⟨Y, 5, none⟩ = some (.int .u32 r.flags) ∧ w'.cell? ⟨Y, 6, none⟩ = some (.int .u64 r.exp) ∧ w'.cell? ⟨Y, 7, none⟩ = some (.string r.body))) (by kernel_rfl) (cells8 hA) (fun hHeld => ?_)
      refine wpAnyH_take (i := 0) (v := .pointer (some ⟨Y, 0, none⟩)) rfl (by kernel_rfl) (by kernel_rfl) (by kernel_rfl) (fun _ _ _ h => h) (Or.inl ⟨by rfl, fun w hSw => by (try dsimp only at hSw); go_simp⟩) (by assumption) ?_
      try simp only [List.getElem_toArray, List.getElem_cons_zero, List.getElem_cons_succ, Act.put, List.setIfInBounds_toArray, List.set_cons_zero, List.set_cons_succ]
      refine wpAnyH_take (i := 1) (v := .string r.key) rfl (by kernel_rfl) (by kernel_rfl) (by kernel_rfl) (fun _ _ _ h => h) (Or.inl ⟨by rfl, fun w hSw => by (try dsimp only at hSw); go_simp⟩) (by assumption) ?_
      try simp only [List.getElem_toArray, List.getElem_cons_zero, List.getElem_cons_succ, Act.put, List.setIfInBounds_toArray, List.set_cons_zero, List.set_cons_succ]
      refine wpAnyH_take (i := 2) (v := .pointer (some ⟨Y, 5, none⟩)) rfl (by kernel_rfl) (by kernel_rfl) (by kernel_rfl) (fun _ _ _ h => h) (Or.inl ⟨by rfl, fun w hSw => by (try dsimp only at hSw); go_simp⟩) (by assumption) ?_
      try simp only [List.getElem_toArray, List.getElem_cons_zero, List.getElem_cons_succ, Act.put, List.setIfInBounds_toArray, List.set_cons_zero, List.set_cons_succ]
      refine wpAnyH_take (i := 3) (v := .int .u32 (r.flags : Int)) rfl (by kernel_rfl) (by kernel_rfl) (by kernel_rfl) (fun _ _ _ h => h) (Or.inl ⟨by rfl, fun w hSw => by (try dsimp only at hSw); go_simp⟩) (by assumption) ?_
      try simp only [List.getElem_toArray, List.getElem_cons_zero, List.getElem_cons_succ, Act.put, List.setIfInBounds_toArray, List.set_cons_zero, List.set_cons_succ]
      refine wpAnyH_take (i := 4) (v := .int .u64 (r.flags : Int)) rfl (by kernel_rfl) (by kernel_rfl) (by kernel_rfl) (fun _ _ _ h => h) (Or.inl ⟨by rfl, fun w hSw => by (try dsimp only at hSw); go_simp; try (rw [hw1])⟩) (by assumption) ?_
      try simp only [List.getElem_toArray, List.getElem_cons_zero, List.getElem_cons_succ, Act.put, List.setIfInBounds_toArray, List.set_cons_zero, List.set_cons_succ]
      refine wpAnyH_take (i := 6) (v := .pointer (some ⟨Y, 7, none⟩)) rfl (by kernel_rfl) (by kernel_rfl) (by kernel_rfl) (fun _ _ _ h => h) (Or.inl ⟨by rfl, fun w hSw => by (try dsimp only at hSw); go_simp⟩) (by assumption) ?_
      try simp only [List.getElem_toArray, List.getElem_cons_zero, List.getElem_cons_succ, Act.put, List.setIfInBounds_toArray, List.set_cons_zero, List.set_cons_succ]
      refine wpAnyH_take (i := 7) (v := .string r.body) rfl (by kernel_rfl) (by kernel_rfl) (by kernel_rfl) (fun _ _ _ h => h) (Or.inl ⟨by rfl, fun w hSw => by (try dsimp only at hSw); go_simp⟩) (by assumption) ?_
      try simp only [List.getElem_toArray, List.getElem_cons_zero, List.getElem_cons_succ, Act.put, List.setIfInBounds_toArray, List.set_cons_zero, List.set_cons_succ]
      refine wpAnyH_take (i := 8) (v := .int .i64 (r.body.size : Int)) rfl (by kernel_rfl) (by kernel_rfl) (by kernel_rfl) (fun _ _ _ h => h) (Or.inl ⟨by rfl, fun w hSw => by (try dsimp only at hSw); go_simp⟩) (by assumption) ?_
      try simp only [List.getElem_toArray, List.getElem_cons_zero, List.getElem_cons_succ, Act.put, List.setIfInBounds_toArray, List.set_cons_zero, List.set_cons_succ]
      refine wpAnyH_take (i := 9) (v := .int .u64 (r.body.size : Int)) rfl (by kernel_rfl) (by kernel_rfl) (by kernel_rfl) (fun _ _ _ h => h) (Or.inl ⟨by rfl, fun w hSw => by (try dsimp only at hSw); go_simp; try (rw [hw2])⟩) (by assumption) ?_
      try simp only [List.getElem_toArray, List.getElem_cons_zero, List.getElem_cons_succ, Act.put, List.setIfInBounds_toArray, List.set_cons_zero, List.set_cons_succ]
      refine wpAnyH_ready (rs := [5]) (by kernel_rfl) (by simp) ?_
      refine AllReadyH.cons (i := 5) rfl (fun K hK => ?_) AllReadyH.nil
      go_simp
      refine (digits_any r.flags (by omega) _ (base_kept hB (kept_drew k0))).mono ?_
      rintro e w3 ⟨rfl, h3⟩
      replace hA := at_kept hA h3
      replace hM := made_kept hM h3
      replace k0 := kept_trans k0 h3
      clear h3
      clear hHeld
      show K _ _
      refine hK.out _ _ (cells8 hA) (fun hHeld => ?_)
      clear hK K
      try simp only [List.getElem_toArray, List.getElem_cons_zero, List.getElem_cons_succ, Act.put, List.setIfInBounds_toArray, List.set_cons_zero, List.set_cons_succ]
      refine wpAnyH_ready (rs := [10]) (by kernel_rfl) (by simp) ?_
      refine AllReadyH.cons (i := 10) rfl (fun K hK => ?_) AllReadyH.nil
      go_simp
      refine (digits_any r.body.size (by omega) _ (base_kept hB k0)).mono ?_
      rintro e w3 ⟨rfl, h3⟩
      replace hA := at_kept hA h3
      replace hM := made_kept hM h3
      replace k0 := kept_trans k0 h3
      clear h3
      clear hHeld
      show K _ _
      refine hK.out _ _ (cells8 hA) (fun hHeld => ?_)
      clear hK K
      try simp only [List.getElem_toArray, List.getElem_cons_zero, List.getElem_cons_succ, Act.put, List.setIfInBounds_toArray, List.set_cons_zero, List.set_cons_succ]
      refine wpAnyH_ready (rs := [11]) (by kernel_rfl) (by simp) ?_
      refine AllReadyH.cons (i := 11) rfl (fun K hK => ?_) AllReadyH.nil
      go_simp
      have hZ := at_new w3 #[.string ⟨#[86, 65, 76, 85, 69]⟩, .string r.key, .string ⟨(Lib.decDigits r.flags).toArray⟩, .string ⟨(Lib.decDigits r.body.size).toArray⟩] 9
      replace hA := at_alloc hA (.cells #[.string ⟨#[86, 65, 76, 85, 69]⟩, .string r.key, .string ⟨(Lib.decDigits r.flags).toArray⟩, .string ⟨(Lib.decDigits r.body.size).toArray⟩] 9)
      replace hM := made_kept hM (kept_alloc (kept_refl w3) (.cells #[.string ⟨#[86, 65, 76, 85, 69]⟩, .string r.key, .string ⟨(Lib.decDigits r.flags).toArray⟩, .string ⟨(Lib.decDigits r.body.size).toArray⟩] 9))
      replace k0 := kept_alloc k0 (.cells #[.string ⟨#[86, 65, 76, 85, 69]⟩, .string r.key, .string ⟨(Lib.decDigits r.flags).toArray⟩, .string ⟨(Lib.decDigits r.body.size).toArray⟩] 9)
      generalize w3.alloc (.cells #[.string ⟨#[86, 65, 76, 85, 69]⟩, .string r.key, .string ⟨(Lib.decDigits r.flags).toArray⟩, .string ⟨(Lib.decDigits r.body.size).toArray⟩] 9) = w4 at *
      generalize w3.heap.size = Z at *
      clear hHeld
      show K _ _
      refine hK.out _ _ (cells8 hA) (fun hHeld => ?_)
      clear hK K
      try simp only [List.getElem_toArray, List.getElem_cons_zero, List.getElem_cons_succ, Act.put, List.setIfInBounds_toArray, List.set_cons_zero, List.set_cons_succ]
      refine wpAnyH_ready (rs := [12]) (by kernel_rfl) (by simp) ?_
      refine AllReadyH.cons (i := 12) rfl (fun K hK => ?_) AllReadyH.nil
      go_simp
      refine (say4 r Z hM hZ HL.out).mono ?_
      rintro e w5 ⟨rfl, hm5, hs5⟩
      replace hA := at_said hA hs5 HY.out (by decide)
      replace k0 := kept_said k0 hs5 HX.out
      replace hM := hm5
      clear hm5 hs5 hZ
      clear hHeld
      show K _ _
      refine hK.out _ _ (cells8 hA) (fun hHeld => ?_)
      clear hK K
      try simp only [List.getElem_toArray, List.getElem_cons_zero, List.getElem_cons_succ, Act.put, List.setIfInBounds_toArray, List.set_cons_zero, List.set_cons_succ]
      refine wpAnyH_done (by kernel_rfl) ?_ _
      refine NoPanic.normal ?_
      obtain ⟨c0, c1, c2, c3, c4, c5, c6, c7⟩ := cells8 hA
      have hZ := at_new w5 #[.string r.body] 9
      have hM2 := made_kept hM (kept_alloc (kept_refl w5) (.cells #[.string r.body] 9))
      have k2 := kept_alloc k0 (.cells #[.string r.body] 9)
      clear hA hM k0 hHeld
      go_wp2_with fail
      generalize w5.alloc (.cells #[.string r.body] 9) = w6 at *
      generalize w5.heap.size = Z2 at *
      refine (say1 r.body Z2 hM2 hZ HL2.out).mono ?_
      rintro e w7 ⟨rfl, hm7, hs7⟩
      have k7 := hid (kept_said k2 hs7 HX.out)
      have M7 : Hid (Made X X ((L.take (k + 1)).flatMap itemR) w7) := by
        have := hm7
        rw [HE2.out] at this
        exact this
      clear hm7 hs7 k2 hM2 hZ c0 c1 c2 c3 c4 c5 c6 c7
      go_wp2
      go_roundw
      case rel => exact ⟨k + 1, by omega, by go_num, M7, k7⟩
      case measure => simp [intOf]; omega
    · have hk2 : k = len := by omega
      have HM2 : Hid (Made X X (L.flatMap itemR) wr) := by
        have := HM.out
        rw [hk2, ← H0.out, List.take_length] at this
        exact this
      have hc1 := write_any ⟨#[69, 78, 68, 13, 10]⟩ wr HM2.out (by have := HN.out; show (L.flatMap itemR).length + 5 ≤ _; omega)
      clear HM HM2 HN H5 H4 hk2
      go_wp2_with fail
      refine hc1.mono ?_
      rintro e w2 ⟨rfl, hm2, hs2⟩
      have k2 := hid (kept_said HK.out hs2 HX.out)
      have hc2 := lib_String X X (L.flatMap itemR ++ [69, 78, 68, 13, 10]) w2 hm2.1 hm2.2
      clear hc1 hm2 hs2 HK
      go_wp2_with fail
      refine hc2.mono ?_
      rintro e w3 ⟨rfl, -, hb3, ho3⟩
      go_wp2_with fail
      go_ret
      exact ⟨rfl, kept_said k2.out ⟨hb3, ho3⟩ HX.out⟩
end Go.Proofs.YtlbpmehlfihpbaaDoor
