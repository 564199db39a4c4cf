/- The contracts of Apart and Leaves. -/
import Derived.Test.YtpfelbbhhoilpaaWalk
namespace Go.Proofs.Ytpfelbbhhoilpaa
open Go.ChangeShapes Go.WideShapes Go.ChangeAt Go.RowKit
set_option linter.unusedVariables false
set_option linter.unusedSimpArgs false
set_option maxRecDepth 100000

theorem apart_nil1 (v : Value) (w : World) : Calls Try.prog 21 #[.pointer none, v] w fun e w' => e = .returned (.slice none 0 0) ∧ w' = w := by
  go_enter Try.func21, Try.ntmps21
  go_wp2_with fail
  go_ret
  exact ⟨rfl, rfl⟩
theorem apart_nil2 {X : Nat} (w : World) : Calls Try.prog 21 #[.pointer (some ⟨X, 0, none⟩), .pointer none] w fun e w' => e = .returned (.slice none 0 0) ∧ w' = w := by
  go_enter Try.func21, Try.ntmps21
  go_wp2_with fail
  go_ret
  exact ⟨rfl, rfl⟩
set_option maxHeartbeats 3200000 in
theorem apart_any {X Y : Nat} {L M : Nat → Int} (w : World) (hX : Tr w X L) (hY : Tr w Y M) : Calls Try.prog 21 #[.pointer (some ⟨X, 0, none⟩), .pointer (some ⟨Y, 0, none⟩)] w (RowC .i64 3 (cs (ap L M 64)) w) := by
  obtain ⟨i0, hi, hz0, hz1, hz2⟩ := info_parts (P := Try.prog) (e := 3) info3
  have HI := hid (And.intro hi (And.intro hz0 (And.intro hz1 hz2)))
  have HEnd : Hid (∀ v u, Own .i64 3 u w.heap.size v (cs (ap L M 64)) → Kept w u → RowC .i64 3 (cs (ap L M 64)) w (.returned v) u) := hid (fun v u h1 h2 => ⟨v, rfl, h1, h2⟩)
  have HBK : Hid (∀ u, Kept w u → w.heap.size ≤ u.heap.size ∧ ∀ j, j < 64 → u.cell? ⟨X, 64 + j, none⟩ = some (.int .u64 (L j)) ∧ u.cell? ⟨Y, 64 + j, none⟩ = some (.int .u64 (M j))) := hid (fun u h => ⟨h.2, fun j hj => by
    have e1 := nd_cell (nd_kept hX.1 h) (k := 64 + j) (by omega)
    have e2 := nd_cell (nd_kept hY.1 h) (k := 64 + j) (by omega)
    rw [nod_at] at e1 e2
    exact ⟨e1, e2⟩⟩)
  have HKG : Hid (∀ u u' row, Kept w u → u.grownBy u' row → (∀ k, row = some k → w.heap.size ≤ k) → Kept w u') := hid (fun u u' row h g hr => kept_grown h g hr)
  have HO0 : Hid (Own .i64 3 w w.heap.size (.slice none 0 0) (cs (ap L M 0))) := hid (own_nil _ _ _ _)
  have HK0 := hid (kept_refl w)
  clear hi hz0 hz1 hz2 hX hY
  generalize w.heap.size = B at *
  go_enter Try.func21, Try.ntmps21
  go_wp2_with fail
  go_loopw [5, 13] (fun ks j wr => ∃ k : Nat, k ≤ 64 ∧ j = .int .i64 (k : Int) ∧ Hid (Own .i64 3 wr B ks (cs (ap L M k))) ∧ Hid (Kept w wr)) (fun _ j _ => 64 - (intOf j).toNat)
  case atStart => exact ⟨0, Nat.zero_le _, rfl, HO0, HK0⟩
  case round =>
    obtain ⟨k, hk, rfl, HO, HK⟩ := hrel
    clear HO0 HK0
    by_cases hlt : k < 64
    · obtain ⟨hB, hC⟩ := HBK.out _ HK.out
      have HB := hid hB
      obtain ⟨x0, y0⟩ := hC k hlt
      obtain ⟨a, ha⟩ : ∃ a, 64 + k = a := ⟨_, rfl⟩
      rw [ha] at x0 y0
      have hwa : IntKind.i64.wrap (64 + (k : Int)) = (a : Int) := by rw [IntWalk.i64_in _ (by omega)]; omega
      have b1 : (a : Int) < 128 := by omega
      have HL := hid (ap_len L M k)
      have HM1 : Hid (L k = M k → ap L M (k + 1) = ap L M k) := hid (fun h => ap_same h)
      have HM2 : Hid (L k ≠ M k → ap L M (k + 1) = ap L M k ++ [k]) := hid (fun h => ap_more h)
      generalize L k = x at *
      generalize M k = y at *
      clear hB hC ha
      by_cases hx : x = y
      · have hne : (x != y) = false := by simpa using hx
        have HS := hid (HM1.out hx)
        clear hx HM1 HM2
        go_wp2_with fail
        go_quiet (fail)
        go_wp2_with fail
        go_roundw
        case rel => exact ⟨k + 1, by omega, by go_num, hid (by rw [HS.out]; exact own_stays HO.out (kept_drewN (kept_refl _) _)), hid (kept_drewN HK.out _)⟩
        case measure => simp [intOf]; omega
      · have hne : (x != y) = true := by simpa using hx
        have HS := hid (HM2.out hx)
        clear hx HM1 HM2
        go_wp2_with fail
        go_quiet (fail)
        replace HO := hid (own_stays HO.out (kept_drewN (kept_refl wr) nq))
        replace HK := hid (kept_drewN HK.out nq)
        replace HB : Hid (B ≤ (wr.drewN nq).heap.size) := hid HB.out
        clear x0 y0 hwa
        generalize wr.drewN nq = w2 at *
        have HO2 := hid (World.ownsRow.alloc HO.out (.cells #[.int .i64 (k : Int)] 3))
        have HKa := hid (kept_alloc HK.out (.cells #[.int .i64 (k : Int)] 3))
        have hq : (cs (ap L M k)).length ≤ 64 := by rw [cs_len]; have := HL.out; omega
        generalize hqq : (cs (ap L M k)).length = q at *
        have HQ := hid hqq
        clear hqq
        go_wp2_with (at_builtin; go_must (refine wpList_append_own _ rfl (.tmp 31) (.tmp 33) 40 rfl B 3 i0 (.int .i64 0) 1 8 Try.underlying40 HI.out.1 HI.out.2.1 HI.out.2.2.1 HI.out.2.2.2 rfl (by decide) _ _ _ rfl HO2.out ⟨w2.heap.size, 0, none⟩ 1 1 [.int .i64 (k : Int)] rfl rfl (cell_one _ _ _) (one_one _ _) (by unfold maxLen; omega) (by omega) (by have := HB.out; simp; omega) ?_; intro v3 w3 hown3 hgrow3 hnil3))
        have HOn : Hid (Own .i64 3 w3 B v3 (cs (ap L M (k + 1)))) := hid (by
          rw [HS.out, cs_app]
          refine own_len (m := q + 1) ?_ (by rw [List.length_append, HQ.out]; rfl)
          rw [rv_app]
          exact hown3)
        have HKn := hid (HKG.out _ _ _ HKa.out hgrow3 (fun j hj => (World.ownsRow.lt HO2.out j hj).1))
        go_roundw
        case rel => exact ⟨k + 1, by omega, by go_num, HOn, HKn⟩
        case measure => simp [intOf]; omega
    · have he : k = 64 := by omega
      subst he
      go_wp2_with fail
      go_ret
      exact HEnd.out _ _ HO.out HK.out
/- Leaves. -/
theorem leaves_nil (w : World) : Calls Try.prog 17 #[.pointer none] w fun e w' => e = .returned (.slice none 0 0) ∧ w' = w := by
  go_enter Try.func17, Try.ntmps17
  go_wp2_with fail
  go_ret
  exact ⟨rfl, rfl⟩
theorem make64 (w : World) : (Instr.makeSlice 37 (.int .i64 64) (.int .i64 64)).run Try.prog w = .ok (.slice (some ⟨w.heap.size, 0, none⟩) 64 64) (w.alloc (.cells (madeCells #[.int .u64 0] 64) 26)) := by
  obtain ⟨i0, hi, hz0, hz1, hz2⟩ := info_parts info26
  have := run_make (P := Try.prog) w 37 26 i0 _ Try.underlying37 hi hz0 .i64 .i64 64 64 (by omega) (by omega) (by rw [hz2]; omega) (by omega)
  rw [this, hz1]
  rfl
theorem made_size : (madeCells #[.int .u64 0] 64).size = 64 := by unfold madeCells; simp
theorem nv_list (N : Nat → Int) (n : Nat) : (nv N n).toList.length = n := by simp [nv_size]
theorem addr_off (b o j : Nat) : (⟨b, o, none⟩ : Addr).add j = ⟨b, o + j, none⟩ := Addr.add_mid b o j
theorem setRow_other {w : World} {Z k : Nat} {cs : Array Value} (h : k ≠ Z) : (w.setRow Z cs).heap[k]? = w.heap[k]? := by
  unfold World.setRow
  rw [Array.getElem?_modify, if_neg (Ne.symm h)]
theorem setRow_size (w : World) (Z : Nat) (cs : Array Value) : (w.setRow Z cs).heap.size = w.heap.size := by
  unfold World.setRow
  simp
theorem at_setRow {w : World} {Z : Nat} {cs ds : Array Value} {T : Nat} (h : At w Z ds T) : At (w.setRow Z cs) Z cs T := by
  unfold At World.setRow at *
  rw [Array.getElem?_modify, h]
  simp
theorem kept_setRow {u w : World} (h : Kept u w) {Z : Nat} (hZ : u.heap.size ≤ Z) (cs : Array Value) : Kept u (w.setRow Z cs) :=
  kept_of (show w.os = u.os from kept_os h) (show w.output = u.output from kept_output h) (by rw [setRow_size]; exact h.2) (fun i hi => (setRow_other (by omega)).trans (kept_block h hi))
theorem turn_setRow {c : Nat} {u w : World} (h : Turn c u w) (cs : Array Value) : Turn c u (w.setRow c cs) :=
  ⟨h.1, h.2.1, by rw [setRow_size]; exact h.2.2.1, fun k hk hn => (setRow_other hn).trans (h.2.2.2 k hk hn)⟩
/- Leaves copied out of a tree. -/
theorem copy_out {w : World} {X G : Nat} {L : Nat → Int} {cur : Array Value} (hX : Tr w X L) (hG : At w G cur 26) (hc : cur.size = 64) (ty : TypeId) :
    (Builtin.copy_ #[37, 37] ty #[.slice (some ⟨G, 0, none⟩) 64 64, .slice (some ⟨X, 64, none⟩) 64 64]).run Try.prog w = .ok (.int .i64 64) (w.setRow G (nv L 64)) := by
  have h := run_copy_row (P := Try.prog) w 37 37 ty 26 G 0 64 64 ⟨X, 64, none⟩ 64 64 cur 26 (nv L 64).toList Try.underlying37 (by kernel_rfl) hG (by rw [nv_list]; rfl)
    (fun j v hv => by
      have hj : j < 64 := by
        have := (List.getElem?_eq_some_iff.1 hv).1
        rw [nv_list] at this
        exact this
      rw [Array.getElem?_toList, nv_get L hj] at hv
      rw [addr_off, nd_cell hX.1 (by omega), nod_at]
      exact hv) (by rw [nv_list]; omega) (fun v hv => by
      have := nv_one L 64
      rw [Array.all_eq_true_iff_forall_mem] at this
      exact this v (by simpa using hv))
  rw [h]
  congr 1
  · rw [nv_list]; rfl
  · rw [nv_list, List.drop_eq_nil_of_le (by simp; omega)]
    simp
def LeafC (L : Nat → Int) (w : World) (e : Ending) (w' : World) : Prop := ∃ v, e = .returned v ∧ Ra w' v L 64 ∧ Kept w w'
set_option maxHeartbeats 800000 in
theorem leaves_any {X : Nat} {L : Nat → Int} (w : World) (hX : Tr w X L) : Calls Try.prog 17 #[.pointer (some ⟨X, 0, none⟩)] w (LeafC L w) := by
  have hmk := make64 w
  have a1 := at_new w (madeCells #[.int .u64 0] 64) 26
  have k1 := kept_alloc (kept_refl w) (.cells (madeCells #[.int .u64 0] 64) 26)
  have hms := made_size
  generalize madeCells #[.int .u64 0] 64 = ms at *
  generalize w.alloc (.cells ms 26) = w1 at *
  obtain ⟨G, hG⟩ : ∃ G, w.heap.size = G := ⟨_, rfl⟩
  rw [hG] at hmk a1
  have hcp := copy_out (tr_kept hX k1) a1 hms 3
  have HK := hid (kept_setRow k1 (Nat.le_of_eq hG) (nv L 64))
  have HA : Hid (LeafC L w (.returned (.slice (some ⟨G, 0, none⟩) 64 64)) (w1.setRow G (nv L 64))) := hid ⟨_, rfl, ra_at (at_setRow a1) (Nat.le_refl _), HK.out⟩
  generalize w1.setRow G (nv L 64) = w2 at *
  clear a1 k1 hms hX hG
  go_enter Try.func17, Try.ntmps17
  go_wp2_with fail
  go_ret
  exact HA.out
end Go.Proofs.Ytpfelbbhhoilpaa
