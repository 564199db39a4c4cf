/- The contract of the reference's Apart. -/
import Derived.Test.YtpfelbbhhoilpaaRefNode
namespace Go.Proofs.Ytpfelbbhhoilpaa
open Go.ChangeShapes Go.WideShapes Go.ChangeAt Go.RowKit
set_option linter.unusedVariables false
set_option linter.unusedSimpArgs false
set_option maxRecDepth 100000

set_option maxHeartbeats 3200000 in
theorem refapart_any (L M : Nat → Int) (w : World) : Calls Try.prog 22 #[.agg (nv L 64), .agg (nv M 64)] w (RowC .i64 3 (cs (ap L M 64)) w) := by
  obtain ⟨i0, hi, hz0, hz1, hz2⟩ := info_parts (P := Try.prog) (e := 3) info3
  have HI := hid (And.intro hi (And.intro hz0 (And.intro hz1 hz2)))
  have A0 := at_new w (nv L 64) 31
  have K0 := kept_alloc (kept_refl w) (.cells (nv L 64) 31)
  obtain ⟨w0, hw0⟩ : ∃ w0, w.alloc (.cells (nv L 64) 31) = w0 := ⟨_, rfl⟩
  obtain ⟨P, hP⟩ : ∃ P, w.heap.size = P := ⟨_, rfl⟩
  rw [hw0] at A0 K0
  rw [hP] at A0
  have A1 := at_new w0 (nv M 64) 31
  have K1 := kept_alloc (kept_refl w0) (.cells (nv M 64) 31)
  obtain ⟨w1, hw1⟩ : ∃ w1, w0.alloc (.cells (nv M 64) 31) = w1 := ⟨_, rfl⟩
  obtain ⟨Q, hQ⟩ : ∃ Q, w0.heap.size = Q := ⟨_, rfl⟩
  rw [hw1] at A1 K1
  rw [hQ] at A1
  have A2 := at_kept A0 K1
  have HO2 := hid (built0i w1)
  have HK2 := hid (kept_alloc (kept_refl w1) (.cells #[] 3))
  have HKw := hid (kept_trans K0 K1)
  obtain ⟨w2, hw2⟩ : ∃ w2, w1.alloc (.cells #[] 3) = w2 := ⟨_, rfl⟩
  obtain ⟨B, hB⟩ : ∃ B, w1.heap.size = B := ⟨_, rfl⟩
  rw [hw2, hB] at HO2
  rw [hw2] at HK2
  have HBB := hid hB
  have HEnd : Hid (∀ v u, Own .i64 3 u B v (cs (ap L M 64)) → Kept w1 u → RowC .i64 3 (cs (ap L M 64)) w (.returned v) u) := hid (fun v u h1 h2 => ⟨v, rfl, own_low h1 (by have := HKw.out.2; have := HBB.out; omega), kept_trans HKw.out h2⟩)
  have HBK : Hid (∀ u, Kept w1 u → B ≤ u.heap.size ∧ ∀ j, j < 64 → u.cell? ⟨P, j, none⟩ = some (.int .u64 (L j)) ∧ u.cell? ⟨Q, j, none⟩ = some (.int .u64 (M j))) := hid (fun u h => ⟨by have := h.2; have := HBB.out; omega, fun j hj => ⟨(at_cell (at_kept A2 h) j).trans (nv_get L hj), (at_cell (at_kept A1 h) j).trans (nv_get M hj)⟩⟩)
  clear hi hz0 hz1 hz2 A0 A1 A2 K0 K1
  generalize nv L 64 = nl at *
  generalize nv M 64 = nm at *
  go_enter Try.func22, Try.ntmps22
  go_wp2_with fail
  clear hw0 hw1 hw2 hP hQ hB
  go_loopw [5, 6] (fun ks j wr => ∃ k : Nat, k ≤ 64 ∧ j = .int .i64 (k : Int) ∧ Hid (Own .i64 3 wr B ks (cs (ap L M k))) ∧ Hid (Kept w1 wr)) (fun _ j _ => 64 - (intOf j).toNat)
  case atStart => exact ⟨0, Nat.zero_le _, rfl, HO2, HK2⟩
  case round =>
    obtain ⟨k, hk, rfl, HO, HK⟩ := hrel
    clear HO2 HK2
    by_cases hlt : k < 64
    · obtain ⟨hB, hC⟩ := HBK.out _ HK.out
      have HB := hid hB
      obtain ⟨x0, y0⟩ := hC k hlt
      have b1 : (k : Int) < 64 := by omega
      have HL := hid (ap_len L M k)
      have HM1 : Hid (L k = M k → ap L M (k + 1) = ap L M k) := hid (fun h => ap_same h)
      have HM2 : Hid (L k ≠ M k → ap L M (k + 1) = ap L M k ++ [k]) := hid (fun h => ap_more h)
      generalize L k = x at *
      generalize M k = y at *
      clear hB hC
      by_cases hx : x = y
      · have hne : (x != y) = false := by simpa using hx
        have HS := hid (HM1.out hx)
        clear hx HM1 HM2
        go_wp2_with fail
        go_quiet (fail)
        go_wp2_with fail
        go_roundw
        case rel => exact ⟨k + 1, by omega, by go_num, hid (by rw [HS.out]; exact own_stays HO.out (kept_drewN (kept_refl _) _)), hid (kept_drewN HK.out _)⟩
        case measure => simp [intOf]; omega
      · have hne : (x != y) = true := by simpa using hx
        have HS := hid (HM2.out hx)
        clear hx HM1 HM2
        go_wp2_with fail
        go_quiet (fail)
        replace HO := hid (own_stays HO.out (kept_drewN (kept_refl wr) nq))
        replace HK := hid (kept_drewN HK.out nq)
        replace HB : Hid (B ≤ (wr.drewN nq).heap.size) := hid HB.out
        clear x0 y0
        generalize wr.drewN nq = w3 at *
        have HOa := hid (World.ownsRow.alloc HO.out (.cells #[.int .i64 (k : Int)] 3))
        have HKa := hid (kept_alloc HK.out (.cells #[.int .i64 (k : Int)] 3))
        have hq : (cs (ap L M k)).length ≤ 64 := by rw [cs_len]; have := HL.out; omega
        generalize hqq : (cs (ap L M k)).length = q at *
        have HQ := hid hqq
        clear hqq
        go_wp2_with (at_builtin; go_must (refine wpList_append_own _ rfl (.tmp 19) (.tmp 21) 40 rfl B 3 i0 (.int .i64 0) 1 8 Try.underlying40 HI.out.1 HI.out.2.1 HI.out.2.2.1 HI.out.2.2.2 rfl (by decide) _ _ _ rfl HOa.out ⟨w3.heap.size, 0, none⟩ 1 1 [.int .i64 (k : Int)] rfl rfl (cell_one _ _ _) (one_one _ _) (by unfold maxLen; omega) (by omega) (by have := HB.out; simp; omega) ?_; intro v4 w4 hown4 hgrow4 hnil4))
        have HOn : Hid (Own .i64 3 w4 B v4 (cs (ap L M (k + 1)))) := hid (by
          rw [HS.out, cs_app]
          refine own_len (m := q + 1) ?_ (by rw [List.length_append, HQ.out]; rfl)
          rw [rv_app]
          exact hown4)
        have HKn := hid (kept_grown HKa.out hgrow4 (fun j hj => by have := (World.ownsRow.lt HOa.out j hj).1; have := HBB.out; omega))
        go_roundw
        case rel => exact ⟨k + 1, by omega, by go_num, HOn, HKn⟩
        case measure => simp [intOf]; omega
    · have he : k = 64 := by omega
      subst he
      go_wp2_with fail
      go_ret
      exact HEnd.out _ _ HO.out HK.out
end Go.Proofs.Ytpfelbbhhoilpaa
