/- Contracts of the reference's Four and Encode: the same bytes. They turn nothing that was there. -/
import Derived.Test.YtioeidhblbfgmaaGreatY9

namespace Go.Proofs.YtioeidhblbfgmaaGreat.Frm
open Go.ChangeShapes Go.WideShapes Go.ChangeAt Go.RowKit
set_option linter.unusedVariables false
set_option maxRecDepth 100000
set_option linter.unusedSimpArgs false

theorem info5 : (Tryz.prog.info? 5).map (fun i => (i.zero, i.size, i.bytes)) = some (some (.int .u8 0), 1, 1) := by kernel_rfl
def bc (l : List UInt8) : List Value := l.map (fun c => Value.int .u8 (c.toNat : Int))
theorem bc_length (l : List UInt8) : (bc l).length = l.length := by simp [bc]
theorem bc_get (l : List UInt8) (j : Nat) (h : j < l.length) : (bc l)[j]? = some (.int .u8 (l[j].toNat : Int)) := by
  simp [bc, List.getElem?_eq_getElem h]
theorem bc_snoc (l : List UInt8) (c : UInt8) : bc (l ++ [c]) = bc l ++ [.int .u8 (c.toNat : Int)] := by simp [bc]
theorem one_new (w : World) (v : Value) (e : TypeId) : ∀ j u, [v][j]? = some u → (w.alloc (.cells #[v] e)).cell? ((⟨w.heap.size, 0, none⟩ : Addr).add j) = some u := by
  intro j u hj
  match j, hj with
  | 0, hj => simp at hj; subst hj; simp [Addr.add]
theorem one_byte (x : Int) : ∀ u ∈ [Value.int .u8 x], u.oneCell' = true := by intro u hu; simp at hu; subst hu; rfl
theorem size_new {B : Nat} {w : World} (h : B ≤ w.heap.size) (o : Obj) : B ≤ (w.alloc o).heap.size := by simp; omega
theorem own_text {w : World} {B n : Nat} {v : Value} {L : List UInt8} (h : w.ownsRow B 5 1 v n (bc L)) (hn : 0 < n) (hL : L.length = n) : ∃ g cap, v = .slice (some ⟨g, 0, none⟩) n cap ∧ (convert 51 9 (.slice (some ⟨g, 0, none⟩) n cap)).run Tryz.prog w = .ok (.string ⟨L.toArray⟩) w := by
  rcases id h.2 with ⟨_, h0⟩ | ⟨g, cap, cur, h1, _⟩
  · omega
  · refine ⟨g, cap, h1, ?_⟩
    subst h1
    apply row_text _ hL
    intro j hj
    rw [h.cellAt j (by omega), bc_get _ j hj]
/- A block of another type than the row's stays. -/
theorem grow_far {w w' : World} {B n D : Nat} {v : Value} {xs : List Value} {cs : Array Value} (h : w.ownsRow B 5 1 v n xs) (hg : w.grownBy w' v.ownBlock) (hD : D < w.heap.size ∧ w.heap[D]? = some (.cells cs 22)) : D < w'.heap.size ∧ w'.heap[D]? = some (.cells cs 22) := by
  refine ⟨Nat.lt_of_lt_of_le hD.1 hg.size, ?_⟩
  rw [hg.block D hD.1 ?_]
  · exact hD.2
  · intro e
    rcases h.2 with ⟨hv, _⟩ | ⟨g, cap, cur, hv, _, hb, _⟩
    · rw [hv] at e; cases e
    · rw [hv] at e
      have e2 : D = g := by simpa [Value.ownBlock] using e
      rw [← e2, hD.2] at hb
      cases hb
def pw (j : Nat) : Nat := if j = 0 then 16777216 else if j = 1 then 65536 else if j = 2 then 256 else 1
theorem be4_next (n k : Nat) (hk : k < 4) : (be4 n).take (k + 1) = (be4 n).take k ++ [UInt8.ofNat (n / pw k)] := by
  rcases (show k = 0 ∨ k = 1 ∨ k = 2 ∨ k = 3 by omega) with rfl | rfl | rfl | rfl <;> simp [be4, pw]
set_option maxRecDepth 100000 in
set_option maxHeartbeats 3200000 in
theorem four_any (n : Nat) (hn : n < 4294967296) (w : World) :
    Calls Tryz.prog 65 #[.int .u32 (n : Int)] w fun e w' => e = .returned (.string ⟨(be4 n).toArray⟩) ∧ Below w.heap.size w w' := by
  obtain ⟨i0, hi, hz0, hz1, hz2⟩ := info_parts info5
  obtain ⟨B, hB⟩ : ∃ B, B = w.heap.size := ⟨_, rfl⟩
  have HB : Hid (B = w.heap.size) := hB
  have S0 : Hid (Below B w ((w.alloc (.cells #[] 5)).alloc (.cells #[.int .u32 16777216, .int .u32 65536, .int .u32 256, .int .u32 1] 22))) := by
    rw [hB]
    exact ((Below.refl _ w).alloc (Nat.le_refl _) _).alloc (by simp) _
  have O0 : Hid (((w.alloc (.cells #[] 5)).alloc (.cells #[.int .u32 16777216, .int .u32 65536, .int .u32 256, .int .u32 1] 22)).ownsRow B 5 1 (.slice (some ⟨w.heap.size, 0, none⟩) 0 0) 0 []) := (World.ownsRow_made w #[] 0 (by rw [hB]; exact Nat.le_refl _) (by unfold maxLen; omega) rfl).alloc _
  have D0 : Hid (((w.alloc (.cells #[] 5)).alloc (.cells #[.int .u32 16777216, .int .u32 65536, .int .u32 256, .int .u32 1] 22)).heap[w.heap.size + 1]? = some (.cells #[.int .u32 16777216, .int .u32 65536, .int .u32 256, .int .u32 1] 22)) := by
    have := alloc_block (w.alloc (.cells #[] 5)) (.cells #[.int .u32 16777216, .int .u32 65536, .int .u32 256, .int .u32 1] 22)
    rw [show (w.alloc (.cells #[] 5)).heap.size = w.heap.size + 1 by simp] at this
    exact this
  clear hB
  go_enter Tryz.func65, Tryz.ntmps65
  go_wp2
  generalize (w.alloc (.cells #[] 5)).alloc (.cells #[.int .u32 16777216, .int .u32 65536, .int .u32 256, .int .u32 1] 22) = w0 at *
  obtain ⟨D, hD⟩ : ∃ D, D = w.heap.size + 1 := ⟨_, rfl⟩
  have HD0 : Hid (D < w0.heap.size ∧ w0.heap[D]? = some (.cells #[.int .u32 16777216, .int .u32 65536, .int .u32 256, .int .u32 1] 22)) := by
    have := D0.out
    rw [← hD] at this
    refine ⟨?_, this⟩
    rcases Nat.lt_or_ge D w0.heap.size with h | h
    · exact h
    · rw [Array.getElem?_eq_none h] at this; cases this
  have HZ0 : Hid (B ≤ w0.heap.size) := by have h1 := HD0.out.1; have h2 := HB.out; show _ ≤ _; omega
  rw [← hD]
  clear D0 hD
  go_loopw [3, 5, 9] (fun v dd i wr => ∃ q : Nat, q ≤ 4 ∧ i = .int .i64 q ∧ Hid (Below B w wr) ∧ Hid (B ≤ wr.heap.size) ∧ Hid (wr.ownsRow B 5 1 v q (bc ((be4 n).take q))) ∧ Hid (D < wr.heap.size ∧ wr.heap[D]? = some (.cells #[.int .u32 16777216, .int .u32 65536, .int .u32 256, .int .u32 1] 22))) (fun _ _ i _ => 4 - (intOf i).toNat)
  case atStart => exact ⟨0, Nat.zero_le _, rfl, S0, HZ0, O0, HD0⟩
  case round =>
    obtain ⟨q, hq, rfl, HS, HZ, HO, HD⟩ := hrel
    obtain ⟨c0, c1, c2, c3, -⟩ := block_cells HD.out.2
    by_cases hlt : q < 4
    · rcases (show q = 0 ∨ q = 1 ∨ q = 2 ∨ q = 3 by omega) with rfl | rfl | rfl | rfl
      · have HX : Hid (((n : Int) / 16777216) % 256 = ((UInt8.ofNat (n / pw 0)).toNat : Int)) := by
          show _ = _
          rw [ofNat_toNat]; simp [pw]; try omega
        go_wp2_with (at_builtin; refine wpList_append_own _ rfl _ _ 51 rfl B 5 i0 (.int .u8 0) 1 1 Tryz.underlying51 hi hz0 hz1 hz2 rfl (by decide) _ _ _ rfl (HO.out.alloc _) ⟨wr.heap.size, 0, none⟩ 1 1 [.int .u8 (((n : Int) / 16777216) % 256)] rfl rfl (one_new _ _ _) (one_byte _) (by decide) (by decide) (size_new HZ.out _) ?_)
        intro v' w1 hown' hgrow _
        have hown2 : Hid (w1.ownsRow B 5 1 v' 1 (bc ((be4 n).take 1))) := by
          show w1.ownsRow B 5 1 v' 1 (bc ((be4 n).take 1))
          rw [be4_next n 0 (by omega), bc_snoc, ← HX.out]
          exact hown'
        have hbel : Hid (Below B w w1) := (HS.out.alloc HZ.out _).grown hgrow (by have := HZ.out; simp; omega) (fun k hk => (HO.out.lt k hk).1)
        have hsz : Hid (B ≤ w1.heap.size) := by have := HZ.out; have := hgrow.size; simp at this; show B ≤ _; omega
        have hDD : Hid (D < w1.heap.size ∧ w1.heap[D]? = some (.cells #[.int .u32 16777216, .int .u32 65536, .int .u32 256, .int .u32 1] 22)) := grow_far (HO.out.alloc _) hgrow ⟨by have := HD.out.1; simp; omega, (Below.heap_alloc wr _ D HD.out.1).trans HD.out.2⟩
        clear hown' hgrow c0 c1 c2 c3
        go_wp2
        go_roundw
        case rel => exact ⟨1, by omega, rfl, hbel, hsz, hown2, hDD⟩
        case measure => simp [intOf]
      · have HX : Hid (((n : Int) / 65536) % 256 = ((UInt8.ofNat (n / pw 1)).toNat : Int)) := by
          show _ = _
          rw [ofNat_toNat]; simp [pw]; try omega
        go_wp2_with (at_builtin; refine wpList_append_own _ rfl _ _ 51 rfl B 5 i0 (.int .u8 0) 1 1 Tryz.underlying51 hi hz0 hz1 hz2 rfl (by decide) _ _ _ rfl (HO.out.alloc _) ⟨wr.heap.size, 0, none⟩ 1 1 [.int .u8 (((n : Int) / 65536) % 256)] rfl rfl (one_new _ _ _) (one_byte _) (by decide) (by decide) (size_new HZ.out _) ?_)
        intro v' w1 hown' hgrow _
        have hown2 : Hid (w1.ownsRow B 5 1 v' 2 (bc ((be4 n).take 2))) := by
          show w1.ownsRow B 5 1 v' 2 (bc ((be4 n).take 2))
          rw [be4_next n 1 (by omega), bc_snoc, ← HX.out]
          exact hown'
        have hbel : Hid (Below B w w1) := (HS.out.alloc HZ.out _).grown hgrow (by have := HZ.out; simp; omega) (fun k hk => (HO.out.lt k hk).1)
        have hsz : Hid (B ≤ w1.heap.size) := by have := HZ.out; have := hgrow.size; simp at this; show B ≤ _; omega
        have hDD : Hid (D < w1.heap.size ∧ w1.heap[D]? = some (.cells #[.int .u32 16777216, .int .u32 65536, .int .u32 256, .int .u32 1] 22)) := grow_far (HO.out.alloc _) hgrow ⟨by have := HD.out.1; simp; omega, (Below.heap_alloc wr _ D HD.out.1).trans HD.out.2⟩
        clear hown' hgrow c0 c1 c2 c3
        go_wp2
        go_roundw
        case rel => exact ⟨2, by omega, rfl, hbel, hsz, hown2, hDD⟩
        case measure => simp [intOf]
      · have HX : Hid (((n : Int) / 256) % 256 = ((UInt8.ofNat (n / pw 2)).toNat : Int)) := by
          show _ = _
          rw [ofNat_toNat]; simp [pw]; try omega
        go_wp2_with (at_builtin; refine wpList_append_own _ rfl _ _ 51 rfl B 5 i0 (.int .u8 0) 1 1 Tryz.underlying51 hi hz0 hz1 hz2 rfl (by decide) _ _ _ rfl (HO.out.alloc _) ⟨wr.heap.size, 0, none⟩ 1 1 [.int .u8 (((n : Int) / 256) % 256)] rfl rfl (one_new _ _ _) (one_byte _) (by decide) (by decide) (size_new HZ.out _) ?_)
        intro v' w1 hown' hgrow _
        have hown2 : Hid (w1.ownsRow B 5 1 v' 3 (bc ((be4 n).take 3))) := by
          show w1.ownsRow B 5 1 v' 3 (bc ((be4 n).take 3))
          rw [be4_next n 2 (by omega), bc_snoc, ← HX.out]
          exact hown'
        have hbel : Hid (Below B w w1) := (HS.out.alloc HZ.out _).grown hgrow (by have := HZ.out; simp; omega) (fun k hk => (HO.out.lt k hk).1)
        have hsz : Hid (B ≤ w1.heap.size) := by have := HZ.out; have := hgrow.size; simp at this; show B ≤ _; omega
        have hDD : Hid (D < w1.heap.size ∧ w1.heap[D]? = some (.cells #[.int .u32 16777216, .int .u32 65536, .int .u32 256, .int .u32 1] 22)) := grow_far (HO.out.alloc _) hgrow ⟨by have := HD.out.1; simp; omega, (Below.heap_alloc wr _ D HD.out.1).trans HD.out.2⟩
        clear hown' hgrow c0 c1 c2 c3
        go_wp2
        go_roundw
        case rel => exact ⟨3, by omega, rfl, hbel, hsz, hown2, hDD⟩
        case measure => simp [intOf]
      · have HX : Hid ((n : Int) % 256 = ((UInt8.ofNat (n / pw 3)).toNat : Int)) := by
          show _ = _
          rw [ofNat_toNat]; simp [pw]; try omega
        go_wp2_with (at_builtin; refine wpList_append_own _ rfl _ _ 51 rfl B 5 i0 (.int .u8 0) 1 1 Tryz.underlying51 hi hz0 hz1 hz2 rfl (by decide) _ _ _ rfl (HO.out.alloc _) ⟨wr.heap.size, 0, none⟩ 1 1 [.int .u8 ((n : Int) % 256)] rfl rfl (one_new _ _ _) (one_byte _) (by decide) (by decide) (size_new HZ.out _) ?_)
        intro v' w1 hown' hgrow _
        have hown2 : Hid (w1.ownsRow B 5 1 v' 4 (bc ((be4 n).take 4))) := by
          show w1.ownsRow B 5 1 v' 4 (bc ((be4 n).take 4))
          rw [be4_next n 3 (by omega), bc_snoc, ← HX.out]
          exact hown'
        have hbel : Hid (Below B w w1) := (HS.out.alloc HZ.out _).grown hgrow (by have := HZ.out; simp; omega) (fun k hk => (HO.out.lt k hk).1)
        have hsz : Hid (B ≤ w1.heap.size) := by have := HZ.out; have := hgrow.size; simp at this; show B ≤ _; omega
        have hDD : Hid (D < w1.heap.size ∧ w1.heap[D]? = some (.cells #[.int .u32 16777216, .int .u32 65536, .int .u32 256, .int .u32 1] 22)) := grow_far (HO.out.alloc _) hgrow ⟨by have := HD.out.1; simp; omega, (Below.heap_alloc wr _ D HD.out.1).trans HD.out.2⟩
        clear hown' hgrow c0 c1 c2 c3
        go_wp2
        go_roundw
        case rel => exact ⟨4, by omega, rfl, hbel, hsz, hown2, hDD⟩
        case measure => simp [intOf]
    · have hkk : q = 4 := by omega
      subst hkk
      have hO := HO.out
      rw [List.take_of_length_le (by rw [be4_length]; exact Nat.le_refl _)] at hO
      obtain ⟨g, cap, hu, hcv⟩ := own_text hO (by omega) (be4_length n)
      subst hu
      clear HO hO c0 c1 c2 c3
      go_wp2
      go_ret
      exact ⟨rfl, HB.out ▸ HS.out⟩
end Go.Proofs.YtioeidhblbfgmaaGreat.Frm
