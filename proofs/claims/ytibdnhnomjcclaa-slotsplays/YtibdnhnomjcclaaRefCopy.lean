/- The contract of the reference's copied: the same table with a row of its own. -/
import Derived.Test.YtibdnhnomjcclaaRefNew
import Derived.Laws.CopyRow
namespace Go.Proofs.Ytibdnhnomjcclaa
open Go.ChangeShapes Go.WideShapes Go.ChangeAt Go.RowKit
set_option linter.unusedVariables false
set_option linter.unusedSimpArgs false

theorem row_one {w : World} {T R m : Nat} {L : Tb} {cs : Array Value} (h1 : cs.size = m * 3) (h2 : ∀ i, i < m → cs[i * 3]? = some (.bool (L i).taken) ∧ cs[i * 3 + 1]? = some (.string (L i).key) ∧ cs[i * 3 + 2]? = some (.int .i64 (L i).v)) : ∀ v ∈ cs.toList, v.oneCell' = true := by
  intro v hv
  obtain ⟨j, hj, rfl⟩ := List.getElem_of_mem hv
  have hj : j < cs.size := by simpa using hj
  have he : cs[j]? = some cs[j] := Array.getElem?_eq_getElem hj
  obtain ⟨g0, g1, g2⟩ := h2 (j / 3) (by omega)
  rcases (show j = j / 3 * 3 ∨ j = j / 3 * 3 + 1 ∨ j = j / 3 * 3 + 2 by omega) with e | e | e
  · rw [← e, he] at g0; injection g0 with g0; simp only [Array.getElem_toList, g0]; rfl
  · rw [← e, he] at g1; injection g1 with g1; simp only [Array.getElem_toList, g1]; rfl
  · rw [← e, he] at g2; injection g2 with g2; simp only [Array.getElem_toList, g2]; rfl
theorem copy_row {w : World} {Q G m : Nat} {L M : Tb} (hq : RowT w 46 Q m L) (hg : RowT w 46 G m M) (ty : TypeId) :
    ∃ cs, (Builtin.copy_ #[27, 27] ty #[.slice (some ⟨G, 0, none⟩) m m, .slice (some ⟨Q, 0, none⟩) m m]).run Try.prog w = .ok (.int .i64 (m : Int)) (w.setRow G cs) ∧ RowT (w.setRow G cs) 46 G m L := by
  obtain ⟨cs, hA, hs, hc⟩ := hq
  obtain ⟨cur, hB, hs2, _⟩ := hg
  obtain ⟨i0, hi, hz0, hz1, hz2⟩ := info_parts info46
  have hcell : ∀ j u, cs.toList[j]? = some u → w.cell? ((⟨Q, 0, none⟩ : Addr).add j) = some u := fun j u hj => by
    have h1 := at_cell hA j
    have h2 : cs[j]? = some u := by rw [← Array.getElem?_toList]; exact hj
    rw [show (⟨Q, 0, none⟩ : Addr).add j = ⟨Q, j, none⟩ by unfold Addr.add; split <;> simp_all]
    exact h1.trans h2
  have hf := run_firstCells_some (P := Try.prog) w i0.size m ⟨Q, 0, none⟩ m m cs.toList (by rw [hz1]; simpa using hs) hcell
  have hst := run_storeCells_at Try.prog G 0 46 cs.toList 0 cur w hB (by simp; omega) (row_one (w := w) (T := 46) (R := Q) hs hc)
  refine ⟨cs, ?_, ⟨cs, setRow_heap w G cur cs 46 _ hB, hs, hc⟩⟩
  have e : (List.take (0 + 0) cur.toList ++ cs.toList ++ List.drop (0 + 0 + cs.toList.length) cur.toList).toArray = cs := by
    rw [List.drop_eq_nil_of_le (by simp; omega)]
    simp
  rw [e] at hst
  simp [Builtin.copy_, run_underlying Try.underlying27, Builtin.lenOf, sizeOf, typeInfo, hi, hf, hst, goInt]
theorem kept_setRow {W w : World} (h : Kept W w) {G : Nat} (hG : W.heap.size ≤ G) (cs : Array Value) : Kept W (w.setRow G cs) :=
  kept_of (show w.os = W.os from kept_os h) (show w.output = W.output from kept_output h) (by simpa [World.setRow] using h.2) (fun i hi => (setRow_other w G i cs (by omega)).trans (kept_block h hi))
/- What copied answers and leaves. -/
def CopyC (m most : Nat) (L : Tb) (w : World) (e : Ending) (w' : World) : Prop := ∃ G, e = .returned (.agg #[.slice (some ⟨G, 0, none⟩) m m, .int .i64 (most : Int)]) ∧ w.heap.size ≤ G ∧ Kept w w' ∧ RowT w' 46 G m L
set_option maxHeartbeats 1600000 in
theorem copied_any {Q m most : Nat} {L : Tb} (h4 : m ≤ 4096) (w : World) (h : RowT w 46 Q m L) : Calls Try.prog 25 #[.agg #[.slice (some ⟨Q, 0, none⟩) m m, .int .i64 (most : Int)]] w (CopyC m most L w) := by
  have hz := zero29
  obtain ⟨w1, hw1⟩ : ∃ w1, w.alloc (.cells #[.slice (some ⟨Q, 0, none⟩) m m, .int .i64 (most : Int)] 29) = w1 := ⟨_, rfl⟩
  obtain ⟨w2, hw2⟩ : ∃ w2, w1.alloc (.cells #[.slice none 0 0, .int .i64 0] 29) = w2 := ⟨_, rfl⟩
  have A1 := at_new w #[.slice (some ⟨Q, 0, none⟩) m m, .int .i64 (most : Int)] 29
  have A2 := at_new w1 #[.slice none 0 0, .int .i64 0] 29
  have k1 := kept_alloc (kept_refl w) (.cells #[.slice (some ⟨Q, 0, none⟩) m m, .int .i64 (most : Int)] 29)
  have k2 := kept_alloc (kept_refl w1) (.cells #[.slice none 0 0, .int .i64 0] 29)
  have s1 : w1.heap.size = w.heap.size + 1 := by rw [← hw1]; simp
  have s2 : w2.heap.size = w.heap.size + 2 := by rw [← hw2]; simp [s1]
  rw [hw1] at A1 k1
  rw [hw2] at A2 k2
  have hmk := make_ref w2 m (by omega)
  have rG := row_made w2 46 m
  have k3 := kept_alloc (kept_refl w2) (.cells (madeCells #[.bool false, .string ⟨#[]⟩, .int .i64 0] (m * 3)) 46)
  generalize w2.alloc (.cells (madeCells #[.bool false, .string ⟨#[]⟩, .int .i64 0] (m * 3)) 46) = w3 at *
  have rQ := row_kept h (kept_trans (kept_trans k1 k2) k3)
  obtain ⟨cs, hcp, rG2⟩ := copy_row rQ rG 3
  have k4 : Kept w (w3.setRow w2.heap.size cs) := kept_setRow (kept_trans (kept_trans k1 k2) k3) (by omega) cs
  have A1' : At (w3.setRow w2.heap.size cs) w.heap.size #[.slice (some ⟨Q, 0, none⟩) m m, .int .i64 (most : Int)] 29 := (setRow_other w3 _ _ cs (by omega)).trans (at_kept A1 (kept_trans k2 k3))
  have A2' : At (w3.setRow w2.heap.size cs) w1.heap.size #[.slice none 0 0, .int .i64 0] 29 := (setRow_other w3 _ _ cs (by omega)).trans (at_kept A2 k3)
  obtain ⟨a0, a1, af⟩ := at_cells2 (at_kept A1 k2)
  obtain ⟨b0, b1, bf⟩ := at_cells2 (at_kept A1 (kept_trans k2 k3))
  generalize w3.setRow w2.heap.size cs = w4 at *
  obtain ⟨c0, c1, cf⟩ := at_cells2 A1'
  have HS := hid (And.intro s1 s2)
  obtain ⟨X, hX⟩ : ∃ X, w.heap.size = X := ⟨_, rfl⟩
  obtain ⟨Y, hY⟩ : ∃ Y, w1.heap.size = Y := ⟨_, rfl⟩
  obtain ⟨G, hG⟩ : ∃ G, w2.heap.size = G := ⟨_, rfl⟩
  have HL : Hid (X < Y ∧ Y < G ∧ w.heap.size = X) := hid (by omega)
  rw [hX] at A1 A1' a0 a1 af b0 b1 bf c0 c1 cf
  rw [hY] at A2 A2'
  rw [hG] at hmk hcp rG2
  have A3 := at_set A1' 0 (.slice (some ⟨G, 0, none⟩) m m)
  have A4 := at_other A2' (show Y ≠ X by have := HL.out; omega) 0 (.slice (some ⟨G, 0, none⟩) m m)
  have A5 := hid (at_set (at_set A4 0 (.slice (some ⟨G, 0, none⟩) m m)) 1 (.int .i64 (most : Int)))
  have K5 := hid (kept_set (kept_set (kept_set k4 (show w.heap.size ≤ X by omega) 0 (.slice (some ⟨G, 0, none⟩) m m)) (show w.heap.size ≤ Y by omega) 0 (.slice (some ⟨G, 0, none⟩) m m)) (show w.heap.size ≤ Y by omega) 1 (.int .i64 (most : Int)))
  have R5 := hid (row_other (row_other (row_other rG2 (Y := X) (o := 0) (.slice (some ⟨G, 0, none⟩) m m) (by have := HL.out; omega)) (Y := Y) (o := 0) (.slice (some ⟨G, 0, none⟩) m m) (by have := HL.out; omega)) (Y := Y) (o := 1) (.int .i64 (most : Int)) (by have := HL.out; omega))
  obtain ⟨d0, d1, df⟩ := at_cells2 A3
  obtain ⟨e0, e1, ef⟩ := at_cells2 A4
  have HG : Hid (w.heap.size ≤ G) := hid (by have := HL.out; omega)
  clear A1 A2 A1' A2' A3 A4 k1 k2 k3 k4 rG rQ rG2 s1 s2 h HS HL
  go_enter Try.func25, Try.ntmps25
  go_wp2_with fail
  exact bodyPost_ret (res1 rfl _ rfl A5.out) rfl ⟨G, rfl, HG.out, K5.out, R5.out⟩
end Go.Proofs.Ytibdnhnomjcclaa
