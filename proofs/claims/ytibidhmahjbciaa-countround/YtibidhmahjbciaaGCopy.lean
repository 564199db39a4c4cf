/- More on rows: a row that is made whole, a row copied into one's own; what a map's turning leaves of a row. Rows have at most 4096 members where they are made. -/
import Derived.Test.YtibidhmahjbciaaGMore
import Derived.Test.YtibidhmahjbciaaGPut
import Derived.Laws.CopyRow
namespace Go.Proofs.Ytibidhmahjbciaa
open Go.ChangeShapes Go.WideShapes Go.ChangeAt Go.RowKit
set_option linter.unusedVariables false
set_option linter.unusedSimpArgs false

theorem setRow_other {w : World} {Z k : Nat} {cs : Array Value} (h : k ≠ Z) : (w.setRow Z cs).heap[k]? = w.heap[k]? := by
  unfold World.setRow
  rw [Array.getElem?_modify, if_neg (Ne.symm h)]
theorem setRow_size (w : World) (Z : Nat) (cs : Array Value) : (w.setRow Z cs).heap.size = w.heap.size := by
  unfold World.setRow
  simp
theorem at_setRow {w : World} {Z : Nat} {cs ds : Array Value} {T : Nat} (h : At w Z ds T) : At (w.setRow Z cs) Z cs T := by
  unfold At World.setRow at *
  rw [Array.getElem?_modify, h]
  simp
theorem kept_setRow {u w : World} (h : Kept u w) {Z : Nat} (hZ : u.heap.size ≤ Z) (cs : Array Value) : Kept u (w.setRow Z cs) :=
  kept_of (show w.os = u.os from kept_os h) (show w.output = u.output from kept_output h) (by rw [setRow_size]; exact h.2) (fun i hi => (setRow_other (by omega)).trans (kept_block h hi))
section
variable {P : Program} {α : Type} {enc : α → List Value} {c bytes : Nat} {t e : TypeId} {w w' : World} {B : Nat} {v x : Value} {xs ys : List α}
theorem made_flat (he : Enc enc c) (z : α) (zc : Array Value) (hz : zc.toList = enc z) (n : Nat) : (madeCells zc (n * c)).toList = flatE enc (List.replicate n z) := by
  have hc0 : zc.size = c := by rw [← Array.length_toList, hz, he.len]
  apply List.ext_getElem?
  intro j
  by_cases hj : j < n * c
  · have hc : 0 < c := by
      rcases Nat.eq_zero_or_pos c with h0 | h0
      · subst h0; omega
      · exact h0
    have hi : j / c < n := (Nat.div_lt_iff_lt_mul hc).2 hj
    have hr : j % c < c := Nat.mod_lt _ hc
    have hu : (enc z)[j % c]? = some zc[j % c]! := by
      rw [← hz, Array.getElem?_toList, Array.getElem?_eq_getElem (by omega), getElem!_pos zc _ (by omega)]
    have h2 := flatE_get he (xs := List.replicate n z) (i := j / c) (x := z) (by rw [List.getElem?_replicate, if_pos hi]) hu
    rw [show j / c * c + j % c = j by rw [Nat.mul_comm]; exact Nat.div_add_mod j c] at h2
    rw [h2, Array.getElem?_toList]
    unfold madeCells
    rw [Array.getElem?_map, Array.getElem?_range, if_pos hj, hc0]
    rfl
  · rw [List.getElem?_eq_none (by rw [Array.length_toList, size_madeCells]; omega), List.getElem?_eq_none (by rw [flatE_len he, List.length_replicate]; omega)]
theorem og_full (he : Enc enc c) {i : TypeInfo} {zv : Value} (hu : P.underlying t = some (.slice e)) (hi : P.info? e = some i) (hz : i.zero = some zv) (hs : i.size = c) (hby : i.bytes ≤ 1024) {z : α} (hze : zv.cells.toList = enc z) (n : Nat) (hn : n ≤ 4096) (w : World) :
    ∃ cs, (Instr.makeSlice t (.int .i64 (n : Int)) (.int .i64 (n : Int))).run P w = .ok (.slice (some ⟨w.heap.size, 0, none⟩) n n) (w.alloc (.cells cs e)) ∧ Og enc c e (w.alloc (.cells cs e)) w.heap.size (.slice (some ⟨w.heap.size, 0, none⟩) n n) (List.replicate n z) := by
  have hb' : (i.bytes : Int) * (n : Int) ≤ 281474976710656 := by
    have h : i.bytes * n ≤ 1024 * 4096 := Nat.mul_le_mul hby hn
    have h2 : ((i.bytes * n : Nat) : Int) ≤ 281474976710656 := by omega
    rwa [Int.natCast_mul] at h2
  have hr := run_make (P := P) w t e i zv hu hi hz .i64 .i64 (n : Int) (n : Int) (by omega) (Int.le_refl _) hb' (by omega)
  simp only [Int.toNat_natCast] at hr
  rw [hs] at hr
  refine ⟨_, hr, ?_⟩
  refine ⟨by rw [flatE_len he], .inr ⟨w.heap.size, n, _, by rw [List.length_replicate], Nat.le_refl _, at_new w _ e, by rw [List.length_replicate]; exact Nat.le_refl _, by unfold maxLen; omega, size_madeCells _ _, ?_⟩⟩
  rw [List.length_replicate, List.take_of_length_le (by rw [Array.length_toList, size_madeCells]; exact Nat.le_refl _)]
  exact made_flat he z zv.cells hze n
theorem og_copy (he : Enc enc c) {i : TypeInfo} (hu : P.underlying t = some (.slice e)) (hi : P.info? e = some i) (hs : i.size = c) {G n : Nat} {zs : List α} {s : Value} (hd : Og enc c e w B (.slice (some ⟨G, 0, none⟩) n n) zs) (hz : zs.length = n) (h : Rg enc c w s xs) (hx : xs.length = n) (ty : TypeId) :
    ∃ cs, (Builtin.copy_ #[t, t] ty #[.slice (some ⟨G, 0, none⟩) n n, s]).run P w = .ok (.int .i64 (n : Int)) (w.setRow G cs) ∧ Og enc c e (w.setRow G cs) B (.slice (some ⟨G, 0, none⟩) n n) xs := by
  rcases hd.2 with ⟨h1, _⟩ | ⟨g, cap, cur, h1, hb, hg, hc1, hc2, hcs, ht⟩
  · cases h1
  injection h1 with h1 h2 h3
  injection h1 with h1
  injection h1 with h1
  subst h1
  rw [hz] at h2
  subst h3
  have hlen : (flatE enc xs).length = n * c := by rw [flatE_len he, hx]
  obtain ⟨a, cap2, rfl, hq1, hq2, hq3, hq4⟩ := h
  have hst := run_storeCells_at P G 0 e (flatE enc xs) 0 cur w hg (by rw [hlen, hcs]; omega) (flatE_ones he xs)
  have ee : (List.take (0 + 0) cur.toList ++ flatE enc xs ++ List.drop (0 + 0 + (flatE enc xs).length) cur.toList).toArray = (flatE enc xs).toArray := by
    rw [List.drop_eq_nil_of_le (by rw [hlen, Array.length_toList, hcs]; omega)]
    simp
  rw [ee] at hst
  have hf : (Builtin.firstCells i.size n (.slice a xs.length cap2)).run P w = .ok (flatE enc xs).toArray w := by
    cases a with
    | none =>
      have : xs = [] := List.eq_nil_of_length_eq_zero (by have := hq3 rfl; omega)
      subst this
      exact run_firstCells_none w _ _ _ _
    | some b =>
      by_cases hp : 0 < xs.length
      · obtain ⟨g, o, e1, hc⟩ := hq4 hp
        injection e1 with e1
        subst e1
        refine run_firstCells_some w i.size n ⟨g, o, none⟩ _ _ (flatE enc xs) (by rw [hlen, hs]) (fun j u hj => ?_)
        obtain ⟨i', j', x', rfl, hx', hu'⟩ := flatE_inv he hj
        rw [addr_plus, ← Nat.add_assoc]
        exact hc i' x' j' u hx' hu'
      · have : xs = [] := List.eq_nil_of_length_eq_zero (by omega)
        subst this
        refine run_firstCells_some w i.size n b _ _ [] (by rw [show n = 0 by simpa using hx.symm]; simp) (fun j u hj => by simp at hj)
  refine ⟨(flatE enc xs).toArray, ?_, ⟨by rw [flatE_len he], .inr ⟨G, n, _, by rw [hx], hb, at_setRow hg, by omega, hc2, by simp [hlen], ?_⟩⟩⟩
  · simp [Builtin.copy_, run_underlying hu, Builtin.lenOf, sizeOf, typeInfo, hi, hx, hst, goInt]
    rw [hx] at hf
    simp [hf, hst]
  · rw [hx]
    exact List.take_of_length_le (by simp [hlen])
theorem rg_turned {b : Nat} (h : Rg enc c w v xs) (t : w.mapTurned w' b) : Rg enc c w' v xs := by
  obtain ⟨a, cap, rfl, h1, h2, h3, h4⟩ := h
  refine ⟨a, cap, rfl, h1, h2, h3, fun hp => ?_⟩
  obtain ⟨g, o, rfl, hc⟩ := h4 hp
  refine ⟨g, o, rfl, fun i x j u hx hu => ?_⟩
  have h5 := hc i x j u hx hu
  obtain ⟨es, clock, hm⟩ := turned_map t
  have hne : g ≠ b := by
    rintro rfl
    unfold World.cell? at h5
    simp [hm] at h5
  exact (World.cell?_of_block (w := w) (turned_block t (gcell_lt h5) hne)).trans h5
end
end Go.Proofs.Ytibidhmahjbciaa
