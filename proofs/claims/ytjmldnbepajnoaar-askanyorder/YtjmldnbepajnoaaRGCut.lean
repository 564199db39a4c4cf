/- Rows cut off, cleared and copied within themselves: what clear and copy leave of a block that is known whole. No condition but those that are stated. -/
import Derived.Test.YtjmldnbepajnoaaRGCopy
import Derived.Test.YtjmldnbepajnoaaRGLand
namespace Go.Proofs.YtjmldnbepajnoaaR
open Go.ChangeShapes Go.WideShapes Go.ChangeAt Go.RowKit
set_option linter.unusedVariables false
set_option linter.unusedSimpArgs false

section
variable {P : Program} {α : Type} {enc : α → List Value} {c bytes : Nat} {t e : TypeId} {w w' : World} {B : Nat} {v x : Value} {xs ys : List α}
/- What is laid over a block from a place on. -/
def over (cur : Array Value) (o : Nat) (vs : List Value) : Array Value := (cur.toList.take o ++ vs ++ cur.toList.drop (o + vs.length)).toArray
theorem over_size {cur : Array Value} {o : Nat} {vs : List Value} (h : o + vs.length ≤ cur.size) : (over cur o vs).size = cur.size := by
  unfold over
  simp
  omega
theorem over_low {cur : Array Value} {o k : Nat} {vs : List Value} (h : o + vs.length ≤ cur.size) (hk : k ≤ o) : (over cur o vs).toList.take k = cur.toList.take k := by
  unfold over
  simp only [List.append_assoc]
  rw [List.take_append_of_le_length (by simp; omega), List.take_take, Nat.min_eq_left hk]
theorem clear_raw {i : TypeInfo} {z : Value} (hu : P.underlying t = some (.slice e)) (hz : (zeroValue e).run P w = .ok z w) (hzc : z.cells.size = c) (h1 : ∀ v ∈ z.cells.toList, v.oneCell' = true) {G T o n cp : Nat} {cur : Array Value} (hg : At w G cur T) (hn : 0 < n) (hfit : o + n * c ≤ cur.size) (ty : TypeId) :
    ∃ vs : List Value, vs.length = n * c ∧ (Builtin.clear_ #[t] ty #[.slice (some ⟨G, o, none⟩) n cp]).run P w = .ok (.tuple #[]) (w.setRow G (over cur o vs)) := by
  have hlen : (Builtin.zeroCells z.cells n).toList.length = n * c := by
    unfold Builtin.zeroCells
    simp [hzc]
  have hone : ∀ v ∈ (Builtin.zeroCells z.cells n).toList, v.oneCell' = true := by
    intro v hv
    unfold Builtin.zeroCells at hv
    simp at hv
    obtain ⟨j, hj, e⟩ := hv
    have hc0 : z.cells.size ≠ 0 := by
      intro h0
      rw [h0] at hj
      omega
    have hjl : j % z.cells.size < z.cells.size := Nat.mod_lt _ (by omega)
    rw [← e]
    refine h1 _ ?_
    simp [hjl, Array.getElem_mem]
  have hst := run_storeCells_at P G o T (Builtin.zeroCells z.cells n).toList 0 cur w hg (by rw [hlen]; omega) hone
  refine ⟨(Builtin.zeroCells z.cells n).toList, hlen, ?_⟩
  obtain ⟨m, rfl⟩ : ∃ m, n = m + 1 := ⟨n - 1, by omega⟩
  simp [Builtin.clear_, run_underlying hu, hz, hst, over]
theorem copy_raw {i : TypeInfo} (hu : P.underlying t = some (.slice e)) (hi : P.info? e = some i) (hs : i.size = c) {G T o k dLen dCap sLen sCap : Nat} {cur : Array Value} {a : Addr} {vs : List Value} (hg : At w G cur T) (hv : vs.length = k * c) (hk : Nat.min sLen dLen = k)
    (hc : ∀ j u, vs[j]? = some u → w.cell? (a.add j) = some u) (hfit : o + vs.length ≤ cur.size) (h1 : ∀ v ∈ vs, v.oneCell' = true) (ty : TypeId) :
    (Builtin.copy_ #[t, t] ty #[.slice (some ⟨G, o, none⟩) dLen dCap, .slice (some a) sLen sCap]).run P w = .ok (.int .i64 (k : Int)) (w.setRow G (over cur o vs)) := by
  have hst := run_storeCells_at P G o T vs 0 cur w hg (by omega) h1
  have hf : (Builtin.firstCells i.size k (.slice (some a) sLen sCap)).run P w = .ok vs.toArray w := run_firstCells_some w i.size k a _ _ vs (by rw [hv, hs]) hc
  simp [Builtin.copy_, run_underlying hu, Builtin.lenOf, sizeOf, typeInfo, hi, hk, hst, hf, goInt, over]
/- A row of one's own out of a block that is known whole. -/
theorem og_of {G cap : Nat} {cur : Array Value} (he : Enc enc c) (hg : At w G cur e) (hB : B ≤ G) (hn : xs.length ≤ cap) (hm : cap ≤ maxLen) (hs : cur.size = cap * c) (ht : cur.toList.take (xs.length * c) = flatE enc xs) : Og enc c e w B (.slice (some ⟨G, 0, none⟩) xs.length cap) xs :=
  ⟨flatE_len he xs, .inr ⟨G, cap, cur, rfl, hB, hg, hn, hm, hs, ht⟩⟩
theorem og_whole {G n cap : Nat} (h : Og enc c e w B (.slice (some ⟨G, 0, none⟩) n cap) xs) : ∃ cur, At w G cur e ∧ B ≤ G ∧ xs.length = n ∧ n ≤ cap ∧ cap ≤ maxLen ∧ cur.size = cap * c ∧ cur.toList.take (n * c) = flatE enc xs := by
  rcases h.2 with ⟨h1, _⟩ | ⟨g, c2, cur, h1, hb, hg, hc, hm, hs, ht⟩
  · cases h1
  · injection h1 with h1 h2 h3
    injection h1 with h1
    injection h1 with h1
    subst h1 h3
    exact ⟨cur, hg, hb, h2.symm, by omega, hm, hs, by rw [h2]; exact ht⟩
theorem flatE_take (he : Enc enc c) (xs : List α) (k : Nat) : (flatE enc xs).take (k * c) = flatE enc (xs.take k) := by
  by_cases hk : k ≤ xs.length
  · have e1 : flatE enc xs = flatE enc (xs.take k) ++ flatE enc (xs.drop k) := by rw [← flatE_app, List.take_append_drop]
    have e2 : (flatE enc (xs.take k)).length = k * c := by rw [flatE_len he, List.length_take, Nat.min_eq_left hk]
    rw [e1, ← e2, List.take_left]
  · have e3 : xs.take k = xs := List.take_of_length_le (by omega)
    rw [e3, List.take_of_length_le (by rw [flatE_len he]; exact Nat.mul_le_mul_right _ (by omega))]
theorem og_cut {G n cap k : Nat} (he : Enc enc c) (h : Og enc c e w B (.slice (some ⟨G, 0, none⟩) n cap) xs) (hk : k ≤ n) : Og enc c e w B (.slice (some ⟨G, 0, none⟩) k cap) (xs.take k) := by
  obtain ⟨cur, hg, hB, hl, hn, hm, hs, ht⟩ := og_whole h
  have hlen : (xs.take k).length = k := by rw [List.length_take]; omega
  have := og_of (xs := xs.take k) he hg hB (by omega) hm hs (by
    rw [hlen, ← flatE_take he, ← ht, List.take_take, Nat.min_eq_left (Nat.mul_le_mul_right _ hk)])
  rw [hlen] at this
  exact this
theorem og_clear {G n cap k cp : Nat} {z : Value} (he : Enc enc c) (hu : P.underlying t = some (.slice e)) (hz : (zeroValue e).run P w = .ok z w) (hzc : z.cells.size = c) (h1 : ∀ v ∈ z.cells.toList, v.oneCell' = true) (h : Og enc c e w B (.slice (some ⟨G, 0, none⟩) n cap) xs) (hk : k < n) (ty : TypeId) :
    ∃ cs, (Builtin.clear_ #[t] ty #[.slice (some ⟨G, k * c, none⟩) (n - k) cp]).run P w = .ok (.tuple #[]) (w.setRow G cs) ∧ Og enc c e (w.setRow G cs) B (.slice (some ⟨G, 0, none⟩) k cap) (xs.take k) := by
  obtain ⟨cur, hg, hB, hl, hn, hm, hs, ht⟩ := og_whole h
  have hsum : k * c + (n - k) * c = n * c := by rw [← Nat.add_mul]; congr 1; omega
  have hle : n * c ≤ cap * c := Nat.mul_le_mul_right _ hn
  obtain ⟨vs, hv, hr⟩ := clear_raw (i := default) (cp := cp) hu hz hzc h1 hg (o := k * c) (n := n - k) (by omega) (by omega) ty
  refine ⟨_, hr, ?_⟩
  have hlen : (xs.take k).length = k := by rw [List.length_take]; omega
  have := og_of (w := w.setRow G (over cur (k * c) vs)) (xs := xs.take k) he (at_setRow hg) hB (by omega) hm (by rw [over_size (by omega), hs]) (by
    rw [hlen, over_low (by omega) (Nat.le_refl _), ← flatE_take he, ← ht, List.take_take, Nat.min_eq_left (Nat.mul_le_mul_right _ (by omega))])
  rw [hlen] at this
  exact this
/- A whole member is laid into a row: cell by cell. -/
theorem og_set4 {enc : α → List Value} {G n cap : Nat} {T : TypeId} {a0 a1 a2 a3 : Value} (he : Enc enc 4) (h : Og enc 4 T w B (.slice (some ⟨G, 0, none⟩) n cap) xs) {k : Nat} {y : α} (hk : k < n) (hy : enc y = [a0, a1, a2, a3]) :
    Og enc 4 T ((((w.setCell ⟨G, k * 4, none⟩ a0).setCell ⟨G, k * 4 + 1, none⟩ a1).setCell ⟨G, k * 4 + 2, none⟩ a2).setCell ⟨G, k * 4 + 3, none⟩ a3) B (.slice (some ⟨G, 0, none⟩) n cap) (xs.set k y) := by
  obtain ⟨cur, hg, hB, hl, hn, hm, hs, ht⟩ := og_whole h
  have hA := at_set (at_set (at_set (at_set hg (k * 4) a0) (k * 4 + 1) a1) (k * 4 + 2) a2) (k * 4 + 3) a3
  have := og_of (xs := xs.set k y) he hA hB (by rw [List.length_set]; omega) hm (by simp [hs]) (by
    rw [List.length_set, hl]
    apply List.ext_getElem?
    intro j
    by_cases hj : j < n * 4
    · rw [List.getElem?_take, if_pos hj]
      have hj4 : j / 4 < n := by omega
      have e0 : j = j / 4 * 4 + j % 4 := by omega
      have hr : j % 4 < 4 := Nat.mod_lt _ (by decide)
      simp only [Array.getElem?_toList, Array.getElem?_setIfInBounds, Array.size_setIfInBounds, hs]
      have hcur : cur[j]? = (flatE enc xs)[j]? := by rw [← ht, List.getElem?_take, if_pos hj, Array.getElem?_toList]
      by_cases ek : j / 4 = k
      · have hx : (xs.set k y)[j / 4]? = some y := by rw [List.getElem?_set, ek, if_pos rfl, if_pos (by omega)]
        obtain ⟨u, hu⟩ : ∃ u, (enc y)[j % 4]? = some u := ⟨(enc y)[j % 4]'(by rw [he.len]; exact hr), List.getElem?_eq_getElem (by rw [he.len]; exact hr)⟩
        have h2 := flatE_get he hx hu
        rw [← e0] at h2
        rw [h2, ← hu, hy]
        have hb : k * 4 + 3 < cap * 4 := by omega
        rcases (show j % 4 = 0 ∨ j % 4 = 1 ∨ j % 4 = 2 ∨ j % 4 = 3 by omega) with q | q | q | q
        · rw [q, if_neg (by omega), if_neg (by omega), if_neg (by omega), if_pos (by omega), if_pos (by omega)]; rfl
        · rw [q, if_neg (by omega), if_neg (by omega), if_pos (by omega), if_pos (by omega)]; rfl
        · rw [q, if_neg (by omega), if_pos (by omega), if_pos (by omega)]; rfl
        · rw [q, if_pos (by omega), if_pos (by omega)]; rfl
      · rw [if_neg (by omega), if_neg (by omega), if_neg (by omega), if_neg (by omega), hcur]
        obtain ⟨x, hx⟩ : ∃ x, xs[j / 4]? = some x := ⟨xs[j / 4]'(by omega), List.getElem?_eq_getElem (by omega)⟩
        obtain ⟨u, hu⟩ : ∃ u, (enc x)[j % 4]? = some u := ⟨(enc x)[j % 4]'(by rw [he.len]; exact hr), List.getElem?_eq_getElem (by rw [he.len]; exact hr)⟩
        have h2 := flatE_get he hx hu
        have hx' : (xs.set k y)[j / 4]? = some x := by rw [List.getElem?_set, if_neg (by omega)]; exact hx
        have h3 := flatE_get he hx' hu
        rw [← e0] at h2 h3
        rw [h2, h3]
    · rw [List.getElem?_eq_none (by simp; omega), List.getElem?_eq_none (by rw [flatE_len he, List.length_set]; omega)])
  rw [List.length_set, hl] at this
  exact this
end
end Go.Proofs.YtjmldnbepajnoaaR
