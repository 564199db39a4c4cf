/- A row that is handed in, opened: whatever its members are, they lie as cells (Rg). -/
import Derived.Test.YtibidhmahjbciaaGRows
import Derived.Lib.SmallJoins
import Derived.Deep.Slices
namespace Go.Proofs.Ytibidhmahjbciaa
open Go.ChangeShapes Go.WideShapes Go.ChangeAt Go.RowKit Go.Joins Go.Deep
set_option linter.unusedVariables false
set_option linter.unusedSimpArgs false

theorem readable_of {P : Program} {f : Func} (h : (f.params.toList.all fun t => P.readableRec t && decide (t < P.types.size)) = true) : ∀ t ∈ f.params.toList, P.readableRec t = true ∧ t < P.types.size := by
  intro t ht
  have := List.all_eq_true.1 h t ht
  simpa using this
theorem open_rows {P : Program} {α : Type} {en : α → List Value} {c : Nat} {t e : TypeId} {ok : α → Prop} (hE : Enc en c) (hu : P.underlying t = some (.slice e)) (hc : P.cellsOf e = c) (a0 : α)
    {H : Type} {enc : TypeId × Value → H} {w : World} {base : Nat} {spare : Nat → Bool} {held : Bool} {r : Reach} {b0 : Nat} {v : Value} {d : DataW H} {p : List MemPlace}
    (hel : ∀ fuel cs x, cs.length = c → DataW.trod enc P w base spare held fuel e cs = some x → ∃ q, cs = en q ∧ ok q)
    (hv : Value.okWide P w r b0 t v) (h : DataW.Trod enc P w base spare held t v d p) : ∃ xs : List α, Rg en c w v xs ∧ ∀ q ∈ xs, ok q := by
  obtain ⟨a, len, cap, rfl⟩ := okWide_slice hu hv
  obtain ⟨n, h⟩ := h
  rcases open_slice hu h with ⟨h0, -⟩ | ⟨a', len', cap', m, n', D, Pl, h0, hb, hl, hm, hmm, -, hx⟩
  · simp [Value.cells] at h0
    obtain ⟨rfl, rfl, rfl⟩ := h0
    exact ⟨[], rg_nil _ _ _, by simp⟩
  · simp [Value.cells] at h0
    obtain ⟨rfl, rfl, rfl⟩ := h0
    rw [hc] at hx
    have hlm : len ≤ m := by rw [hmm]; split <;> omega
    have each : ∀ i, i < len → ∃ q : α, ok q ∧ ∀ j u, (en q)[j]? = some u → w.cell? ((a'.add (i * c)).add j) = some u := by
      intro i hi
      obtain ⟨cs, h1, ht⟩ := hx i (by omega)
      obtain ⟨_, hlen, hcell⟩ := World.cells?_some h1
      obtain ⟨q, rfl, ho⟩ := hel _ cs _ hlen ht
      refine ⟨q, ho, fun j u hj => ?_⟩
      have hjl := (List.getElem?_eq_some_iff.1 hj).1
      rw [hcell j (by rw [hE.len] at hjl; exact hjl)]
      exact hj
    have inh : Inhabited α := ⟨a0⟩
    obtain ⟨f, hf⟩ := choose_lt each
    obtain ⟨b, o, spot⟩ := a'
    have hspot : 0 < len → spot = none := fun hpos => by
      obtain ⟨u, hu0⟩ : ∃ u, (en (f 0))[0]? = some u := ⟨_, List.getElem?_eq_getElem (by rw [hE.len]; exact hE.pos)⟩
      have h0 := (hf 0 hpos).2 0 u hu0
      simpa [Addr.add] using World.cell?_spot h0
    refine ⟨(List.range len).map f, ⟨some ⟨b, o, spot⟩, cap, by simp, by simpa using hl, hm, fun h => (by cases h), fun hpos => ?_⟩, fun q hq => ?_⟩
    · have hp : 0 < len := by simpa using hpos
      have := hspot hp
      subst this
      refine ⟨b, o, rfl, fun i x j u hx hu => ?_⟩
      have hi : i < len := by
        have := (List.getElem?_eq_some_iff.1 hx).1
        simpa using this
      have ex : x = f i := by
        simp [hi] at hx
        exact hx.symm
      subst ex
      have := (hf i hi).2 j u hu
      rw [addr_plus, addr_plus] at this
      exact this
    · obtain ⟨i, hi, rfl⟩ := List.mem_map.1 hq
      exact (hf i (by simpa using hi)).1
end Go.Proofs.Ytibidhmahjbciaa
