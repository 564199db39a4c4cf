/- The arguments opened: rows of names, of calls, of numbers. Of a row of names, how long each of them is. -/
import Derived.Test.YtibidhmahjbciaaGOpen
import Derived.Test.YtibidhmahjbciaaCtLaw1
import Derived.SizedLaws
namespace Go.Proofs.Ytibidhmahjbciaa
open Go.ChangeShapes Go.WideShapes Go.ChangeAt Go.RowKit Go.Joins Go.Deep
set_option linter.unusedVariables false
set_option linter.unusedSimpArgs false
set_option maxRecDepth 100000

theorem laidOut : laidOutB Try.prog = true := by kernel_rfl
theorem cellsT4 : Try.prog.cellsOf 4 = 1 := by kernel_rfl
theorem cellsT9 : Try.prog.cellsOf 9 = 1 := by kernel_rfl
theorem cellsU64 : Try.prog.cellsOf 32 = 1 := by kernel_rfl
theorem cellsO : Try.prog.cellsOf 34 = 3 := by kernel_rfl
theorem list3 {α : Type} {l : List α} (h : l.length = 3) : ∃ c0 c1 c2, l = [c0, c1, c2] := by
  match l, h with
  | [c0, c1, c2], _ => exact ⟨c0, c1, c2, rfl⟩
theorem weights_in {H : Type} {P : Program} {e : TypeId} : ∀ {l : List (DataW H)} {d : DataW H}, d ∈ l → ∀ n ∈ d.weights P e, n ∈ DataW.weightsAll P e l
  | [], d, h, _, _ => by cases h
  | x :: r, d, h, n, hn => by
    unfold DataW.weightsAll
    rcases List.mem_cons.1 h with rfl | h
    · exact List.mem_append_left _ hn
    · exact List.mem_append_right _ (weights_in h n hn)
theorem reach_of {n : Nat} (h : decide (n ≤ reachBytes) = true) : n ≤ 140737488355328 := by
  have := of_decide_eq_true h
  unfold reachBytes at this
  omega
section
variable {H : Type} {enc : TypeId × Value → H} {w : World} {base : Nat} {spare : Nat → Bool} {held : Bool} {r : Reach} {b0 : Nat} {v : Value} {d : DataW H} {p : List MemPlace}
theorem open_ty22 (hv : Value.okWide Try.prog w r b0 22 v) (h : DataW.Trod enc Try.prog w base spare held 22 v d p) : ∃ xs : List ByteArray, Rg encK 1 w v xs ∧ ∀ q ∈ xs, q.size ∈ d.weights Try.prog 22 := by
  obtain ⟨a, len, cap, rfl⟩ := okWide_slice Try.underlying22 hv
  obtain ⟨n, h⟩ := h
  rcases open_slice1 Try.underlying22 cellsT9 h with ⟨h0, -⟩ | ⟨a', len', cap', m, n', V, D, Pl, h0, hb, hl, hm, hmm, hx0, hx⟩
  · simp [Value.cells] at h0
    obtain ⟨rfl, rfl, rfl⟩ := h0
    exact ⟨[], rg_nil _ _ _, by simp⟩
  · simp [Value.cells] at h0
    obtain ⟨rfl, rfl, rfl⟩ := h0
    have hlm : len ≤ m := by rw [hmm]; split <;> omega
    have each : ∀ i, i < len → ∃ q : ByteArray, w.cell? (a'.add i) = some (.string q) ∧ D i = .lit (.string q.data.toList) := fun i hi => by
      obtain ⟨h1, h2⟩ := hx i (by omega)
      obtain ⟨s, e1, e2, -⟩ := DataW.trod_string Try.underlying9 h2
      injection e1 with e1
      injection e2 with e2 _
      exact ⟨s, by rw [h1, e1], e2⟩
    have inh : Inhabited ByteArray := ⟨⟨#[]⟩⟩
    obtain ⟨f, hf⟩ := choose_lt each
    obtain ⟨b, o, spot⟩ := a'
    have hspot : 0 < len → spot = none := fun hpos => by
      have h0 := (hf 0 hpos).1
      simpa [Addr.add] using World.cell?_spot h0
    refine ⟨(List.range len).map f, ⟨some ⟨b, o, spot⟩, cap, by simp, by simpa using hl, hm, fun h => (by cases h), fun hpos => ?_⟩, fun q hq => ?_⟩
    · have hp : 0 < len := by simpa using hpos
      have := hspot hp
      subst this
      refine ⟨b, o, rfl, fun i x j u hx2 hu => ?_⟩
      have hi : i < len := by
        have := (List.getElem?_eq_some_iff.1 hx2).1
        simpa using this
      have ex : x = f i := by
        simp [hi] at hx2
        exact hx2.symm
      subst ex
      have h5 := (hf i hi).1
      rw [addr_plus] at h5
      cases j with
      | zero =>
        simp [encK] at hu
        subst hu
        rw [Nat.mul_one, Nat.add_zero]
        exact h5
      | succ j => simp [encK] at hu
    · obtain ⟨i, hi, rfl⟩ := List.mem_map.1 hq
      have hi2 : i < len := by simpa using hi
      injection hx0 with hd _
      subst hd
      unfold DataW.weights
      rw [Try.underlying22]
      refine List.mem_cons_of_mem _ (List.mem_append_left _ (weights_in (d := D i) (List.mem_map.2 ⟨i, hi, rfl⟩) _ ?_))
      rw [(hf i hi2).2]
      unfold DataW.weights
      simp
theorem trod_n {fuel : Nat} {cs : List Value} {x : DataW H × List MemPlace} (hl : cs.length = 1) (h : DataW.trod enc Try.prog w base spare held fuel 32 cs = some x) : ∃ a : Int, cs = encG a ∧ inU64 a := by
  obtain ⟨xd, xp⟩ := x
  obtain ⟨a, e0, -, wa⟩ := DataW.trod_int Try.underlying32 h
  have q0 := bounds_u64 wa
  exact ⟨a, e0, by unfold inU64; omega⟩
theorem open_ty42 (hv : Value.okWide Try.prog w r b0 42 v) (h : DataW.Trod enc Try.prog w base spare held 42 v d p) : ∃ xs : List Int, Rg encG 1 w v xs ∧ ∀ x ∈ xs, inU64 x :=
  open_rows (ok := inU64) encG_ok Try.underlying42 cellsU64 0 (fun fuel cs x hl ht => trod_n hl ht) hv h
theorem trod_op {fuel : Nat} {cs : List Value} {x : DataW H × List MemPlace} (hl : cs.length = 3) (h : DataW.trod enc Try.prog w base spare held fuel 34 cs = some x) : ∃ m : Opn, cs = encO m ∧ inU64 m.n ∧ TxOk m.name := by
  match cs, hl with
  | [c0, c1, c2], _ =>
    obtain ⟨xs, n, rfl, -, -, hlen, hf⟩ := DataW.trod_struct Try.underlying34 h
    obtain ⟨y0, y1, y2, rfl⟩ := list3 hlen
    have h0 : DataW.trod enc Try.prog w base spare held n 4 [c0] = some y0 := by have := hf 0 _ rfl; simpa [cellsT4] using this
    have h1 : DataW.trod enc Try.prog w base spare held n 9 [c1] = some y1 := by have := hf 1 _ rfl; simpa [cellsT9] using this
    have h2 : DataW.trod enc Try.prog w base spare held n 32 [c2] = some y2 := by have := hf 2 _ rfl; simpa [cellsU64] using this
    obtain ⟨a, e0, -⟩ := DataW.trod_bool Try.underlying4 h0
    obtain ⟨s, e1, -, ws⟩ := DataW.trod_string Try.underlying9 h1
    obtain ⟨z, e2, hz⟩ := trod_n rfl h2
    unfold encG at e2
    simp at e0 e1 e2
    subst e0 e1 e2
    exact ⟨⟨a, s, z⟩, rfl, hz, ws⟩
theorem open_ty23 (hv : Value.okWide Try.prog w r b0 23 v) (h : DataW.Trod enc Try.prog w base spare held 23 v d p) : ∃ xs : List Opn, Rg encO 3 w v xs ∧ ∀ o ∈ xs, inU64 o.n ∧ TxOk o.name :=
  open_rows (ok := fun o => inU64 o.n ∧ TxOk o.name) encO_ok Try.underlying23 cellsO ⟨false, ⟨#[]⟩, 0⟩ (fun fuel cs x hl ht => trod_op hl ht) hv h
end
theorem okU_wf {x : Int} (h : (Lit.int .u8 x).wf = true) : 0 ≤ x ∧ x < 256 := by have := bounds_u8 h; omega
end Go.Proofs.Ytibidhmahjbciaa
