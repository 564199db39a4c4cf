/- The arguments opened: a row of calls (a slice of structs of three numbers), rows of numbers, rows of times. -/
import Derived.Test.YtdmgdmhggmehgaaFixed
import Derived.Lib.SmallJoins
import Derived.Deep.Slices
namespace Go.Proofs.Ytdmgdmhggmehgaa
open Go.ChangeShapes Go.WideShapes Go.ChangeAt Go.RowKit Go.Joins Go.Deep
set_option linter.unusedVariables false
set_option linter.unusedSimpArgs false

theorem laidOut : laidOutB Try.prog = true := by kernel_rfl
theorem readable_of {P : Program} {f : Func} (h : (f.params.toList.all fun t => P.readableRec t && decide (t < P.types.size)) = true) : ∀ t ∈ f.params.toList, P.readableRec t = true ∧ t < P.types.size := by
  intro t ht
  have := List.all_eq_true.1 h t ht
  simpa using this
theorem cells28 : Try.prog.cellsOf 28 = 3 := by kernel_rfl
theorem cells3 : Try.prog.cellsOf 3 = 1 := by kernel_rfl
theorem cells26 : Try.prog.cellsOf 26 = 1 := by kernel_rfl
structure Opx where
  kind : Int
  id : Int
  t : Int
/- A row of calls: its cells. -/
def Ops (w : World) (oa : Option Addr) (len cap b o : Nat) (S : Nat → Opx) : Prop :=
  len ≤ cap ∧ cap ≤ maxLen ∧ (oa = none → cap = 0) ∧ (0 < len → oa = some ⟨b, o, none⟩ ∧ b < w.heap.size) ∧
  (∀ i, i < len → w.cell? ⟨b, o + i * 3, none⟩ = some (.int .i64 (S i).kind) ∧ w.cell? ⟨b, o + i * 3 + 1, none⟩ = some (.int .i64 (S i).id) ∧ w.cell? ⟨b, o + i * 3 + 2, none⟩ = some (.int .u64 (S i).t)) ∧
  ∀ i, i < len → Wf (S i).id ∧ Wu (S i).t
section
variable {w w' : World} {oa : Option Addr} {len cap b o : Nat} {S : Nat → Opx}
theorem ops_kept (h : Ops w oa len cap b o S) (k : Kept w w') : Ops w' oa len cap b o S := by
  obtain ⟨h1, h2, h3, h4, h5, h6⟩ := h
  refine ⟨h1, h2, h3, fun hl => ⟨(h4 hl).1, Nat.lt_of_lt_of_le (h4 hl).2 k.2⟩, fun i hi => ?_, h6⟩
  obtain ⟨c0, c1, c2⟩ := h5 i hi
  have hb := (h4 (by omega)).2
  exact ⟨(kept_cell k hb).trans c0, (kept_cell k hb).trans c1, (kept_cell k hb).trans c2⟩
end
/- A row of times that is read. -/
def RwU (w : World) (v : Value) (xs : List Int) : Prop :=
  ∃ a c, v = .slice a xs.length c ∧ (0 < xs.length → ∃ g o, a = some ⟨g, o, none⟩ ∧ ∀ i x, xs[i]? = some x → w.cell? ⟨g, o + i, none⟩ = some (.int .u64 x))
theorem rwu_kept {w w' : World} {v : Value} {xs : List Int} (h : RwU w v xs) (k : Kept w w') : RwU w' v xs := by
  obtain ⟨a, c, rfl, h⟩ := h
  refine ⟨a, c, rfl, fun hp => ?_⟩
  obtain ⟨g, o, rfl, hc⟩ := h hp
  exact ⟨g, o, rfl, fun i x hx => (kept_cell k (cell_lt (hc i x hx))).trans (hc i x hx)⟩
section
variable {H : Type} {enc : TypeId × Value → H} {w : World} {base : Nat} {spare : Nat → Bool} {held : Bool} {r : Reach} {b0 : Nat} {v : Value} {d : DataW H} {p : List MemPlace}
theorem open_ty22 (hv : Value.okWide Try.prog w r b0 22 v) (h : DataW.Trod enc Try.prog w base spare held 22 v d p) :
    ∃ (oa : Option Addr) (len cap b o : Nat) (S : Nat → Opx), v = .slice oa len cap ∧ Ops w oa len cap b o S := by
  obtain ⟨a, len, cap, rfl⟩ := okWide_slice Try.underlying22 hv
  obtain ⟨n, h⟩ := h
  rcases open_slice Try.underlying22 h with ⟨h0, -⟩ | ⟨a', len', cap', m, n', D, Pl, h0, hb, hl, hm, hmm, -, hx⟩
  · simp [Value.cells] at h0
    obtain ⟨rfl, rfl, rfl⟩ := h0
    exact ⟨none, 0, 0, 0, 0, fun _ => ⟨0, 0, 0⟩, rfl, Nat.le_refl _, by unfold maxLen; omega, fun _ => rfl, fun h => absurd h (by omega), fun i hi => absurd hi (by omega), fun i hi => absurd hi (by omega)⟩
  · simp [Value.cells] at h0
    obtain ⟨rfl, rfl, rfl⟩ := h0
    rw [cells28] at hx
    have hlm : len ≤ m := by rw [hmm]; split <;> omega
    have each : ∀ i, i < len → ∃ q : Opx, (Wf q.id ∧ Wu q.t) ∧ w.cell? (a'.add (i * 3)) = some (.int .i64 q.kind) ∧ w.cell? ((a'.add (i * 3)).add 1) = some (.int .i64 q.id) ∧ w.cell? ((a'.add (i * 3)).add 2) = some (.int .u64 q.t) := by
      intro i hi
      obtain ⟨cs, hc, ht⟩ := hx i (by omega)
      obtain ⟨_, hlen, hcell⟩ := World.cells?_some hc
      match cs, hlen with
      | [c0, c1, c2], _ =>
        obtain ⟨y0, y1, y2, n2, -, -, t0, t1, t2⟩ := trod_struct3 Try.underlying28 ht
        obtain ⟨k, e0, -, wk⟩ := DataW.trod_int Try.underlying3 t0
        obtain ⟨n, e1, -, wn⟩ := DataW.trod_int Try.underlying3 t1
        obtain ⟨a, e2, -, wa⟩ := DataW.trod_int Try.underlying26 t2
        simp only [cells3, cells26] at e0 e1 e2
        simp at e0 e1 e2
        subst e0 e1 e2
        refine ⟨⟨k, n, a⟩, ⟨wn, wa⟩, ?_, hcell 1 (by omega), hcell 2 (by omega)⟩
        have := hcell 0 (by omega)
        simpa [Addr.add] using this
    have inh : Inhabited Opx := ⟨⟨0, 0, 0⟩⟩
    obtain ⟨f, hf⟩ := choose_lt each
    obtain ⟨b, o, spot⟩ := a'
    have hspot : 0 < len → spot = none := fun hpos => by
      have h0 := (hf 0 hpos).2.1
      simpa [Addr.add] using World.cell?_spot h0
    refine ⟨some ⟨b, o, spot⟩, len, cap, b, o, f, rfl, hl, hm, (fun h => by cases h), fun hpos => ?_, fun i hi => ?_, fun i hi => (hf i hi).1⟩
    · have h0 := (hf 0 hpos).2.1
      have := hspot hpos
      subst this
      refine ⟨rfl, ?_⟩
      have : (Addr.add ⟨b, o, none⟩ (0 * 3)) = ⟨b, o, none⟩ := by simp [Addr.add]
      rw [this] at h0
      exact cell_lt h0
    · have hpos : 0 < len := by omega
      have := hspot hpos
      subst this
      obtain ⟨g1, g2, g3, g4⟩ := hf i hi
      rw [add_add] at g3 g4
      rw [add_plain] at g2 g3 g4
      exact ⟨g2, g3, g4⟩
theorem open_ty34 (hv : Value.okWide Try.prog w r b0 34 v) (h : DataW.Trod enc Try.prog w base spare held 34 v d p) :
    ∃ (oa : Option Addr) (len cap : Nat) (xs : List Int), v = .slice oa len cap ∧ Rw w (.slice oa len cap) xs ∧ xs.length = len ∧ (len ≤ maxLen ∧ ∀ x ∈ xs, Wf x) := by
  obtain ⟨a, len, cap, rfl⟩ := okWide_slice Try.underlying34 hv
  obtain ⟨n, h⟩ := h
  rcases open_ints Try.underlying34 Try.underlying3 (by kernel_rfl) h with ⟨h0, -⟩ | ⟨a', len', cap', zs, h0, hb, hl, hm, hlen, -, hc, hzs⟩
  · simp [Value.cells] at h0
    obtain ⟨rfl, rfl, rfl⟩ := h0
    exact ⟨none, 0, 0, [], rfl, ⟨none, 0, rfl, fun h => absurd h (by simp)⟩, rfl, by unfold maxLen; omega, fun x hx => by cases hx⟩
  · simp [Value.cells] at h0
    obtain ⟨rfl, rfl, rfl⟩ := h0
    have hge : len ≤ zs.length := by rw [hlen]; split <;> omega
    have hlt : (zs.take len).length = len := by simp; omega
    refine ⟨_, _, _, zs.take len, rfl, ⟨some a', cap, by rw [hlt], fun hpos => ?_⟩, hlt, by omega, fun x hx => hzs x (List.mem_of_mem_take hx)⟩
    rw [hlt] at hpos
    obtain ⟨b, o, spot⟩ := a'
    have hspot : spot = none := by
      have h0 := hc 0 (by omega)
      simpa [Addr.add] using World.cell?_spot h0
    subst hspot
    refine ⟨b, o, rfl, fun i x hx => ?_⟩
    have hi : i < len := by
      have := (List.getElem?_eq_some_iff.1 hx).1
      simp at this; omega
    have h1 := hc i (by omega)
    rw [add_plain] at h1
    rw [h1]
    rw [List.getElem?_take, if_pos hi] at hx
    simp [List.getD, hx]
theorem open_ty46 (hv : Value.okWide Try.prog w r b0 46 v) (h : DataW.Trod enc Try.prog w base spare held 46 v d p) :
    ∃ (oa : Option Addr) (len cap : Nat) (xs : List Int), v = .slice oa len cap ∧ RwU w (.slice oa len cap) xs ∧ xs.length = len ∧ (len ≤ maxLen ∧ ∀ x ∈ xs, Wu x) := by
  obtain ⟨a, len, cap, rfl⟩ := okWide_slice Try.underlying46 hv
  obtain ⟨n, h⟩ := h
  rcases open_ints Try.underlying46 Try.underlying26 (by kernel_rfl) h with ⟨h0, -⟩ | ⟨a', len', cap', zs, h0, hb, hl, hm, hlen, -, hc, hzs⟩
  · simp [Value.cells] at h0
    obtain ⟨rfl, rfl, rfl⟩ := h0
    exact ⟨none, 0, 0, [], rfl, ⟨none, 0, rfl, fun h => absurd h (by simp)⟩, rfl, by unfold maxLen; omega, fun x hx => by cases hx⟩
  · simp [Value.cells] at h0
    obtain ⟨rfl, rfl, rfl⟩ := h0
    have hge : len ≤ zs.length := by rw [hlen]; split <;> omega
    have hlt : (zs.take len).length = len := by simp; omega
    refine ⟨_, _, _, zs.take len, rfl, ⟨some a', cap, by rw [hlt], fun hpos => ?_⟩, hlt, by omega, fun x hx => hzs x (List.mem_of_mem_take hx)⟩
    rw [hlt] at hpos
    obtain ⟨b, o, spot⟩ := a'
    have hspot : spot = none := by
      have h0 := hc 0 (by omega)
      simpa [Addr.add] using World.cell?_spot h0
    subst hspot
    refine ⟨b, o, rfl, fun i x hx => ?_⟩
    have hi : i < len := by
      have := (List.getElem?_eq_some_iff.1 hx).1
      simp at this; omega
    have h1 := hc i (by omega)
    rw [add_plain] at h1
    rw [h1]
    rw [List.getElem?_take, if_pos hi] at hx
    simp [List.getD, hx]
end
end Go.Proofs.Ytdmgdmhggmehgaa
