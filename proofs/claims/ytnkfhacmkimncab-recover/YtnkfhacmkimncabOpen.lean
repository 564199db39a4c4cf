/- The arguments opened: a record handed in by value, a row of records. -/
import Derived.Test.YtnkfhacmkimncabGreat
import Derived.Lib.SmallJoins
import Derived.Deep.Slices
namespace Go.Proofs.Ytnkfhacmkimncab
open Go.ChangeShapes Go.WideShapes Go.ChangeAt Go.RowKit Go.Joins Go.Deep
set_option linter.unusedVariables false
set_option linter.unusedSimpArgs false

theorem laidOut : laidOutB Try.prog = true := by kernel_rfl
theorem readable_of {P : Program} {f : Func} (h : (f.params.toList.all fun t => P.readableRec t && decide (t < P.types.size)) = true) : ∀ t ∈ f.params.toList, P.readableRec t = true ∧ t < P.types.size := by
  intro t ht
  have := List.all_eq_true.1 h t ht
  simpa using this
theorem cells25 : Try.prog.cellsOf 25 = 3 := by kernel_rfl
theorem cells27 : Try.prog.cellsOf 27 = 8 := by kernel_rfl
theorem cells9 : Try.prog.cellsOf 9 = 1 := by kernel_rfl
theorem cells22 : Try.prog.cellsOf 22 = 1 := by kernel_rfl
theorem cells23 : Try.prog.cellsOf 23 = 1 := by kernel_rfl
theorem cells5 : Try.prog.cellsOf 5 = 1 := by kernel_rfl
theorem array8 {α : Type} {cs : Array α} (h : cs.size = 8) : ∃ c0 c1 c2 c3 c4 c5 c6 c7, cs = #[c0, c1, c2, c3, c4, c5, c6, c7] := by
  obtain ⟨l⟩ := cs
  match l, h with
  | [c0, c1, c2, c3, c4, c5, c6, c7], _ => exact ⟨c0, c1, c2, c3, c4, c5, c6, c7, rfl⟩
theorem list6 {α : Type} {l : List α} (h : l.length = 6) : ∃ c0 c1 c2 c3 c4 c5, l = [c0, c1, c2, c3, c4, c5] := by
  match l, h with
  | [c0, c1, c2, c3, c4, c5], _ => exact ⟨c0, c1, c2, c3, c4, c5, rfl⟩
section
variable {H : Type} {enc : TypeId × Value → H} {w : World} {base : Nat} {spare : Nat → Bool} {held : Bool} {r : Reach} {b0 : Nat} {v : Value} {d : DataW H} {p : List MemPlace}
theorem trod_rec {fuel : Nat} {c0 c1 c2 c3 c4 c5 c6 c7 : Value} {x : DataW H × List MemPlace} (h : DataW.trod enc Try.prog w base spare held fuel 27 [c0, c1, c2, c3, c4, c5, c6, c7] = some x) :
    ∃ r : R, c0 = .string r.key ∧ c1 = .int .u64 r.s.p ∧ c2 = .int .u32 r.s.l ∧ c3 = .int .u8 r.s.n ∧ c4 = .int .u8 r.kind ∧ c5 = .int .u32 r.flags ∧ c6 = .int .u64 r.exp ∧ c7 = .string r.body ∧ r.ok := by
  obtain ⟨xs, n, rfl, -, -, hlen, hf⟩ := DataW.trod_struct Try.underlying27 h
  obtain ⟨y0, y1, y2, y3, y4, y5, rfl⟩ := list6 hlen
  have h0 : DataW.trod enc Try.prog w base spare held n 9 [c0] = some y0 := by have := hf 0 _ rfl; simpa [cells9] using this
  have h1 : DataW.trod enc Try.prog w base spare held n 25 [c1, c2, c3] = some y1 := by have := hf 1 _ rfl; simpa [cells25] using this
  have h2 : DataW.trod enc Try.prog w base spare held n 5 [c4] = some y2 := by have := hf 2 _ rfl; simpa [cells5] using this
  have h3 : DataW.trod enc Try.prog w base spare held n 23 [c5] = some y3 := by have := hf 3 _ rfl; simpa [cells23] using this
  have h4 : DataW.trod enc Try.prog w base spare held n 22 [c6] = some y4 := by have := hf 4 _ rfl; simpa [cells22] using this
  have h5 : DataW.trod enc Try.prog w base spare held n 9 [c7] = some y5 := by have := hf 5 _ rfl; simpa [cells9] using this
  obtain ⟨z0, z1, z2, n3, -, -, s0, s1, s2⟩ := trod_struct3 Try.underlying25 h1
  simp only [cells22, cells23, cells5] at s0 s1 s2
  simp at s0 s1 s2
  obtain ⟨k, e0, -, wk⟩ := DataW.trod_string Try.underlying9 h0
  obtain ⟨a, e1, -, wa⟩ := DataW.trod_int Try.underlying22 s0
  obtain ⟨b, e2, -, wb⟩ := DataW.trod_int Try.underlying23 s1
  obtain ⟨c, e3, -, wc⟩ := DataW.trod_int Try.underlying5 s2
  obtain ⟨t, e4, -, wt⟩ := DataW.trod_int Try.underlying5 h2
  obtain ⟨f, e5, -, wf⟩ := DataW.trod_int Try.underlying23 h3
  obtain ⟨g, e6, -, wg⟩ := DataW.trod_int Try.underlying22 h4
  obtain ⟨d, e7, -, wd⟩ := DataW.trod_string Try.underlying9 h5
  simp at e0 e1 e2 e3 e4 e5 e6 e7
  subst e0 e1 e2 e3 e4 e5 e6 e7
  have q1 := bounds_u64 wa
  have q2 := bounds_u32 wb
  have q3 := bounds_u8 wc
  have q4 := bounds_u8 wt
  have q5 := bounds_u32 wf
  have q6 := bounds_u64 wg
  refine ⟨⟨k, ⟨a, b, c⟩, t, f, g, d⟩, rfl, rfl, rfl, rfl, rfl, rfl, rfl, rfl, wk, ?_, ?_, ?_, ?_, wd⟩
  · unfold Stp.ok; simp only; omega
  · simp only; omega
  · simp only; omega
  · simp only; omega
theorem open_ty27 (hv : Value.okWide Try.prog w r b0 27 v) (h : DataW.Trod enc Try.prog w base spare held 27 v d p) : ∃ r : R, v = .agg #[.string r.key, .int .u64 r.s.p, .int .u32 r.s.l, .int .u8 r.s.n, .int .u8 r.kind, .int .u32 r.flags, .int .u64 r.exp, .string r.body] ∧ r.ok := by
  obtain ⟨cs, rfl, hsz⟩ := okWide_struct Try.underlying27 hv
  obtain ⟨c0, c1, c2, c3, c4, c5, c6, c7, rfl⟩ := array8 (hsz.trans cells27)
  obtain ⟨fuel, hf⟩ := h
  obtain ⟨r, rfl, rfl, rfl, rfl, rfl, rfl, rfl, rfl, ho⟩ := trod_rec (c0 := c0) (c1 := c1) (c2 := c2) (c3 := c3) (c4 := c4) (c5 := c5) (c6 := c6) (c7 := c7) (by simpa [Value.cells] using hf)
  exact ⟨r, rfl, ho⟩

/- A row of records: its cells. -/


end
end Go.Proofs.Ytnkfhacmkimncab
