/- The arguments opened: a record handed in by value, a row of records. -/
import Derived.Test.YtnkfhacmkimncaaGreat
import Derived.Lib.SmallJoins
import Derived.Deep.Slices
namespace Go.Proofs.Ytnkfhacmkimncaa
open Go.ChangeShapes Go.WideShapes Go.ChangeAt Go.RowKit Go.Joins Go.Deep
set_option linter.unusedVariables false
set_option linter.unusedSimpArgs false

theorem laidOut : laidOutB Try.prog = true := by kernel_rfl
theorem readable_of {P : Program} {f : Func} (h : (f.params.toList.all fun t => P.readableRec t && decide (t < P.types.size)) = true) : ∀ t ∈ f.params.toList, P.readableRec t = true ∧ t < P.types.size := by
  intro t ht
  have := List.all_eq_true.1 h t ht
  simpa using this
theorem cells25 : Try.prog.cellsOf 25 = 3 := by kernel_rfl
theorem cells27 : Try.prog.cellsOf 27 = 8 := by kernel_rfl
theorem cells9 : Try.prog.cellsOf 9 = 1 := by kernel_rfl
theorem cells22 : Try.prog.cellsOf 22 = 1 := by kernel_rfl
theorem cells23 : Try.prog.cellsOf 23 = 1 := by kernel_rfl
theorem cells5 : Try.prog.cellsOf 5 = 1 := by kernel_rfl
theorem array8 {α : Type} {cs : Array α} (h : cs.size = 8) : ∃ c0 c1 c2 c3 c4 c5 c6 c7, cs = #[c0, c1, c2, c3, c4, c5, c6, c7] := by
  obtain ⟨l⟩ := cs
  match l, h with
  | [c0, c1, c2, c3, c4, c5, c6, c7], _ => exact ⟨c0, c1, c2, c3, c4, c5, c6, c7, rfl⟩
theorem list6 {α : Type} {l : List α} (h : l.length = 6) : ∃ c0 c1 c2 c3 c4 c5, l = [c0, c1, c2, c3, c4, c5] := by
  match l, h with
  | [c0, c1, c2, c3, c4, c5], _ => exact ⟨c0, c1, c2, c3, c4, c5, rfl⟩
section
variable {H : Type} {enc : TypeId × Value → H} {w : World} {base : Nat} {spare : Nat → Bool} {held : Bool} {r : Reach} {b0 : Nat} {v : Value} {d : DataW H} {p : List MemPlace}
theorem trod_rec {fuel : Nat} {c0 c1 c2 c3 c4 c5 c6 c7 : Value} {x : DataW H × List MemPlace} (h : DataW.trod enc Try.prog w base spare held fuel 27 [c0, c1, c2, c3, c4, c5, c6, c7] = some x) :
    ∃ r : R, c0 = .string r.key ∧ c1 = .int .u64 r.s.p ∧ c2 = .int .u32 r.s.l ∧ c3 = .int .u8 r.s.n ∧ c4 = .int .u8 r.kind ∧ c5 = .int .u32 r.flags ∧ c6 = .int .u64 r.exp ∧ c7 = .string r.body ∧ r.ok := by
  obtain ⟨xs, n, rfl, -, -, hlen, hf⟩ := DataW.trod_struct Try.underlying27 h
  obtain ⟨y0, y1, y2, y3, y4, y5, rfl⟩ := list6 hlen
  have h0 : DataW.trod enc Try.prog w base spare held n 9 [c0] = some y0 := by have := hf 0 _ rfl; simpa [cells9] using this
  have h1 : DataW.trod enc Try.prog w base spare held n 25 [c1, c2, c3] = some y1 := by have := hf 1 _ rfl; simpa [cells25] using this
  have h2 : DataW.trod enc Try.prog w base spare held n 5 [c4] = some y2 := by have := hf 2 _ rfl; simpa [cells5] using this
  have h3 : DataW.trod enc Try.prog w base spare held n 23 [c5] = some y3 := by have := hf 3 _ rfl; simpa [cells23] using this
  have h4 : DataW.trod enc Try.prog w base spare held n 22 [c6] = some y4 := by have := hf 4 _ rfl; simpa [cells22] using this
  have h5 : DataW.trod enc Try.prog w base spare held n 9 [c7] = some y5 := by have := hf 5 _ rfl; simpa [cells9] using this
  obtain ⟨z0, z1, z2, n3, -, -, s0, s1, s2⟩ := trod_struct3 Try.underlying25 h1
  simp only [cells22, cells23, cells5] at s0 s1 s2
  simp at s0 s1 s2
  obtain ⟨k, e0, -, wk⟩ := DataW.trod_string Try.underlying9 h0
  obtain ⟨a, e1, -, wa⟩ := DataW.trod_int Try.underlying22 s0
  obtain ⟨b, e2, -, wb⟩ := DataW.trod_int Try.underlying23 s1
  obtain ⟨c, e3, -, wc⟩ := DataW.trod_int Try.underlying5 s2
  obtain ⟨t, e4, -, wt⟩ := DataW.trod_int Try.underlying5 h2
  obtain ⟨f, e5, -, wf⟩ := DataW.trod_int Try.underlying23 h3
  obtain ⟨g, e6, -, wg⟩ := DataW.trod_int Try.underlying22 h4
  obtain ⟨d, e7, -, wd⟩ := DataW.trod_string Try.underlying9 h5
  simp at e0 e1 e2 e3 e4 e5 e6 e7
  subst e0 e1 e2 e3 e4 e5 e6 e7
  have q1 := bounds_u64 wa
  have q2 := bounds_u32 wb
  have q3 := bounds_u8 wc
  have q4 := bounds_u8 wt
  have q5 := bounds_u32 wf
  have q6 := bounds_u64 wg
  refine ⟨⟨k, ⟨a, b, c⟩, t, f, g, d⟩, rfl, rfl, rfl, rfl, rfl, rfl, rfl, rfl, wk, ?_, ?_, ?_, ?_, wd⟩
  · unfold Stp.ok; simp only; omega
  · simp only; omega
  · simp only; omega
  · simp only; omega
theorem open_ty27 (hv : Value.okWide Try.prog w r b0 27 v) (h : DataW.Trod enc Try.prog w base spare held 27 v d p) : ∃ r : R, v = .agg #[.string r.key, .int .u64 r.s.p, .int .u32 r.s.l, .int .u8 r.s.n, .int .u8 r.kind, .int .u32 r.flags, .int .u64 r.exp, .string r.body] ∧ r.ok := by
  obtain ⟨cs, rfl, hsz⟩ := okWide_struct Try.underlying27 hv
  obtain ⟨c0, c1, c2, c3, c4, c5, c6, c7, rfl⟩ := array8 (hsz.trans cells27)
  obtain ⟨fuel, hf⟩ := h
  obtain ⟨r, rfl, rfl, rfl, rfl, rfl, rfl, rfl, rfl, ho⟩ := trod_rec (c0 := c0) (c1 := c1) (c2 := c2) (c3 := c3) (c4 := c4) (c5 := c5) (c6 := c6) (c7 := c7) (by simpa [Value.cells] using hf)
  exact ⟨r, rfl, ho⟩
theorem cell_lt {w : World} {b o : Nat} {v : Value} (h : w.cell? ⟨b, o, none⟩ = some v) : b < w.heap.size := by
  unfold World.cell? at h
  cases hb : w.heap[b]? with
  | none => simp [hb] at h
  | some x => exact (Array.getElem?_eq_some_iff.1 hb).1
/- A row of records: its cells. -/
def Row (w : World) (oa : Option Addr) (len cap b o : Nat) (S : Nat → R) : Prop :=
  len ≤ cap ∧ cap ≤ maxLen ∧ (oa = none → cap = 0) ∧ (0 < len → oa = some ⟨b, o, none⟩ ∧ b < w.heap.size) ∧ ∀ i, i < len → (S i).ok ∧ Lies w b (o + i * 8) (S i)
theorem row_kept {w w' : World} {oa : Option Addr} {len cap b o : Nat} {S : Nat → R} (h : Row w oa len cap b o S) (k : Kept w w') : Row w' oa len cap b o S := by
  obtain ⟨h1, h2, h3, h4, h5⟩ := h
  refine ⟨h1, h2, h3, fun hl => ⟨(h4 hl).1, Nat.lt_of_lt_of_le (h4 hl).2 k.2⟩, fun i hi => ?_⟩
  have hb := (h4 (by omega)).2
  exact ⟨(h5 i hi).1, lies_kept (h5 i hi).2 hb k⟩
theorem open_ty38 (hv : Value.okWide Try.prog w r b0 38 v) (h : DataW.Trod enc Try.prog w base spare held 38 v d p) :
    ∃ (oa : Option Addr) (len cap b o : Nat) (S : Nat → R), v = .slice oa len cap ∧ Row w oa len cap b o S := by
  obtain ⟨a, len, cap, rfl⟩ := okWide_slice Try.underlying38 hv
  obtain ⟨n, h⟩ := h
  rcases open_slice Try.underlying38 h with ⟨h0, -⟩ | ⟨a', len', cap', m, n', D, Pl, h0, hb, hl, hm, hmm, -, hx⟩
  · simp [Value.cells] at h0
    obtain ⟨rfl, rfl, rfl⟩ := h0
    refine ⟨none, 0, 0, 0, 0, fun _ => zeroR, rfl, Nat.le_refl _, by unfold maxLen; omega, fun _ => rfl, fun h => absurd h (by omega), fun i hi => absurd hi (by omega)⟩
  · simp [Value.cells] at h0
    obtain ⟨rfl, rfl, rfl⟩ := h0
    rw [cells27] at hx
    have hlm : len ≤ m := by rw [hmm]; split <;> omega
    have each : ∀ i, i < len → ∃ q : R, q.ok ∧ w.cell? (a'.add (i * 8)) = some (.string q.key) ∧ w.cell? ((a'.add (i * 8)).add 1) = some (.int .u64 q.s.p) ∧ w.cell? ((a'.add (i * 8)).add 2) = some (.int .u32 q.s.l) ∧ w.cell? ((a'.add (i * 8)).add 3) = some (.int .u8 q.s.n) ∧ w.cell? ((a'.add (i * 8)).add 4) = some (.int .u8 q.kind) ∧ w.cell? ((a'.add (i * 8)).add 5) = some (.int .u32 q.flags) ∧ w.cell? ((a'.add (i * 8)).add 6) = some (.int .u64 q.exp) ∧ w.cell? ((a'.add (i * 8)).add 7) = some (.string q.body) := by
      intro i hi
      obtain ⟨cs, hc, ht⟩ := hx i (by omega)
      obtain ⟨_, hlen, hcell⟩ := World.cells?_some hc
      match cs, hlen with
      | [c0, c1, c2, c3, c4, c5, c6, c7], _ =>
        obtain ⟨q, rfl, rfl, rfl, rfl, rfl, rfl, rfl, rfl, ho⟩ := trod_rec ht
        refine ⟨q, ho, ?_, hcell 1 (by omega), hcell 2 (by omega), hcell 3 (by omega), hcell 4 (by omega), hcell 5 (by omega), hcell 6 (by omega), hcell 7 (by omega)⟩
        have := hcell 0 (by omega)
        simpa [Addr.add] using this
    have inh : Inhabited R := ⟨zeroR⟩
    obtain ⟨f, hf⟩ := choose_lt each
    obtain ⟨b, o, spot⟩ := a'
    have hspot : 0 < len → spot = none := fun hpos => by
      have h0 := (hf 0 hpos).2.1
      simpa [Addr.add] using World.cell?_spot h0
    refine ⟨some ⟨b, o, spot⟩, len, cap, b, o, f, rfl, hl, hm, (fun h => by cases h), fun hpos => ?_, fun i hi => ?_⟩
    · have h0 := (hf 0 hpos).2.1
      have := hspot hpos
      subst this
      refine ⟨rfl, ?_⟩
      have : (Addr.add ⟨b, o, none⟩ (0 * 8)) = ⟨b, o, none⟩ := by simp [Addr.add]
      rw [this] at h0
      exact cell_lt h0
    · have hpos : 0 < len := by omega
      have := hspot hpos
      subst this
      obtain ⟨g0, g1, g2, g3, g4, g5, g6, g7, g8⟩ := hf i hi
      rw [add_add] at g2 g3 g4 g5 g6 g7 g8
      rw [add_plain] at g1 g2 g3 g4 g5 g6 g7 g8
      exact ⟨g0, g1, g2, g3, g4, g5, g6, g7, g8⟩
end
end Go.Proofs.Ytnkfhacmkimncaa
