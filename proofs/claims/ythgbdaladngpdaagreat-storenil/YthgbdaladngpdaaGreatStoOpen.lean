/- The arguments opened: a record and a store's bounds handed in by value, rows of calls, of records, of texts. -/
import Derived.Test.YthgbdaladngpdaaGreatStoFixed
import Derived.SliceStrings
import Derived.ChangeSlices
import Derived.Lib.SmallJoins
import Derived.Deep.Slices
namespace Go.Proofs.YthgbdaladngpdaaGreat
open Go.ChangeShapes Go.WideShapes Go.ChangeAt Go.RowKit Go.Joins Go.Deep
set_option linter.unusedVariables false
set_option linter.unusedSimpArgs false
set_option maxRecDepth 100000

theorem laidOut : laidOutB Tryz.prog = true := by kernel_rfl
theorem readable_of {P : Program} {f : Func} (h : (f.params.toList.all fun t => P.readableRec t && decide (t < P.types.size)) = true) : ∀ t ∈ f.params.toList, P.readableRec t = true ∧ t < P.types.size := by
  intro t ht
  have := List.all_eq_true.1 h t ht
  simpa using this
theorem cells33 : Tryz.prog.cellsOf 33 = 3 := by kernel_rfl
theorem cells42 : Tryz.prog.cellsOf 42 = 8 := by kernel_rfl
theorem cells44 : Tryz.prog.cellsOf 44 = 10 := by kernel_rfl
theorem cells23 : Tryz.prog.cellsOf 23 = 3 := by kernel_rfl
theorem cells9 : Tryz.prog.cellsOf 9 = 1 := by kernel_rfl
theorem cells30 : Tryz.prog.cellsOf 30 = 1 := by kernel_rfl
theorem cells31 : Tryz.prog.cellsOf 31 = 1 := by kernel_rfl
theorem cells5 : Tryz.prog.cellsOf 5 = 1 := by kernel_rfl
theorem cells3 : Tryz.prog.cellsOf 3 = 1 := by kernel_rfl
theorem array8 {α : Type} {cs : Array α} (h : cs.size = 8) : ∃ c0 c1 c2 c3 c4 c5 c6 c7, cs = #[c0, c1, c2, c3, c4, c5, c6, c7] := by
  obtain ⟨l⟩ := cs
  match l, h with
  | [c0, c1, c2, c3, c4, c5, c6, c7], _ => exact ⟨c0, c1, c2, c3, c4, c5, c6, c7, rfl⟩
theorem array3 {α : Type} {cs : Array α} (h : cs.size = 3) : ∃ c0 c1 c2, cs = #[c0, c1, c2] := by
  obtain ⟨l⟩ := cs
  match l, h with
  | [c0, c1, c2], _ => exact ⟨c0, c1, c2, rfl⟩
theorem list6 {α : Type} {l : List α} (h : l.length = 6) : ∃ c0 c1 c2 c3 c4 c5, l = [c0, c1, c2, c3, c4, c5] := by
  match l, h with
  | [c0, c1, c2, c3, c4, c5], _ => exact ⟨c0, c1, c2, c3, c4, c5, rfl⟩
/- A call. -/
structure Opx where
  kind : Int
  r : R
  pass : Int
def Opx.ok (x : Opx) : Prop := (Lit.int .i64 x.kind).wf = true ∧ x.r.ok ∧ 0 ≤ x.pass ∧ x.pass < 256
section
variable {H : Type} {enc : TypeId × Value → H} {w : World} {base : Nat} {spare : Nat → Bool} {held : Bool} {r : Reach} {b0 : Nat} {v : Value} {d : DataW H} {p : List MemPlace}
theorem trod_rec {fuel : Nat} {c0 c1 c2 c3 c4 c5 c6 c7 : Value} {x : DataW H × List MemPlace} (h : DataW.trod enc Tryz.prog w base spare held fuel 42 [c0, c1, c2, c3, c4, c5, c6, c7] = some x) :
    ∃ r : R, c0 = .string r.key ∧ c1 = .int .u64 r.s.p ∧ c2 = .int .u32 r.s.l ∧ c3 = .int .u8 r.s.n ∧ c4 = .int .u8 r.kind ∧ c5 = .int .u32 r.flags ∧ c6 = .int .u64 r.exp ∧ c7 = .string r.body ∧ r.ok := by
  obtain ⟨xs, n, rfl, -, -, hlen, hf⟩ := DataW.trod_struct Tryz.underlying42 h
  obtain ⟨y0, y1, y2, y3, y4, y5, rfl⟩ := list6 hlen
  have h0 : DataW.trod enc Tryz.prog w base spare held n 9 [c0] = some y0 := by have := hf 0 _ rfl; simpa [cells9] using this
  have h1 : DataW.trod enc Tryz.prog w base spare held n 33 [c1, c2, c3] = some y1 := by have := hf 1 _ rfl; simpa [cells33] using this
  have h2 : DataW.trod enc Tryz.prog w base spare held n 5 [c4] = some y2 := by have := hf 2 _ rfl; simpa [cells5] using this
  have h3 : DataW.trod enc Tryz.prog w base spare held n 31 [c5] = some y3 := by have := hf 3 _ rfl; simpa [cells31] using this
  have h4 : DataW.trod enc Tryz.prog w base spare held n 30 [c6] = some y4 := by have := hf 4 _ rfl; simpa [cells30] using this
  have h5 : DataW.trod enc Tryz.prog w base spare held n 9 [c7] = some y5 := by have := hf 5 _ rfl; simpa [cells9] using this
  obtain ⟨z0, z1, z2, n3, -, -, s0, s1, s2⟩ := trod_struct3 Tryz.underlying33 h1
  simp only [cells30, cells31, cells5] at s0 s1 s2
  simp at s0 s1 s2
  obtain ⟨k, e0, -, wk⟩ := DataW.trod_string Tryz.underlying9 h0
  obtain ⟨a, e1, -, wa⟩ := DataW.trod_int Tryz.underlying30 s0
  obtain ⟨b, e2, -, wb⟩ := DataW.trod_int Tryz.underlying31 s1
  obtain ⟨c, e3, -, wc⟩ := DataW.trod_int Tryz.underlying5 s2
  obtain ⟨t, e4, -, wt⟩ := DataW.trod_int Tryz.underlying5 h2
  obtain ⟨f, e5, -, wf⟩ := DataW.trod_int Tryz.underlying31 h3
  obtain ⟨g, e6, -, wg⟩ := DataW.trod_int Tryz.underlying30 h4
  obtain ⟨d, e7, -, wd⟩ := DataW.trod_string Tryz.underlying9 h5
  simp at e0 e1 e2 e3 e4 e5 e6 e7
  subst e0 e1 e2 e3 e4 e5 e6 e7
  have q1 := bounds_u64 wa
  have q2 := bounds_u32 wb
  have q3 := bounds_u8 wc
  have q4 := bounds_u8 wt
  have q5 := bounds_u32 wf
  have q6 := bounds_u64 wg
  refine ⟨⟨k, ⟨a, b, c⟩, t, f, g, d⟩, rfl, rfl, rfl, rfl, rfl, rfl, rfl, rfl, wk, ?_, ?_, ?_, ?_, wd⟩
  · unfold Stp.ok; simp only; omega
  · simp only; omega
  · simp only; omega
  · simp only; omega
theorem trod_op {fuel : Nat} {k c0 c1 c2 c3 c4 c5 c6 c7 t : Value} {x : DataW H × List MemPlace} (h : DataW.trod enc Tryz.prog w base spare held fuel 44 [k, c0, c1, c2, c3, c4, c5, c6, c7, t] = some x) :
    ∃ q : Opx, k = .int .i64 q.kind ∧ c0 = .string q.r.key ∧ c1 = .int .u64 q.r.s.p ∧ c2 = .int .u32 q.r.s.l ∧ c3 = .int .u8 q.r.s.n ∧ c4 = .int .u8 q.r.kind ∧ c5 = .int .u32 q.r.flags ∧ c6 = .int .u64 q.r.exp ∧ c7 = .string q.r.body ∧ t = .int .u8 q.pass ∧ q.ok := by
  obtain ⟨z0, z1, z2, n3, -, -, s0, s1, s2⟩ := trod_struct3 Tryz.underlying44 h
  simp only [cells42, cells3, cells5] at s0 s1 s2
  simp at s0 s1 s2
  obtain ⟨a, e0, -, wa⟩ := DataW.trod_int Tryz.underlying3 s0
  obtain ⟨r, e1, e2, e3, e4, e5, e6, e7, e8, ho⟩ := trod_rec s1
  obtain ⟨b, e9, -, wb⟩ := DataW.trod_int Tryz.underlying5 s2
  simp at e0 e9
  subst e0 e9 e1 e2 e3 e4 e5 e6 e7 e8
  have q := bounds_u8 wb
  exact ⟨⟨a, r, b⟩, rfl, rfl, rfl, rfl, rfl, rfl, rfl, rfl, rfl, rfl, wa, ho, by simp only; omega, by simp only; omega⟩
theorem open_ty42 (hv : Value.okWide Tryz.prog w r b0 42 v) (h : DataW.Trod enc Tryz.prog w base spare held 42 v d p) : ∃ r : R, v = .agg #[.string r.key, .int .u64 r.s.p, .int .u32 r.s.l, .int .u8 r.s.n, .int .u8 r.kind, .int .u32 r.flags, .int .u64 r.exp, .string r.body] ∧ r.ok := by
  obtain ⟨cs, rfl, hsz⟩ := okWide_struct Tryz.underlying42 hv
  obtain ⟨c0, c1, c2, c3, c4, c5, c6, c7, rfl⟩ := array8 (hsz.trans cells42)
  obtain ⟨fuel, hf⟩ := h
  obtain ⟨r, rfl, rfl, rfl, rfl, rfl, rfl, rfl, rfl, ho⟩ := trod_rec (c0 := c0) (c1 := c1) (c2 := c2) (c3 := c3) (c4 := c4) (c5 := c5) (c6 := c6) (c7 := c7) (by simpa [Value.cells] using hf)
  exact ⟨r, rfl, ho⟩
theorem open_ty23 (hv : Value.okWide Tryz.prog w r b0 23 v) (h : DataW.Trod enc Tryz.prog w base spare held 23 v d p) : ∃ n b k : Int, v = .agg #[.int .i64 n, .int .i64 b, .int .i64 k] ∧ (Lit.int .i64 n).wf = true ∧ (Lit.int .i64 b).wf = true ∧ (Lit.int .i64 k).wf = true := by
  obtain ⟨cs, rfl, hsz⟩ := okWide_struct Tryz.underlying23 hv
  obtain ⟨c0, c1, c2, rfl⟩ := array3 (hsz.trans cells23)
  obtain ⟨fuel, hf⟩ := h
  have hf2 : DataW.trod enc Tryz.prog w base spare held fuel 23 [c0, c1, c2] = some (d, p) := by simpa [Value.cells] using hf
  obtain ⟨z0, z1, z2, n3, -, -, s0, s1, s2⟩ := trod_struct3 Tryz.underlying23 hf2
  simp only [cells3] at s0 s1 s2
  simp at s0 s1 s2
  obtain ⟨a, e0, -, wa⟩ := DataW.trod_int Tryz.underlying3 s0
  obtain ⟨b, e1, -, wb⟩ := DataW.trod_int Tryz.underlying3 s1
  obtain ⟨c, e2, -, wc⟩ := DataW.trod_int Tryz.underlying3 s2
  simp at e0 e1 e2
  subst e0 e1 e2
  exact ⟨a, b, c, rfl, wa, wb, wc⟩
theorem cell_lt {w : World} {b o : Nat} {v : Value} (h : w.cell? ⟨b, o, none⟩ = some v) : b < w.heap.size := by
  unfold World.cell? at h
  cases hb : w.heap[b]? with
  | none => simp [hb] at h
  | some x => exact (Array.getElem?_eq_some_iff.1 hb).1
/- A row of calls: its cells. -/
def LiesO (w : World) (b o : Nat) (x : Opx) : Prop := w.cell? ⟨b, o, none⟩ = some (.int .i64 x.kind) ∧ w.cell? ⟨b, o + 1, none⟩ = some (.string x.r.key) ∧ w.cell? ⟨b, o + 2, none⟩ = some (.int .u64 x.r.s.p) ∧ w.cell? ⟨b, o + 3, none⟩ = some (.int .u32 x.r.s.l) ∧ w.cell? ⟨b, o + 4, none⟩ = some (.int .u8 x.r.s.n) ∧ w.cell? ⟨b, o + 5, none⟩ = some (.int .u8 x.r.kind) ∧ w.cell? ⟨b, o + 6, none⟩ = some (.int .u32 x.r.flags) ∧ w.cell? ⟨b, o + 7, none⟩ = some (.int .u64 x.r.exp) ∧ w.cell? ⟨b, o + 8, none⟩ = some (.string x.r.body) ∧ w.cell? ⟨b, o + 9, none⟩ = some (.int .u8 x.pass)
def RowO (w : World) (oa : Option Addr) (len cap b o : Nat) (S : Nat → Opx) : Prop :=
  len ≤ cap ∧ cap ≤ maxLen ∧ (oa = none → cap = 0) ∧ (0 < len → oa = some ⟨b, o, none⟩ ∧ b < w.heap.size) ∧ ∀ i, i < len → (S i).ok ∧ LiesO w b (o + i * 10) (S i)
def RowQ (w : World) (oa : Option Addr) (len cap b o : Nat) (S : Nat → R) : Prop :=
  len ≤ cap ∧ cap ≤ maxLen ∧ (oa = none → cap = 0) ∧ (0 < len → oa = some ⟨b, o, none⟩ ∧ b < w.heap.size) ∧ ∀ i, i < len → (S i).ok ∧ C8 w b (o + i * 8) (S i)
def RowX (w : World) (oa : Option Addr) (len b o : Nat) (S : Nat → ByteArray) : Prop :=
  len ≤ maxLen ∧ (0 < len → oa = some ⟨b, o, none⟩ ∧ b < w.heap.size) ∧ ∀ i, i < len → (S i).size ≤ maxLen ∧ w.cell? ⟨b, o + i, none⟩ = some (.string (S i))
def zeroO : Opx := ⟨0, zeroR, 0⟩
theorem open_ty24 (hv : Value.okWide Tryz.prog w r b0 24 v) (h : DataW.Trod enc Tryz.prog w base spare held 24 v d p) :
    ∃ (oa : Option Addr) (len cap b o : Nat) (S : Nat → Opx), v = .slice oa len cap ∧ RowO w oa len cap b o S := by
  obtain ⟨a, len, cap, rfl⟩ := okWide_slice Tryz.underlying24 hv
  obtain ⟨n, h⟩ := h
  rcases open_slice Tryz.underlying24 h with ⟨h0, -⟩ | ⟨a', len', cap', m, n', D, Pl, h0, hb, hl, hm, hmm, -, hx⟩
  · simp [Value.cells] at h0
    obtain ⟨rfl, rfl, rfl⟩ := h0
    refine ⟨none, 0, 0, 0, 0, fun _ => zeroO, rfl, Nat.le_refl _, by unfold maxLen; omega, fun _ => rfl, fun h => absurd h (by omega), fun i hi => absurd hi (by omega)⟩
  · simp [Value.cells] at h0
    obtain ⟨rfl, rfl, rfl⟩ := h0
    rw [cells44] at hx
    have hlm : len ≤ m := by rw [hmm]; split <;> omega
    have each : ∀ i, i < len → ∃ q : Opx, q.ok ∧ w.cell? (a'.add (i * 10)) = some (.int .i64 q.kind) ∧ w.cell? ((a'.add (i * 10)).add 1) = some (.string q.r.key) ∧ w.cell? ((a'.add (i * 10)).add 2) = some (.int .u64 q.r.s.p) ∧ w.cell? ((a'.add (i * 10)).add 3) = some (.int .u32 q.r.s.l) ∧ w.cell? ((a'.add (i * 10)).add 4) = some (.int .u8 q.r.s.n) ∧ w.cell? ((a'.add (i * 10)).add 5) = some (.int .u8 q.r.kind) ∧ w.cell? ((a'.add (i * 10)).add 6) = some (.int .u32 q.r.flags) ∧ w.cell? ((a'.add (i * 10)).add 7) = some (.int .u64 q.r.exp) ∧ w.cell? ((a'.add (i * 10)).add 8) = some (.string q.r.body) ∧ w.cell? ((a'.add (i * 10)).add 9) = some (.int .u8 q.pass) := by
      intro i hi
      obtain ⟨cs, hc, ht⟩ := hx i (by omega)
      obtain ⟨_, hlen, hcell⟩ := World.cells?_some hc
      match cs, hlen with
      | [k, c0, c1, c2, c3, c4, c5, c6, c7, t], _ =>
        obtain ⟨q, rfl, rfl, rfl, rfl, rfl, rfl, rfl, rfl, rfl, rfl, ho⟩ := trod_op ht
        refine ⟨q, ho, ?_, hcell 1 (by omega), hcell 2 (by omega), hcell 3 (by omega), hcell 4 (by omega), hcell 5 (by omega), hcell 6 (by omega), hcell 7 (by omega), hcell 8 (by omega), hcell 9 (by omega)⟩
        have := hcell 0 (by omega)
        simpa [Addr.add] using this
    have inh : Inhabited Opx := ⟨zeroO⟩
    obtain ⟨f, hf⟩ := choose_lt each
    obtain ⟨b, o, spot⟩ := a'
    have hspot : 0 < len → spot = none := fun hpos => by
      have h0 := (hf 0 hpos).2.1
      simpa [Addr.add] using World.cell?_spot h0
    refine ⟨some ⟨b, o, spot⟩, len, cap, b, o, f, rfl, hl, hm, (fun h => by cases h), fun hpos => ?_, fun i hi => ?_⟩
    · have h0 := (hf 0 hpos).2.1
      have := hspot hpos
      subst this
      refine ⟨rfl, ?_⟩
      have : (Addr.add ⟨b, o, none⟩ (0 * 10)) = ⟨b, o, none⟩ := by simp [Addr.add]
      rw [this] at h0
      exact cell_lt h0
    · have hpos : 0 < len := by omega
      have := hspot hpos
      subst this
      obtain ⟨g0, g1, g2, g3, g4, g5, g6, g7, g8, g9, g10⟩ := hf i hi
      rw [add_add] at g2 g3 g4 g5 g6 g7 g8 g9 g10
      rw [add_plain] at g1 g2 g3 g4 g5 g6 g7 g8 g9 g10
      exact ⟨g0, g1, g2, g3, g4, g5, g6, g7, g8, g9, g10⟩
theorem open_ty29 (hv : Value.okWide Tryz.prog w r b0 29 v) (h : DataW.Trod enc Tryz.prog w base spare held 29 v d p) :
    ∃ (oa : Option Addr) (len cap b o : Nat) (S : Nat → R), v = .slice oa len cap ∧ RowQ w oa len cap b o S := by
  obtain ⟨a, len, cap, rfl⟩ := okWide_slice Tryz.underlying29 hv
  obtain ⟨n, h⟩ := h
  rcases open_slice Tryz.underlying29 h with ⟨h0, -⟩ | ⟨a', len', cap', m, n', D, Pl, h0, hb, hl, hm, hmm, -, hx⟩
  · simp [Value.cells] at h0
    obtain ⟨rfl, rfl, rfl⟩ := h0
    refine ⟨none, 0, 0, 0, 0, fun _ => zeroR, rfl, Nat.le_refl _, by unfold maxLen; omega, fun _ => rfl, fun h => absurd h (by omega), fun i hi => absurd hi (by omega)⟩
  · simp [Value.cells] at h0
    obtain ⟨rfl, rfl, rfl⟩ := h0
    rw [cells42] at hx
    have hlm : len ≤ m := by rw [hmm]; split <;> omega
    have each : ∀ i, i < len → ∃ q : R, q.ok ∧ w.cell? (a'.add (i * 8)) = some (.string q.key) ∧ w.cell? ((a'.add (i * 8)).add 1) = some (.int .u64 q.s.p) ∧ w.cell? ((a'.add (i * 8)).add 2) = some (.int .u32 q.s.l) ∧ w.cell? ((a'.add (i * 8)).add 3) = some (.int .u8 q.s.n) ∧ w.cell? ((a'.add (i * 8)).add 4) = some (.int .u8 q.kind) ∧ w.cell? ((a'.add (i * 8)).add 5) = some (.int .u32 q.flags) ∧ w.cell? ((a'.add (i * 8)).add 6) = some (.int .u64 q.exp) ∧ w.cell? ((a'.add (i * 8)).add 7) = some (.string q.body) := by
      intro i hi
      obtain ⟨cs, hc, ht⟩ := hx i (by omega)
      obtain ⟨_, hlen, hcell⟩ := World.cells?_some hc
      match cs, hlen with
      | [c0, c1, c2, c3, c4, c5, c6, c7], _ =>
        obtain ⟨q, rfl, rfl, rfl, rfl, rfl, rfl, rfl, rfl, ho⟩ := trod_rec ht
        refine ⟨q, ho, ?_, hcell 1 (by omega), hcell 2 (by omega), hcell 3 (by omega), hcell 4 (by omega), hcell 5 (by omega), hcell 6 (by omega), hcell 7 (by omega)⟩
        have := hcell 0 (by omega)
        simpa [Addr.add] using this
    have inh : Inhabited R := ⟨zeroR⟩
    obtain ⟨f, hf⟩ := choose_lt each
    obtain ⟨b, o, spot⟩ := a'
    have hspot : 0 < len → spot = none := fun hpos => by
      have h0 := (hf 0 hpos).2.1
      simpa [Addr.add] using World.cell?_spot h0
    refine ⟨some ⟨b, o, spot⟩, len, cap, b, o, f, rfl, hl, hm, (fun h => by cases h), fun hpos => ?_, fun i hi => ?_⟩
    · have h0 := (hf 0 hpos).2.1
      have := hspot hpos
      subst this
      refine ⟨rfl, ?_⟩
      have : (Addr.add ⟨b, o, none⟩ (0 * 8)) = ⟨b, o, none⟩ := by simp [Addr.add]
      rw [this] at h0
      exact cell_lt h0
    · have hpos : 0 < len := by omega
      have := hspot hpos
      subst this
      obtain ⟨g0, g1, g2, g3, g4, g5, g6, g7, g8⟩ := hf i hi
      rw [add_add] at g2 g3 g4 g5 g6 g7 g8
      rw [add_plain] at g1 g2 g3 g4 g5 g6 g7 g8
      exact ⟨g0, g1, g2, g3, g4, g5, g6, g7, g8⟩
theorem open_ty67 (hv : Value.okWide Tryz.prog w r b0 67 v) (h : DataW.Trod enc Tryz.prog w base spare held 67 v d p) :
    ∃ (oa : Option Addr) (len cap b o : Nat) (S : Nat → ByteArray), v = .slice oa len cap ∧ RowX w oa len b o S := by
  obtain ⟨a, len, cap, rfl⟩ := okWide_slice Tryz.underlying67 hv
  obtain ⟨n, h⟩ := h
  rcases open_strings Tryz.underlying67 Tryz.underlying9 (by kernel_rfl) h with ⟨h0, -⟩ | ⟨a', len', cap', ss, h0, hb, hl, hm, hlen, -, hc, hss⟩
  · simp [Value.cells] at h0
    obtain ⟨rfl, rfl, rfl⟩ := h0
    exact ⟨none, 0, 0, 0, 0, fun _ => ⟨#[]⟩, rfl, by unfold maxLen; omega, fun h => absurd h (by omega), fun i hi => absurd hi (by omega)⟩
  · simp [Value.cells] at h0
    obtain ⟨rfl, rfl, rfl⟩ := h0
    have hge : len ≤ ss.length := by rw [hlen]; split <;> omega
    obtain ⟨b, o, spot⟩ := a'
    have hspot : 0 < len → spot = none := fun hpos => by
      have h0 := hc 0 (by omega)
      simpa [Addr.add] using World.cell?_spot h0
    refine ⟨_, len, cap, b, o, fun i => ss.getD i ByteArray.empty, rfl, by omega, fun hpos => ?_, fun i hi => ?_⟩
    · have h0 := hc 0 (by omega)
      have := hspot hpos
      subst this
      refine ⟨rfl, ?_⟩
      have : (Addr.add ⟨b, o, none⟩ 0) = ⟨b, o, none⟩ := by simp [Addr.add]
      rw [this] at h0
      exact cell_lt h0
    · have := hspot (by omega)
      subst this
      have h1 := hc i (by omega)
      rw [add_plain] at h1
      refine ⟨?_, h1⟩
      have hi2 : i < ss.length := by omega
      have : ss.getD i ByteArray.empty = ss[i] := by simp [List.getD, List.getElem?_eq_getElem hi2]
      show (ss.getD i ByteArray.empty).size ≤ maxLen
      rw [this]
      exact hss _ (List.getElem_mem hi2)
end
end Go.Proofs.YthgbdaladngpdaaGreat
