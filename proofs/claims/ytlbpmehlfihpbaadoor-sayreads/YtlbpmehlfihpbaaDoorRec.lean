/- Records in memory: eight cells; a record stored whole, a record as a result; rows of records, of texts and of numbers, opened. No condition. -/
import Derived.Test.YtlbpmehlfihpbaaDoorBase
import Derived.Lib.SmallJoins
import Derived.Deep.Slices
import Derived.Deep.Upon
import Derived.Laws.AppendOwn
import Derived.SliceStrings
import Derived.ChangeSlices
namespace Go.Proofs.YtlbpmehlfihpbaaDoor
open Go.ChangeShapes Go.WideShapes Go.ChangeAt Go.RowKit Go.Joins Go.Deep
set_option linter.unusedVariables false
set_option linter.unusedSimpArgs false

structure Stp where
  p : Int
  l : Int
  n : Int
theorem Stp.ext {a b : Stp} (h1 : a.p = b.p) (h2 : a.l = b.l) (h3 : a.n = b.n) : a = b := by
  cases a; cases b; simp_all
def zeroS : Stp := ⟨0, 0, 0⟩
structure R where
  key : ByteArray
  s : Stp
  kind : Int
  flags : Nat
  exp : Int
  body : ByteArray
theorem R.ext' {a b : R} (h1 : a.key = b.key) (h2 : a.s = b.s) (h3 : a.kind = b.kind) (h4 : a.flags = b.flags) (h5 : a.exp = b.exp) (h6 : a.body = b.body) : a = b := by
  cases a; cases b; simp_all
def R.ok (r : R) : Prop := r.key.size ≤ maxLen ∧ r.flags < 4294967296 ∧ r.body.size ≤ maxLen
def zeroR : R := ⟨⟨#[]⟩, zeroS, 0, 0, 0, ⟨#[]⟩⟩
/- A record's eight cells at a place. -/
def Lies (w : World) (B o : Nat) (r : R) : Prop :=
  w.cell? ⟨B, o, none⟩ = some (.string r.key) ∧ w.cell? ⟨B, o + 1, none⟩ = some (.int .u64 r.s.p) ∧ w.cell? ⟨B, o + 2, none⟩ = some (.int .u32 r.s.l) ∧ w.cell? ⟨B, o + 3, none⟩ = some (.int .u8 r.s.n) ∧ w.cell? ⟨B, o + 4, none⟩ = some (.int .u8 r.kind) ∧ w.cell? ⟨B, o + 5, none⟩ = some (.int .u32 r.flags) ∧ w.cell? ⟨B, o + 6, none⟩ = some (.int .u64 r.exp) ∧ w.cell? ⟨B, o + 7, none⟩ = some (.string r.body)
theorem lies_kept {w w' : World} {B o : Nat} {r : R} (h : Lies w B o r) (hB : B < w.heap.size) (k : Kept w w') : Lies w' B o r := by
  unfold Lies at *
  simp only [kept_cell k hB]
  exact h
def set8 (w : World) (G : Nat) (a0 a1 a2 a3 a4 a5 a6 a7 : Value) : World := (((((((w.setCell ⟨G, 0, none⟩ a0).setCell ⟨G, 1, none⟩ a1).setCell ⟨G, 2, none⟩ a2).setCell ⟨G, 3, none⟩ a3).setCell ⟨G, 4, none⟩ a4).setCell ⟨G, 5, none⟩ a5).setCell ⟨G, 6, none⟩ a6).setCell ⟨G, 7, none⟩ a7
theorem at_set8 {w : World} {G T : Nat} {v0 v1 v2 v3 v4 v5 v6 v7 : Value} (h : At w G #[v0, v1, v2, v3, v4, v5, v6, v7] T) (a0 a1 a2 a3 a4 a5 a6 a7 : Value) : At (set8 w G a0 a1 a2 a3 a4 a5 a6 a7) G #[a0, a1, a2, a3, a4, a5, a6, a7] T := by
  have h0 : At (w.setCell ⟨G, 0, none⟩ a0) G #[a0, v1, v2, v3, v4, v5, v6, v7] T := at_set h 0 a0
  have h1 : At ((w.setCell ⟨G, 0, none⟩ a0).setCell ⟨G, 1, none⟩ a1) G #[a0, a1, v2, v3, v4, v5, v6, v7] T := at_set h0 1 a1
  have h2 : At (((w.setCell ⟨G, 0, none⟩ a0).setCell ⟨G, 1, none⟩ a1).setCell ⟨G, 2, none⟩ a2) G #[a0, a1, a2, v3, v4, v5, v6, v7] T := at_set h1 2 a2
  have h3 : At ((((w.setCell ⟨G, 0, none⟩ a0).setCell ⟨G, 1, none⟩ a1).setCell ⟨G, 2, none⟩ a2).setCell ⟨G, 3, none⟩ a3) G #[a0, a1, a2, a3, v4, v5, v6, v7] T := at_set h2 3 a3
  have h4 : At (((((w.setCell ⟨G, 0, none⟩ a0).setCell ⟨G, 1, none⟩ a1).setCell ⟨G, 2, none⟩ a2).setCell ⟨G, 3, none⟩ a3).setCell ⟨G, 4, none⟩ a4) G #[a0, a1, a2, a3, a4, v5, v6, v7] T := at_set h3 4 a4
  have h5 : At ((((((w.setCell ⟨G, 0, none⟩ a0).setCell ⟨G, 1, none⟩ a1).setCell ⟨G, 2, none⟩ a2).setCell ⟨G, 3, none⟩ a3).setCell ⟨G, 4, none⟩ a4).setCell ⟨G, 5, none⟩ a5) G #[a0, a1, a2, a3, a4, a5, v6, v7] T := at_set h4 5 a5
  have h6 : At (((((((w.setCell ⟨G, 0, none⟩ a0).setCell ⟨G, 1, none⟩ a1).setCell ⟨G, 2, none⟩ a2).setCell ⟨G, 3, none⟩ a3).setCell ⟨G, 4, none⟩ a4).setCell ⟨G, 5, none⟩ a5).setCell ⟨G, 6, none⟩ a6) G #[a0, a1, a2, a3, a4, a5, a6, v7] T := at_set h5 6 a6
  exact at_set h6 7 a7
theorem at_other8 {w : World} {G X T : Nat} {cs : Array Value} (h : At w X cs T) (hn : X ≠ G) (a0 a1 a2 a3 a4 a5 a6 a7 : Value) : At (set8 w G a0 a1 a2 a3 a4 a5 a6 a7) X cs T :=
  at_other (at_other (at_other (at_other (at_other (at_other (at_other (at_other h hn 0 a0) hn 1 a1) hn 2 a2) hn 3 a3) hn 4 a4) hn 5 a5) hn 6 a6) hn 7 a7
theorem kept_set8 {W w : World} (h : Kept W w) {G : Nat} (hG : W.heap.size ≤ G) (a0 a1 a2 a3 a4 a5 a6 a7 : Value) : Kept W (set8 w G a0 a1 a2 a3 a4 a5 a6 a7) :=
  kept_set (kept_set (kept_set (kept_set (kept_set (kept_set (kept_set (kept_set h hG 0 a0) hG 1 a1) hG 2 a2) hG 3 a3) hG 4 a4) hG 5 a5) hG 6 a6) hG 7 a7
theorem zero45 (w : World) : (zeroValue 45).run Tryd.prog w = .ok (.agg #[.string ⟨#[]⟩, .int .u64 0, .int .u32 0, .int .u8 0, .int .u8 0, .int .u32 0, .int .u64 0, .string ⟨#[]⟩]) w := by kernel_rfl
theorem load45 {w : World} {X T : Nat} {v0 v1 v2 v3 v4 v5 v6 v7 : Value} (h : At w X #[v0, v1, v2, v3, v4, v5, v6, v7] T) : (loadVar 45 ⟨X, 0, none⟩).run Tryd.prog w = .ok (.agg #[v0, v1, v2, v3, v4, v5, v6, v7]) w := by
  obtain ⟨c0, c1, c2, c3, c4, c5, c6, c7, -⟩ := at_cells8 h
  simp [go_sem, loadVar, c0, c1, c2, c3, c4, c5, c6, c7]
theorem res1 {fn : Func} {p : Tmp} (h : fn.results = #[.cell p 45]) (tmps : Array Value) {w : World} {X T : Nat} {v0 v1 v2 v3 v4 v5 v6 v7 : Value} (hp : tmps.getD p undef = .pointer (some ⟨X, 0, none⟩)) (hA : At w X #[v0, v1, v2, v3, v4, v5, v6, v7] T) :
    (results fn tmps).run Tryd.prog w = .ok (.agg #[v0, v1, v2, v3, v4, v5, v6, v7]) w := by
  obtain ⟨c0, c1, c2, c3, c4, c5, c6, c7, -⟩ := at_cells8 hA
  have hp' : tmps[p]?.getD undef = .pointer (some ⟨X, 0, none⟩) := by simpa using hp
  simp [results, h, go_sem, hp', c0, c1, c2, c3, c4, c5, c6, c7]
theorem res3 {fn : Func} {p u v : Tmp} (h : fn.results = #[.cell p 45, .tmp u, .tmp v]) (tmps : Array Value) {w : World} {X T : Nat} {v0 v1 v2 v3 v4 v5 v6 v7 r s : Value} (hp : tmps.getD p undef = .pointer (some ⟨X, 0, none⟩)) (hu : tmps.getD u undef = r) (hv : tmps.getD v undef = s) (hA : At w X #[v0, v1, v2, v3, v4, v5, v6, v7] T) :
    (results fn tmps).run Tryd.prog w = .ok (.tuple #[.agg #[v0, v1, v2, v3, v4, v5, v6, v7], r, s]) w := by
  obtain ⟨c0, c1, c2, c3, c4, c5, c6, c7, -⟩ := at_cells8 hA
  have hp' : tmps[p]?.getD undef = .pointer (some ⟨X, 0, none⟩) := by simpa using hp
  have hu' : tmps[u]?.getD undef = r := by simpa using hu
  have hv' : tmps[v]?.getD undef = s := by simpa using hv
  simp [results, h, go_sem, hp', hu', hv', c0, c1, c2, c3, c4, c5, c6, c7]
theorem laidOut : laidOutB Tryd.prog = true := by kernel_rfl
theorem readable_of {P : Program} {f : Func} (h : (f.params.toList.all fun t => P.readableRec t && decide (t < P.types.size)) = true) : ∀ t ∈ f.params.toList, P.readableRec t = true ∧ t < P.types.size := by
  intro t ht
  have := List.all_eq_true.1 h t ht
  simpa using this
theorem cells43 : Tryd.prog.cellsOf 43 = 3 := by kernel_rfl
theorem cells45 : Tryd.prog.cellsOf 45 = 8 := by kernel_rfl
theorem cells9 : Tryd.prog.cellsOf 9 = 1 := by kernel_rfl
theorem cells28 : Tryd.prog.cellsOf 28 = 1 := by kernel_rfl
theorem cells41 : Tryd.prog.cellsOf 41 = 1 := by kernel_rfl
theorem cells5 : Tryd.prog.cellsOf 5 = 1 := by kernel_rfl
theorem array8 {α : Type} {cs : Array α} (h : cs.size = 8) : ∃ c0 c1 c2 c3 c4 c5 c6 c7, cs = #[c0, c1, c2, c3, c4, c5, c6, c7] := by
  obtain ⟨l⟩ := cs
  match l, h with
  | [c0, c1, c2, c3, c4, c5, c6, c7], _ => exact ⟨c0, c1, c2, c3, c4, c5, c6, c7, rfl⟩
theorem list6 {α : Type} {l : List α} (h : l.length = 6) : ∃ c0 c1 c2 c3 c4 c5, l = [c0, c1, c2, c3, c4, c5] := by
  match l, h with
  | [c0, c1, c2, c3, c4, c5], _ => exact ⟨c0, c1, c2, c3, c4, c5, rfl⟩
/- A row of cells. -/
def RowC (w : World) (oa : Option Addr) (len b o : Nat) (S : Nat → Value) : Prop :=
  len ≤ maxLen ∧ (0 < len → oa = some ⟨b, o, none⟩ ∧ b < w.heap.size) ∧ ∀ i, i < len → w.cell? ⟨b, o + i, none⟩ = some (S i)
theorem rowc_kept {w w' : World} {oa : Option Addr} {len b o : Nat} {S : Nat → Value} (h : RowC w oa len b o S) (k : Kept w w') : RowC w' oa len b o S :=
  ⟨h.1, fun hl => ⟨(h.2.1 hl).1, Nat.lt_of_lt_of_le (h.2.1 hl).2 k.2⟩, fun i hi => (kept_cell k (h.2.1 (by omega)).2).trans (h.2.2 i hi)⟩
theorem rowc_mk {w : World} (a : Addr) (len : Nat) (hl : len ≤ maxLen) (S : Nat → Value) (hc : ∀ i, i < len → w.cell? (a.add i) = some (S i)) : ∃ b o, RowC w (some a) len b o S := by
  obtain ⟨b, o, spot⟩ := a
  refine ⟨b, o, hl, fun hpos => ?_, fun i hi => ?_⟩
  · have h0 := hc 0 hpos
    have hspot : spot = none := by simpa [Addr.add] using World.cell?_spot h0
    subst hspot
    refine ⟨rfl, ?_⟩
    have : (Addr.add ⟨b, o, none⟩ 0) = ⟨b, o, none⟩ := by simp [Addr.add]
    rw [this] at h0
    exact cell_lt h0
  · have h0 := hc 0 (by omega)
    have hspot : spot = none := by simpa [Addr.add] using World.cell?_spot h0
    subst hspot
    have h1 := hc i hi
    rw [add_plain] at h1
    exact h1
section
variable {H : Type} {enc : TypeId × Value → H} {w : World} {base : Nat} {spare : Nat → Bool} {held : Bool} {r : Reach} {b0 : Nat} {v : Value} {d : DataW H} {p : List MemPlace}
theorem trod_rec {fuel : Nat} {c0 c1 c2 c3 c4 c5 c6 c7 : Value} {x : DataW H × List MemPlace} (h : DataW.trod enc Tryd.prog w base spare held fuel 45 [c0, c1, c2, c3, c4, c5, c6, c7] = some x) :
    ∃ r : R, c0 = .string r.key ∧ c1 = .int .u64 r.s.p ∧ c2 = .int .u32 r.s.l ∧ c3 = .int .u8 r.s.n ∧ c4 = .int .u8 r.kind ∧ c5 = .int .u32 r.flags ∧ c6 = .int .u64 r.exp ∧ c7 = .string r.body ∧ r.ok := by
  obtain ⟨xs, n, rfl, -, -, hlen, hf⟩ := DataW.trod_struct Tryd.underlying45 h
  obtain ⟨y0, y1, y2, y3, y4, y5, rfl⟩ := list6 hlen
  have h0 : DataW.trod enc Tryd.prog w base spare held n 9 [c0] = some y0 := by have := hf 0 _ rfl; simpa [cells9] using this
  have h1 : DataW.trod enc Tryd.prog w base spare held n 43 [c1, c2, c3] = some y1 := by have := hf 1 _ rfl; simpa [cells43] using this
  have h2 : DataW.trod enc Tryd.prog w base spare held n 5 [c4] = some y2 := by have := hf 2 _ rfl; simpa [cells5] using this
  have h3 : DataW.trod enc Tryd.prog w base spare held n 41 [c5] = some y3 := by have := hf 3 _ rfl; simpa [cells41] using this
  have h4 : DataW.trod enc Tryd.prog w base spare held n 28 [c6] = some y4 := by have := hf 4 _ rfl; simpa [cells28] using this
  have h5 : DataW.trod enc Tryd.prog w base spare held n 9 [c7] = some y5 := by have := hf 5 _ rfl; simpa [cells9] using this
  obtain ⟨z0, z1, z2, n3, -, -, s0, s1, s2⟩ := trod_struct3 Tryd.underlying43 h1
  simp only [cells28, cells41, cells5] at s0 s1 s2
  simp at s0 s1 s2
  obtain ⟨k, e0, -, wk⟩ := DataW.trod_string Tryd.underlying9 h0
  obtain ⟨a, e1, -, wa⟩ := DataW.trod_int Tryd.underlying28 s0
  obtain ⟨b, e2, -, wb⟩ := DataW.trod_int Tryd.underlying41 s1
  obtain ⟨c, e3, -, wc⟩ := DataW.trod_int Tryd.underlying5 s2
  obtain ⟨t, e4, -, wt⟩ := DataW.trod_int Tryd.underlying5 h2
  obtain ⟨f, e5, -, wf⟩ := DataW.trod_int Tryd.underlying41 h3
  obtain ⟨g, e6, -, wg⟩ := DataW.trod_int Tryd.underlying28 h4
  obtain ⟨d, e7, -, wd⟩ := DataW.trod_string Tryd.underlying9 h5
  simp at e0 e1 e2 e3 e4 e5 e6 e7
  subst e0 e1 e2 e3 e4 e5 e6 e7
  have q5 := bounds_u32 wf
  obtain ⟨f, rfl⟩ : ∃ u : Nat, f = (u : Int) := ⟨f.toNat, by omega⟩
  exact ⟨⟨k, ⟨a, b, c⟩, t, f, g, d⟩, rfl, rfl, rfl, rfl, rfl, rfl, rfl, rfl, wk, by simp only; omega, wd⟩
/- A row of records: its cells. -/
def Row (w : World) (oa : Option Addr) (len cap b o : Nat) (L : List R) : Prop :=
  L.length = len ∧ len ≤ cap ∧ cap ≤ maxLen ∧ (oa = none → cap = 0) ∧ (0 < len → oa = some ⟨b, o, none⟩ ∧ b < w.heap.size) ∧ ∀ i (h : i < L.length), L[i].ok ∧ Lies w b (o + i * 8) L[i]
theorem row_kept {w w' : World} {oa : Option Addr} {len cap b o : Nat} {L : List R} (h : Row w oa len cap b o L) (k : Kept w w') : Row w' oa len cap b o L := by
  obtain ⟨h0, h1, h2, h3, h4, h5⟩ := h
  refine ⟨h0, h1, h2, h3, fun hl => ⟨(h4 hl).1, Nat.lt_of_lt_of_le (h4 hl).2 k.2⟩, fun i hi => ?_⟩
  have hb := (h4 (by omega)).2
  exact ⟨(h5 i hi).1, lies_kept (h5 i hi).2 hb k⟩
set_option maxRecDepth 100000 in
theorem open_ty22 (hv : Value.okWide Tryd.prog w r b0 22 v) (h : DataW.Trod enc Tryd.prog w base spare held 22 v d p) :
    ∃ (oa : Option Addr) (len cap b o : Nat) (L : List R), v = .slice oa len cap ∧ Row w oa len cap b o L := by
  obtain ⟨a, len, cap, rfl⟩ := okWide_slice Tryd.underlying22 hv
  obtain ⟨n, h⟩ := h
  rcases open_slice Tryd.underlying22 h with ⟨h0, -⟩ | ⟨a', len', cap', m, n', D, Pl, h0, hb, hl, hm, hmm, -, hx⟩
  · simp [Value.cells] at h0
    obtain ⟨rfl, rfl, rfl⟩ := h0
    refine ⟨none, 0, 0, 0, 0, [], rfl, rfl, Nat.le_refl _, by unfold maxLen; omega, fun _ => rfl, fun h => absurd h (by omega), fun i hi => absurd hi (by simp)⟩
  · simp [Value.cells] at h0
    obtain ⟨rfl, rfl, rfl⟩ := h0
    rw [cells45] at hx
    have hlm : len ≤ m := by rw [hmm]; split <;> omega
    have each : ∀ i, i < len → ∃ q : R, q.ok ∧ w.cell? (a'.add (i * 8)) = some (.string q.key) ∧ w.cell? ((a'.add (i * 8)).add 1) = some (.int .u64 q.s.p) ∧ w.cell? ((a'.add (i * 8)).add 2) = some (.int .u32 q.s.l) ∧ w.cell? ((a'.add (i * 8)).add 3) = some (.int .u8 q.s.n) ∧ w.cell? ((a'.add (i * 8)).add 4) = some (.int .u8 q.kind) ∧ w.cell? ((a'.add (i * 8)).add 5) = some (.int .u32 q.flags) ∧ w.cell? ((a'.add (i * 8)).add 6) = some (.int .u64 q.exp) ∧ w.cell? ((a'.add (i * 8)).add 7) = some (.string q.body) := by
      intro i hi
      obtain ⟨cs, hc, ht⟩ := hx i (by omega)
      obtain ⟨_, hlen, hcell⟩ := World.cells?_some hc
      match cs, hlen with
      | [c0, c1, c2, c3, c4, c5, c6, c7], _ =>
        obtain ⟨q, rfl, rfl, rfl, rfl, rfl, rfl, rfl, rfl, ho⟩ := trod_rec ht
        refine ⟨q, ho, ?_, hcell 1 (by omega), hcell 2 (by omega), hcell 3 (by omega), hcell 4 (by omega), hcell 5 (by omega), hcell 6 (by omega), hcell 7 (by omega)⟩
        have := hcell 0 (by omega)
        simpa [Addr.add] using this
    have inh : Inhabited R := ⟨zeroR⟩
    obtain ⟨f, hf⟩ := choose_lt each
    obtain ⟨b, o, spot⟩ := a'
    have hspot : 0 < len → spot = none := fun hpos => by
      have h0 := (hf 0 hpos).2.1
      simpa [Addr.add] using World.cell?_spot h0
    refine ⟨some ⟨b, o, spot⟩, len, cap, b, o, (List.range len).map f, rfl, by simp, hl, hm, (fun h => by cases h), fun hpos => ?_, fun i hi => ?_⟩
    · have h0 := (hf 0 hpos).2.1
      have := hspot hpos
      subst this
      refine ⟨rfl, ?_⟩
      have : (Addr.add ⟨b, o, none⟩ (0 * 8)) = ⟨b, o, none⟩ := by simp [Addr.add]
      rw [this] at h0
      exact cell_lt h0
    · replace hi : i < len := by simpa using hi
      have hpos : 0 < len := by omega
      have := hspot hpos
      subst this
      obtain ⟨g0, g1, g2, g3, g4, g5, g6, g7, g8⟩ := hf i hi
      rw [add_add] at g2 g3 g4 g5 g6 g7 g8
      rw [add_plain] at g1 g2 g3 g4 g5 g6 g7 g8
      simp only [List.getElem_map, List.getElem_range]
      exact ⟨g0, g1, g2, g3, g4, g5, g6, g7, g8⟩
set_option maxRecDepth 100000 in
theorem open_ty23 (hv : Value.okWide Tryd.prog w r b0 23 v) (h : DataW.Trod enc Tryd.prog w base spare held 23 v d p) :
    ∃ (oa : Option Addr) (len cap b o : Nat) (S : Nat → ByteArray), v = .slice oa len cap ∧ RowC w oa len b o (fun i => .string (S i)) ∧ ∀ i, (S i).size ≤ maxLen := by
  obtain ⟨a, len, cap, rfl⟩ := okWide_slice Tryd.underlying23 hv
  obtain ⟨n, h⟩ := h
  rcases open_strings Tryd.underlying23 Tryd.underlying9 (by kernel_rfl) h with ⟨h0, -⟩ | ⟨a', len', cap', ss, h0, hb, hl, hm, hlen, -, hc, hss⟩
  · simp [Value.cells] at h0
    obtain ⟨rfl, rfl, rfl⟩ := h0
    exact ⟨none, 0, 0, 0, 0, fun _ => ⟨#[]⟩, rfl, ⟨by unfold maxLen; omega, fun h => absurd h (by omega), fun i hi => absurd hi (by omega)⟩, fun i => by unfold maxLen; simp [ByteArray.size]⟩
  · simp [Value.cells] at h0
    obtain ⟨rfl, rfl, rfl⟩ := h0
    have hge : len ≤ ss.length := by rw [hlen]; split <;> omega
    obtain ⟨b, o, hr⟩ := rowc_mk a' len (by omega) (fun i => .string (ss.getD i ByteArray.empty)) (fun i hi => hc i (by omega))
    refine ⟨_, _, _, b, o, fun i => ss.getD i ByteArray.empty, rfl, hr, fun i => ?_⟩
    show (ss.getD i ByteArray.empty).size ≤ maxLen
    by_cases hi : i < ss.length
    · have : ss.getD i ByteArray.empty = ss[i] := by simp [List.getD, List.getElem?_eq_getElem hi]
      rw [this]
      exact hss _ (List.getElem_mem hi)
    · have : ss.getD i ByteArray.empty = ByteArray.empty := by simp [List.getD, List.getElem?_eq_none (show ss.length ≤ i by omega)]
      rw [this]
      unfold maxLen
      decide
set_option maxRecDepth 100000 in
theorem open_ty24 (hv : Value.okWide Tryd.prog w r b0 24 v) (h : DataW.Trod enc Tryd.prog w base spare held 24 v d p) :
    ∃ (oa : Option Addr) (len cap b o : Nat) (Z : Nat → Int), v = .slice oa len cap ∧ RowC w oa len b o (fun i => .int .u64 (Z i)) ∧ ∀ i, 0 ≤ Z i ∧ Z i < 18446744073709551616 := by
  obtain ⟨a, len, cap, rfl⟩ := okWide_slice Tryd.underlying24 hv
  obtain ⟨n, h⟩ := h
  rcases open_ints Tryd.underlying24 Tryd.underlying28 (by kernel_rfl) h with ⟨h0, -⟩ | ⟨a', len', cap', zs, h0, hb, hl, hm, hlen, -, hc, hzs⟩
  · simp [Value.cells] at h0
    obtain ⟨rfl, rfl, rfl⟩ := h0
    exact ⟨none, 0, 0, 0, 0, fun _ => 0, rfl, ⟨by unfold maxLen; omega, fun h => absurd h (by omega), fun i hi => absurd hi (by omega)⟩, fun i => ⟨Int.le_refl 0, show (0 : Int) < 18446744073709551616 by omega⟩⟩
  · simp [Value.cells] at h0
    obtain ⟨rfl, rfl, rfl⟩ := h0
    have hge : len ≤ zs.length := by rw [hlen]; split <;> omega
    obtain ⟨b, o, hr⟩ := rowc_mk a' len (by omega) (fun i => .int .u64 (zs.getD i 0)) (fun i hi => hc i (by omega))
    refine ⟨_, _, _, b, o, fun i => zs.getD i 0, rfl, hr, fun i => ?_⟩
    show 0 ≤ zs.getD i 0 ∧ zs.getD i 0 < 18446744073709551616
    by_cases hi : i < zs.length
    · have : zs.getD i 0 = zs[i] := by simp [List.getD, List.getElem?_eq_getElem hi]
      rw [this]
      have := bounds_u64 (hzs _ (List.getElem_mem hi))
      omega
    · have : zs.getD i 0 = 0 := by simp [List.getD, List.getElem?_eq_none (show zs.length ≤ i by omega)]
      rw [this]
      omega
end
theorem add_zero_plain (b j : Nat) : (⟨b, 0, none⟩ : Addr).add j = ⟨b, j, none⟩ := by
  rw [add_plain]; simp
/- A row of records, cell by cell. -/
def cellsL (r : R) : List Value := [.string r.key, .int .u64 r.s.p, .int .u32 r.s.l, .int .u8 r.s.n, .int .u8 r.kind, .int .u32 r.flags, .int .u64 r.exp, .string r.body]
def flat (L : List R) : List Value := L.flatMap cellsL
theorem flat_snoc (L : List R) (r : R) : flat (L ++ [r]) = flat L ++ cellsL r := by simp [flat]
theorem flat_get : ∀ (L : List R) (j i : Nat) (hj : j < L.length), i < 8 → (flat L)[j * 8 + i]? = (cellsL L[j])[i]?
  | r :: L, 0, i, _, hi => by
    show (cellsL r ++ flat L)[0 * 8 + i]? = _
    rw [List.getElem?_append_left (by simp [cellsL]; omega)]
    simp
  | r :: L, j + 1, i, hj, hi => by
    have ih := flat_get L j i (by simpa using hj) hi
    show (cellsL r ++ flat L)[(j + 1) * 8 + i]? = _
    rw [List.getElem?_append_right (by simp [cellsL]; omega)]
    have : (j + 1) * 8 + i - (cellsL r).length = j * 8 + i := by simp [cellsL]; omega
    rw [this, ih]
    simp
theorem own_lies {w : World} {B g cap n : Nat} {L : List R} (h : w.ownsRow B 45 8 (.slice (some ⟨g, 0, none⟩) n cap) n (flat L)) (j : Nat) (hj : j < L.length) : Lies w g (j * 8) L[j] := by
  have hc : ∀ i u, i < 8 → (cellsL L[j])[i]? = some u → w.cell? ⟨g, j * 8 + i, none⟩ = some u := fun i u hi hu => by
    have := h.cells (g := g) rfl (j * 8 + i) u (by rw [flat_get L j i hj hi]; exact hu)
    rwa [add_zero_plain] at this
  exact ⟨hc 0 _ (by omega) rfl, hc 1 _ (by omega) rfl, hc 2 _ (by omega) rfl, hc 3 _ (by omega) rfl, hc 4 _ (by omega) rfl, hc 5 _ (by omega) rfl, hc 6 _ (by omega) rfl, hc 7 _ (by omega) rfl⟩
theorem own_kept {w w' : World} {B e s n : Nat} {v : Value} {xs : List Value} (h : w.ownsRow B e s v n xs) (k : Kept w w') : w'.ownsRow B e s v n xs := by
  refine ⟨h.1, ?_⟩
  rcases h.2 with h0 | ⟨g, cap, cur, h1, h2, h3, h4⟩
  · exact .inl h0
  · exact .inr ⟨g, cap, cur, h1, h2, (kept_block k (Array.getElem?_eq_some_iff.1 h3).1).trans h3, h4⟩
theorem own_other {w : World} {B e s n X : Nat} {v : Value} {xs : List Value} (h : w.ownsRow B e s v n xs) (hX : ∀ g, v.ownBlock = some g → g ≠ X) (o : Nat) (u : Value) : (w.setCell ⟨X, o, none⟩ u).ownsRow B e s v n xs := by
  refine ⟨h.1, ?_⟩
  rcases h.2 with h0 | ⟨g, cap, cur, h1, h2, h3, h4⟩
  · exact .inl h0
  · exact .inr ⟨g, cap, cur, h1, h2, (Below.heap_setCell _ _ _ _ (by show g ≠ X; exact hX g (by rw [h1]; rfl))).trans h3, h4⟩
theorem info45 : (Tryd.prog.info? 45).map (fun i => (i.zero, i.size, i.bytes)) = some (some (.agg #[.string ⟨#[]⟩, .int .u64 0, .int .u32 0, .int .u8 0, .int .u8 0, .int .u32 0, .int .u64 0, .string ⟨#[]⟩]), 8, 64) := by kernel_rfl
theorem rec_new {w : World} {Y : Nat} {r : R} (h : At w Y #[.string r.key, .int .u64 r.s.p, .int .u32 r.s.l, .int .u8 r.s.n, .int .u8 r.kind, .int .u32 r.flags, .int .u64 r.exp, .string r.body] 45) : ∀ j u, (cellsL r)[j]? = some u → w.cell? ((⟨Y, 0, none⟩ : Addr).add j) = some u := by
  intro j u hj
  rw [add_zero_plain, at_cell h j, ← hj]
  show (cellsL r).toArray[j]? = _
  simp
theorem rec_one (r : R) : ∀ u ∈ cellsL r, u.oneCell' = true := by
  intro u hu
  simp only [cellsL, List.mem_cons, List.not_mem_nil, or_false] at hu
  rcases hu with rfl | rfl | rfl | rfl | rfl | rfl | rfl | rfl <;> rfl
end Go.Proofs.YtlbpmehlfihpbaaDoor
