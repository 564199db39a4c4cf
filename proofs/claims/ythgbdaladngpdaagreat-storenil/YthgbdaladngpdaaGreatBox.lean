/- Records in memory: eight cells; a record stored whole; a record as a result. No condition. -/
import Derived.Test.YthgbdaladngpdaaGreatCompare
namespace Go.Proofs.YthgbdaladngpdaaGreat
open Go.ChangeShapes Go.WideShapes Go.ChangeAt Go.RowKit
set_option linter.unusedVariables false
set_option maxRecDepth 100000
set_option linter.unusedSimpArgs false


def set8 (w : World) (G : Nat) (a0 a1 a2 a3 a4 a5 a6 a7 : Value) : World := (((((((w.setCell ⟨G, 0, none⟩ a0).setCell ⟨G, 1, none⟩ a1).setCell ⟨G, 2, none⟩ a2).setCell ⟨G, 3, none⟩ a3).setCell ⟨G, 4, none⟩ a4).setCell ⟨G, 5, none⟩ a5).setCell ⟨G, 6, none⟩ a6).setCell ⟨G, 7, none⟩ a7
theorem at_set8 {w : World} {G T : Nat} {v0 v1 v2 v3 v4 v5 v6 v7 : Value} (h : At w G #[v0, v1, v2, v3, v4, v5, v6, v7] T) (a0 a1 a2 a3 a4 a5 a6 a7 : Value) : At (set8 w G a0 a1 a2 a3 a4 a5 a6 a7) G #[a0, a1, a2, a3, a4, a5, a6, a7] T := by
  have h0 : At (w.setCell ⟨G, 0, none⟩ a0) G #[a0, v1, v2, v3, v4, v5, v6, v7] T := at_set h 0 a0
  have h1 : At ((w.setCell ⟨G, 0, none⟩ a0).setCell ⟨G, 1, none⟩ a1) G #[a0, a1, v2, v3, v4, v5, v6, v7] T := at_set h0 1 a1
  have h2 : At (((w.setCell ⟨G, 0, none⟩ a0).setCell ⟨G, 1, none⟩ a1).setCell ⟨G, 2, none⟩ a2) G #[a0, a1, a2, v3, v4, v5, v6, v7] T := at_set h1 2 a2
  have h3 : At ((((w.setCell ⟨G, 0, none⟩ a0).setCell ⟨G, 1, none⟩ a1).setCell ⟨G, 2, none⟩ a2).setCell ⟨G, 3, none⟩ a3) G #[a0, a1, a2, a3, v4, v5, v6, v7] T := at_set h2 3 a3
  have h4 : At (((((w.setCell ⟨G, 0, none⟩ a0).setCell ⟨G, 1, none⟩ a1).setCell ⟨G, 2, none⟩ a2).setCell ⟨G, 3, none⟩ a3).setCell ⟨G, 4, none⟩ a4) G #[a0, a1, a2, a3, a4, v5, v6, v7] T := at_set h3 4 a4
  have h5 : At ((((((w.setCell ⟨G, 0, none⟩ a0).setCell ⟨G, 1, none⟩ a1).setCell ⟨G, 2, none⟩ a2).setCell ⟨G, 3, none⟩ a3).setCell ⟨G, 4, none⟩ a4).setCell ⟨G, 5, none⟩ a5) G #[a0, a1, a2, a3, a4, a5, v6, v7] T := at_set h4 5 a5
  have h6 : At (((((((w.setCell ⟨G, 0, none⟩ a0).setCell ⟨G, 1, none⟩ a1).setCell ⟨G, 2, none⟩ a2).setCell ⟨G, 3, none⟩ a3).setCell ⟨G, 4, none⟩ a4).setCell ⟨G, 5, none⟩ a5).setCell ⟨G, 6, none⟩ a6) G #[a0, a1, a2, a3, a4, a5, a6, v7] T := at_set h5 6 a6
  exact at_set h6 7 a7
theorem at_other8 {w : World} {G X T : Nat} {cs : Array Value} (h : At w X cs T) (hn : X ≠ G) (a0 a1 a2 a3 a4 a5 a6 a7 : Value) : At (set8 w G a0 a1 a2 a3 a4 a5 a6 a7) X cs T :=
  at_other (at_other (at_other (at_other (at_other (at_other (at_other (at_other h hn 0 a0) hn 1 a1) hn 2 a2) hn 3 a3) hn 4 a4) hn 5 a5) hn 6 a6) hn 7 a7
theorem kept_set8 {W w : World} (h : Kept W w) {G : Nat} (hG : W.heap.size ≤ G) (a0 a1 a2 a3 a4 a5 a6 a7 : Value) : Kept W (set8 w G a0 a1 a2 a3 a4 a5 a6 a7) :=
  kept_set (kept_set (kept_set (kept_set (kept_set (kept_set (kept_set (kept_set h hG 0 a0) hG 1 a1) hG 2 a2) hG 3 a3) hG 4 a4) hG 5 a5) hG 6 a6) hG 7 a7
/- What is stored is what was there. -/

theorem zero27 (w : World) : (zeroValue 42).run Tryz.prog w = .ok (.agg #[.string ⟨#[]⟩, .int .u64 0, .int .u32 0, .int .u8 0, .int .u8 0, .int .u32 0, .int .u64 0, .string ⟨#[]⟩]) w := by kernel_rfl
theorem load27 {w : World} {X T : Nat} {v0 v1 v2 v3 v4 v5 v6 v7 : Value} (h : At w X #[v0, v1, v2, v3, v4, v5, v6, v7] T) : (loadVar 42 ⟨X, 0, none⟩).run Tryz.prog w = .ok (.agg #[v0, v1, v2, v3, v4, v5, v6, v7]) w := by
  obtain ⟨c0, c1, c2, c3, c4, c5, c6, c7, -⟩ := at_cells8 h
  simp [go_sem, loadVar, c0, c1, c2, c3, c4, c5, c6, c7]
theorem res1 {fn : Func} {p : Tmp} (h : fn.results = #[.cell p 42]) (tmps : Array Value) {w : World} {X T : Nat} {v0 v1 v2 v3 v4 v5 v6 v7 : Value} (hp : tmps.getD p undef = .pointer (some ⟨X, 0, none⟩)) (hA : At w X #[v0, v1, v2, v3, v4, v5, v6, v7] T) :
    (results fn tmps).run Tryz.prog w = .ok (.agg #[v0, v1, v2, v3, v4, v5, v6, v7]) w := by
  obtain ⟨c0, c1, c2, c3, c4, c5, c6, c7, -⟩ := at_cells8 hA
  have hp' : tmps[p]?.getD undef = .pointer (some ⟨X, 0, none⟩) := by simpa using hp
  simp [results, h, go_sem, hp', c0, c1, c2, c3, c4, c5, c6, c7]
theorem res3 {fn : Func} {p u v : Tmp} (h : fn.results = #[.cell p 42, .tmp u, .tmp v]) (tmps : Array Value) {w : World} {X T : Nat} {v0 v1 v2 v3 v4 v5 v6 v7 r s : Value} (hp : tmps.getD p undef = .pointer (some ⟨X, 0, none⟩)) (hu : tmps.getD u undef = r) (hv : tmps.getD v undef = s) (hA : At w X #[v0, v1, v2, v3, v4, v5, v6, v7] T) :
    (results fn tmps).run Tryz.prog w = .ok (.tuple #[.agg #[v0, v1, v2, v3, v4, v5, v6, v7], r, s]) w := by
  obtain ⟨c0, c1, c2, c3, c4, c5, c6, c7, -⟩ := at_cells8 hA
  have hp' : tmps[p]?.getD undef = .pointer (some ⟨X, 0, none⟩) := by simpa using hp
  have hu' : tmps[u]?.getD undef = r := by simpa using hu
  have hv' : tmps[v]?.getD undef = s := by simpa using hv
  simp [results, h, go_sem, hp', hu', hv', c0, c1, c2, c3, c4, c5, c6, c7]
end Go.Proofs.YthgbdaladngpdaaGreat
