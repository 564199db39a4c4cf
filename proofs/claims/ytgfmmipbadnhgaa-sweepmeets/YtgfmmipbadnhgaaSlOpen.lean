/- The arguments opened: rows of records, rows of what is seen; the four laws, walked, over the landed code. -/
import Derived.Test.YtgfmmipbadnhgaaSlPull
import Derived.Test.YtgfmmipbadnhgaaGOpen
import Derived.Test.YtgfmmipbadnhgaaSwTells
import Derived.Test.YtgfmmipbadnhgaaSwNothing
import Derived.Test.YtgfmmipbadnhgaaSwMeets
import Derived.Test.YtgfmmipbadnhgaaSwBoth
namespace Go.Proofs.Ytgfmmipbadnhgaa
open Go.ChangeShapes Go.WideShapes Go.ChangeAt Go.RowKit Go.Joins Go.Deep
set_option linter.unusedVariables false
set_option linter.unusedSimpArgs false
set_option maxRecDepth 100000

theorem laidOut : laidOutB Try.prog = true := by kernel_rfl
theorem cells39 : Try.prog.cellsOf 39 = 3 := by kernel_rfl
theorem cellsR : Try.prog.cellsOf 41 = 8 := by kernel_rfl
theorem cellsS : Try.prog.cellsOf 43 = 5 := by kernel_rfl
theorem cells9 : Try.prog.cellsOf 9 = 1 := by kernel_rfl
theorem cells36 : Try.prog.cellsOf 36 = 1 := by kernel_rfl
theorem cells37 : Try.prog.cellsOf 37 = 1 := by kernel_rfl
theorem cells5 : Try.prog.cellsOf 5 = 1 := by kernel_rfl
theorem list6 {α : Type} {l : List α} (h : l.length = 6) : ∃ c0 c1 c2 c3 c4 c5, l = [c0, c1, c2, c3, c4, c5] := by
  match l, h with
  | [c0, c1, c2, c3, c4, c5], _ => exact ⟨c0, c1, c2, c3, c4, c5, rfl⟩
section
variable {H : Type} {enc : TypeId × Value → H} {w : World} {base : Nat} {spare : Nat → Bool} {held : Bool} {r : Reach} {b0 : Nat} {v : Value} {d : DataW H} {p : List MemPlace}
theorem trod_rec {fuel : Nat} {cs : List Value} {x : DataW H × List MemPlace} (hl : cs.length = 8) (h : DataW.trod enc Try.prog w base spare held fuel 41 cs = some x) : ∃ r : R, cs = encR r ∧ True := by
  match cs, hl with
  | [c0, c1, c2, c3, c4, c5, c6, c7], _ =>
    obtain ⟨xs, n, rfl, -, -, hlen, hf⟩ := DataW.trod_struct Try.underlying41 h
    obtain ⟨y0, y1, y2, y3, y4, y5, rfl⟩ := list6 hlen
    have h0 : DataW.trod enc Try.prog w base spare held n 9 [c0] = some y0 := by have := hf 0 _ rfl; simpa [cells9] using this
    have h1 : DataW.trod enc Try.prog w base spare held n 39 [c1, c2, c3] = some y1 := by have := hf 1 _ rfl; simpa [cells39] using this
    have h2 : DataW.trod enc Try.prog w base spare held n 5 [c4] = some y2 := by have := hf 2 _ rfl; simpa [cells5] using this
    have h3 : DataW.trod enc Try.prog w base spare held n 37 [c5] = some y3 := by have := hf 3 _ rfl; simpa [cells37] using this
    have h4 : DataW.trod enc Try.prog w base spare held n 36 [c6] = some y4 := by have := hf 4 _ rfl; simpa [cells36] using this
    have h5 : DataW.trod enc Try.prog w base spare held n 9 [c7] = some y5 := by have := hf 5 _ rfl; simpa [cells9] using this
    obtain ⟨z0, z1, z2, n3, -, -, s0, s1, s2⟩ := trod_struct3 Try.underlying39 h1
    simp only [cells36, cells37, cells5] at s0 s1 s2
    simp at s0 s1 s2
    obtain ⟨k, e0, -, wk⟩ := DataW.trod_string Try.underlying9 h0
    obtain ⟨a, e1, -, wa⟩ := DataW.trod_int Try.underlying36 s0
    obtain ⟨b, e2, -, wb⟩ := DataW.trod_int Try.underlying37 s1
    obtain ⟨c, e3, -, wc⟩ := DataW.trod_int Try.underlying5 s2
    obtain ⟨t, e4, -, wt⟩ := DataW.trod_int Try.underlying5 h2
    obtain ⟨f, e5, -, wf⟩ := DataW.trod_int Try.underlying37 h3
    obtain ⟨g, e6, -, wg⟩ := DataW.trod_int Try.underlying36 h4
    obtain ⟨d, e7, -, wd⟩ := DataW.trod_string Try.underlying9 h5
    simp at e0 e1 e2 e3 e4 e5 e6 e7
    subst e0 e1 e2 e3 e4 e5 e6 e7
    exact ⟨⟨k, ⟨a, b, c⟩, t, f, g, d⟩, rfl, trivial⟩
theorem trod_seen {fuel : Nat} {cs : List Value} {x : DataW H × List MemPlace} (hl : cs.length = 5) (h : DataW.trod enc Try.prog w base spare held fuel 43 cs = some x) : ∃ s : Sn, cs = encS s ∧ True := by
  match cs, hl with
  | [c0, c1, c2, c3, c4], _ =>
    obtain ⟨z0, z1, z2, n3, -, -, s0, s1, s2⟩ := trod_struct3 Try.underlying43 h
    simp only [cells9, cells39, cells5] at s0 s1 s2
    simp at s0 s1 s2
    obtain ⟨y0, y1, y2, n4, -, -, r0, r1, r2⟩ := trod_struct3 Try.underlying39 s1
    simp only [cells36, cells37, cells5] at r0 r1 r2
    simp at r0 r1 r2
    obtain ⟨k, e0, -, wk⟩ := DataW.trod_string Try.underlying9 s0
    obtain ⟨a, e1, -, wa⟩ := DataW.trod_int Try.underlying36 r0
    obtain ⟨b, e2, -, wb⟩ := DataW.trod_int Try.underlying37 r1
    obtain ⟨c, e3, -, wc⟩ := DataW.trod_int Try.underlying5 r2
    obtain ⟨t, e4, -, wt⟩ := DataW.trod_int Try.underlying5 s2
    simp at e0 e1 e2 e3 e4
    subst e0 e1 e2 e3 e4
    exact ⟨⟨k, ⟨a, b, c⟩, t⟩, rfl, trivial⟩
theorem open_ty22 (hv : Value.okWide Try.prog w r b0 22 v) (h : DataW.Trod enc Try.prog w base spare held 22 v d p) : ∃ xs : List R, Rg encR 8 w v xs := by
  obtain ⟨xs, h1, _⟩ := open_rows (ok := fun _ => True) encR_ok Try.underlying22 cellsR zeroR (fun fuel cs x hl ht => trod_rec hl ht) hv h
  exact ⟨xs, h1⟩
theorem open_ty23 (hv : Value.okWide Try.prog w r b0 23 v) (h : DataW.Trod enc Try.prog w base spare held 23 v d p) : ∃ xs : List Sn, Rg encS 5 w v xs := by
  obtain ⟨xs, h1, _⟩ := open_rows (ok := fun _ => True) encS_ok Try.underlying23 cellsS zS (fun fuel cs x hl ht => trod_seen hl ht) hv h
  exact ⟨xs, h1⟩
end
theorem tells_all {v u : Value} (l : List R) (t : List Sn) (w : World) (h : Rg encR 8 w v l) (hu : Rg encS 5 w u t) : Calls Try.prog 3 #[v, u] w fun e w' => e = .returned (.bool true) ∧ Kept w w' := tells_walk sum_is push_is pull_is l t v u w h hu
theorem nothing_all {v u : Value} (l : List R) (t : List Sn) (w : World) (h : Rg encR 8 w v l) (hu : Rg encS 5 w u t) : Calls Try.prog 6 #[v, u] w fun e w' => e = .returned (.bool true) ∧ Kept w w' := nothing_walk sum_is push_is pull_is l t v u w h hu
theorem meets_all {v u : Value} (l : List R) (t : List R) (w : World) (h : Rg encR 8 w v l) (hu : Rg encR 8 w u t) : Calls Try.prog 5 #[v, u] w fun e w' => e = .returned (.bool true) ∧ Kept w w' := meets_walk sum_is push_is pull_is l t v u w h hu
theorem both_all {v u : Value} (l : List R) (t : List R) (w : World) (h : Rg encR 8 w v l) (hu : Rg encR 8 w u t) : Calls Try.prog 4 #[v, u] w fun e w' => e = .returned (.bool true) ∧ Kept w w' := both_walk sum_is push_is pull_is l t v u w h hu
end Go.Proofs.Ytgfmmipbadnhgaa
