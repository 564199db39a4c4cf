/- The arguments opened: rows of calls with a record and a row of nodes in them, records, rows of nodes; four laws out of what the landed hints must answer. -/
import Derived.Test.YtahgplfkgijecaaGOpenIn
import Derived.Test.YtahgplfkgijecaaHtLaw4
import Derived.Test.YtahgplfkgijecaaHtLaw2
namespace Go.Proofs.Ytahgplfkgijecaa
open Go.ChangeShapes Go.WideShapes Go.ChangeAt Go.RowKit Go.Joins Go.Deep
set_option linter.unusedVariables false
set_option linter.unusedSimpArgs false
set_option maxRecDepth 100000

theorem laidOut : laidOutB Try.prog = true := by kernel_rfl
theorem cellsSt : Try.prog.cellsOf 33 = 3 := by kernel_rfl
theorem cellsR : Try.prog.cellsOf 35 = 8 := by kernel_rfl
theorem cellsO : Try.prog.cellsOf 38 = 11 := by kernel_rfl
theorem cellsT3 : Try.prog.cellsOf 3 = 1 := by kernel_rfl
theorem cellsT5 : Try.prog.cellsOf 5 = 1 := by kernel_rfl
theorem cellsT9 : Try.prog.cellsOf 9 = 1 := by kernel_rfl
theorem cellsU64 : Try.prog.cellsOf 30 = 1 := by kernel_rfl
theorem cellsU32 : Try.prog.cellsOf 31 = 1 := by kernel_rfl
theorem cellsU8S : Try.prog.cellsOf 36 = 1 := by kernel_rfl
theorem list6 {α : Type} {l : List α} (h : l.length = 6) : ∃ c0 c1 c2 c3 c4 c5, l = [c0, c1, c2, c3, c4, c5] := by
  match l, h with
  | [c0, c1, c2, c3, c4, c5], _ => exact ⟨c0, c1, c2, c3, c4, c5, rfl⟩
theorem list4 {α : Type} {l : List α} (h : l.length = 4) : ∃ c0 c1 c2 c3, l = [c0, c1, c2, c3] := by
  match l, h with
  | [c0, c1, c2, c3], _ => exact ⟨c0, c1, c2, c3, rfl⟩
theorem array8 {α : Type} {cs : Array α} (h : cs.size = 8) : ∃ c0 c1 c2 c3 c4 c5 c6 c7, cs = #[c0, c1, c2, c3, c4, c5, c6, c7] := by
  obtain ⟨l⟩ := cs
  match l, h with
  | [c0, c1, c2, c3, c4, c5, c6, c7], _ => exact ⟨c0, c1, c2, c3, c4, c5, c6, c7, rfl⟩
section
variable {H : Type} {enc : TypeId × Value → H} {w : World} {base : Nat} {spare : Nat → Bool} {held : Bool} {r : Reach} {b0 : Nat} {v : Value} {d : DataW H} {p : List MemPlace}
theorem trod_u8 {fuel : Nat} {cs : List Value} {x : DataW H × List MemPlace} (hl : cs.length = 1) (h : DataW.trod enc Try.prog w base spare held fuel 5 cs = some x) : ∃ a : Int, cs = encU a ∧ 0 ≤ a ∧ a < 256 := by
  obtain ⟨xd, xp⟩ := x
  obtain ⟨a, e0, -, wa⟩ := DataW.trod_int Try.underlying5 h
  have q0 := bounds_u8 wa
  exact ⟨a, e0, by omega, by omega⟩
theorem trod_rec {fuel : Nat} {cs : List Value} {x : DataW H × List MemPlace} (hl : cs.length = 8) (h : DataW.trod enc Try.prog w base spare held fuel 35 cs = some x) : ∃ r : R, cs = encR r ∧ r.ok := by
  match cs, hl with
  | [c0, c1, c2, c3, c4, c5, c6, c7], _ =>
    obtain ⟨xs, n, rfl, -, -, hlen, hf⟩ := DataW.trod_struct Try.underlying35 h
    obtain ⟨y0, y1, y2, y3, y4, y5, rfl⟩ := list6 hlen
    have h0 : DataW.trod enc Try.prog w base spare held n 9 [c0] = some y0 := by have := hf 0 _ rfl; simpa [cellsT9] using this
    have h1 : DataW.trod enc Try.prog w base spare held n 33 [c1, c2, c3] = some y1 := by have := hf 1 _ rfl; simpa [cellsSt] using this
    have h2 : DataW.trod enc Try.prog w base spare held n 5 [c4] = some y2 := by have := hf 2 _ rfl; simpa [cellsT5] using this
    have h3 : DataW.trod enc Try.prog w base spare held n 31 [c5] = some y3 := by have := hf 3 _ rfl; simpa [cellsU32] using this
    have h4 : DataW.trod enc Try.prog w base spare held n 30 [c6] = some y4 := by have := hf 4 _ rfl; simpa [cellsU64] using this
    have h5 : DataW.trod enc Try.prog w base spare held n 9 [c7] = some y5 := by have := hf 5 _ rfl; simpa [cellsT9] using this
    obtain ⟨z0, z1, z2, n3, -, -, s0, s1, s2⟩ := trod_struct3 Try.underlying33 h1
    simp only [cellsU64, cellsU32, cellsT5] at s0 s1 s2
    simp at s0 s1 s2
    obtain ⟨k, e0, -, wk⟩ := DataW.trod_string Try.underlying9 h0
    obtain ⟨a, e1, -, wa⟩ := DataW.trod_int Try.underlying30 s0
    obtain ⟨b, e2, -, wb⟩ := DataW.trod_int Try.underlying31 s1
    obtain ⟨c, e3, -, wc⟩ := DataW.trod_int Try.underlying5 s2
    obtain ⟨t, e4, -, wt⟩ := DataW.trod_int Try.underlying5 h2
    obtain ⟨f, e5, -, wf⟩ := DataW.trod_int Try.underlying31 h3
    obtain ⟨g, e6, -, wg⟩ := DataW.trod_int Try.underlying30 h4
    obtain ⟨d, e7, -, wd⟩ := DataW.trod_string Try.underlying9 h5
    simp at e0 e1 e2 e3 e4 e5 e6 e7
    subst e0 e1 e2 e3 e4 e5 e6 e7
    have q1 := bounds_u64 wa
    have q2 := bounds_u32 wb
    have q3 := bounds_u8 wc
    have q4 := bounds_u8 wt
    have q5 := bounds_u32 wf
    have q6 := bounds_u64 wg
    refine ⟨⟨k, ⟨a, b, c⟩, t, f, g, d⟩, rfl, wk, ?_, ?_, ?_, ?_, wd⟩
    · unfold Stp.ok; simp only; omega
    · simp only; omega
    · simp only; omega
    · simp only; omega
theorem trod_op {fuel : Nat} {cs : List Value} {x : DataW H × List MemPlace} (hl : cs.length = 11) (h : DataW.trod enc Try.prog w base spare held fuel 38 cs = some x) : ∃ m : Opn, cs = encO m ∧ OpOk w m := by
  match cs, hl with
  | [c0, c1, c2, c3, c4, c5, c6, c7, c8, c9, c10], _ =>
    obtain ⟨xs, n, rfl, -, -, hlen, hf⟩ := DataW.trod_struct Try.underlying38 h
    obtain ⟨y0, y1, y2, y3, rfl⟩ := list4 hlen
    have h0 : DataW.trod enc Try.prog w base spare held n 3 [c0] = some y0 := by have := hf 0 _ rfl; simpa [cellsT3] using this
    have h1 : DataW.trod enc Try.prog w base spare held n 35 [c1, c2, c3, c4, c5, c6, c7, c8] = some y1 := by have := hf 1 _ rfl; simpa [cellsR] using this
    have h2 : DataW.trod enc Try.prog w base spare held n 5 [c9] = some y2 := by have := hf 2 _ rfl; simpa [cellsT5] using this
    have h3 : DataW.trod enc Try.prog w base spare held n 36 [c10] = some y3 := by have := hf 3 _ rfl; simpa [cellsU8S] using this
    obtain ⟨a, e0, -, wa⟩ := DataW.trod_int Try.underlying3 h0
    obtain ⟨q, e1, hq⟩ := trod_rec rfl h1
    obtain ⟨c, e2, hc⟩ := trod_u8 rfl h2
    obtain ⟨l, av, cap, e3, hr, ho⟩ := open_rows_in (ok := fun q => 0 ≤ q ∧ q < 256) encU_ok Try.underlying36 cellsT5 0 (fun fuel cs x hl ht => trod_u8 hl ht) h3
    unfold encR at e1
    unfold encU at e2
    simp at e0 e1 e2
    obtain ⟨f1, f2, f3, f4, f5, f6, f7, f8⟩ := e1
    subst e0 f1 f2 f3 f4 f5 f6 f7 f8 e2 e3
    exact ⟨⟨a, q, c, av, cap, l⟩, rfl, hq, hc, ho, hr⟩
theorem open_ty22 (hv : Value.okWide Try.prog w r b0 22 v) (h : DataW.Trod enc Try.prog w base spare held 22 v d p) : ∃ xs : List Opn, Rg encO 11 w v xs ∧ ∀ o ∈ xs, OpOk w o :=
  open_rows (ok := OpOk w) encO_ok Try.underlying22 cellsO ⟨0, zeroR, 0, none, 0, []⟩ (fun fuel cs x hl ht => trod_op hl ht) hv h
theorem open_ty36 (hv : Value.okWide Try.prog w r b0 36 v) (h : DataW.Trod enc Try.prog w base spare held 36 v d p) : ∃ xs : List Int, Rg encU 1 w v xs ∧ ∀ x ∈ xs, 0 ≤ x ∧ x < 256 :=
  open_rows (ok := fun x => 0 ≤ x ∧ x < 256) encU_ok Try.underlying36 cellsT5 0 (fun fuel cs x hl ht => trod_u8 hl ht) hv h
theorem open_ty35 (hv : Value.okWide Try.prog w r b0 35 v) (h : DataW.Trod enc Try.prog w base spare held 35 v d p) : ∃ r : R, v = .agg #[.string r.key, .int .u64 r.s.p, .int .u32 r.s.l, .int .u8 r.s.n, .int .u8 r.kind, .int .u32 r.flags, .int .u64 r.exp, .string r.body] ∧ r.ok := by
  obtain ⟨cs, rfl, hsz⟩ := okWide_struct Try.underlying35 hv
  obtain ⟨c0, c1, c2, c3, c4, c5, c6, c7, rfl⟩ := array8 (hsz.trans cellsR)
  obtain ⟨fuel, hf⟩ := h
  obtain ⟨q, e1, hq⟩ := trod_rec (cs := [c0, c1, c2, c3, c4, c5, c6, c7]) rfl (by simpa [Value.cells] using hf)
  unfold encR at e1
  simp at e1
  obtain ⟨f1, f2, f3, f4, f5, f6, f7, f8⟩ := e1
  subst f1 f2 f3 f4 f5 f6 f7 f8
  exact ⟨q, rfl, hq⟩
end
theorem okU_wf {x : Int} (h : (Lit.int .u8 x).wf = true) : okU x := by have := bounds_u8 h; exact ⟨by omega, by omega⟩
theorem hkept_of {T : Shape Hs} (hT : HintsIs T) {v : Value} (r : R) (l : List Opn) (w : World) (hr : r.ok) (h : Rg encO 11 w v l) (hl : ∀ o ∈ l, OpOk w o) : Calls Try.prog 4 #[.agg #[.string r.key, .int .u64 r.s.p, .int .u32 r.s.l, .int .u8 r.s.n, .int .u8 r.kind, .int .u32 r.flags, .int .u64 r.exp, .string r.body], v] w fun e w' => e = .returned (.bool true) ∧ Kept w w' := kept_walk hT r hr l v w hl h
theorem bounded_of {T : Shape Hs} (hT : HintsIs T) {v : Value} (n : Int) (l : List Opn) (w : World) (wn : (Lit.int .u8 n).wf = true) (h : Rg encO 11 w v l) (hl : ∀ o ∈ l, OpOk w o) : Calls Try.prog 5 #[.int .u8 n, v] w fun e w' => e = .returned (.bool true) ∧ Kept w w' := bounded_walk hT n (okU_wf wn) l v w hl h
theorem nil_of {T : Shape Hs} (hT : HintsIs T) {v : Value} (r : R) (node : Int) (l : List Int) (w : World) (hr : r.ok) (wn : (Lit.int .u8 node).wf = true) (h : Rg encU 1 w v l) : Calls Try.prog 6 #[.agg #[.string r.key, .int .u64 r.s.p, .int .u32 r.s.l, .int .u8 r.s.n, .int .u8 r.kind, .int .u32 r.flags, .int .u64 r.exp, .string r.body], .int .u8 node, v] w fun e w' => e = .returned (.bool true) ∧ Kept w w' := nil_walk hT r hr node (okU_wf wn) l v w h
theorem told_of {T : Shape Hs} (hT : HintsIs T) {v u : Value} (l : List Opn) (up : List Int) (w : World) (h : Rg encO 11 w v l) (hl : ∀ o ∈ l, OpOk w o) (hu : Rg encU 1 w u up) (hn : ∀ x ∈ up, 0 ≤ x ∧ x < 256) : Calls Try.prog 7 #[v, u] w fun e w' => e = .returned (.bool true) ∧ Kept w w' := told_walk hT l v up hn u w hl h hu
end Go.Proofs.Ytahgplfkgijecaa
