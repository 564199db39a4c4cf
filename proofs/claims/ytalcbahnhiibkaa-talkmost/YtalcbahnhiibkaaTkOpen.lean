/- The arguments opened: rows of calls and of news, news by value; the four laws out of what the landed talk must answer. -/
import Derived.Test.YtalcbahnhiibkaaGOpen
import Derived.Test.YtalcbahnhiibkaaTkLaw1
import Derived.Test.YtalcbahnhiibkaaTkLaw3
import Derived.Test.YtalcbahnhiibkaaTkLaw4
namespace Go.Proofs.Ytalcbahnhiibkaa
open Go.ChangeShapes Go.WideShapes Go.ChangeAt Go.RowKit Go.Joins Go.Deep
set_option linter.unusedVariables false
set_option linter.unusedSimpArgs false
set_option maxRecDepth 100000

theorem laidOut : laidOutB Try.prog = true := by kernel_rfl
theorem cellsT4 : Try.prog.cellsOf 4 = 1 := by kernel_rfl
theorem cellsT5 : Try.prog.cellsOf 5 = 1 := by kernel_rfl
theorem cellsU32 : Try.prog.cellsOf 29 = 1 := by kernel_rfl
theorem cellsM : Try.prog.cellsOf 31 = 2 := by kernel_rfl
theorem cellsN : Try.prog.cellsOf 33 = 3 := by kernel_rfl
theorem cellsO : Try.prog.cellsOf 35 = 4 := by kernel_rfl
theorem list2 {α : Type} {l : List α} (h : l.length = 2) : ∃ c0 c1, l = [c0, c1] := by
  match l, h with
  | [c0, c1], _ => exact ⟨c0, c1, rfl⟩
theorem array3 {α : Type} {cs : Array α} (h : cs.size = 3) : ∃ c0 c1 c2, cs = #[c0, c1, c2] := by
  obtain ⟨l⟩ := cs
  match l, h with
  | [c0, c1, c2], _ => exact ⟨c0, c1, c2, rfl⟩
section
variable {H : Type} {enc : TypeId × Value → H} {w : World} {base : Nat} {spare : Nat → Bool} {held : Bool} {r : Reach} {b0 : Nat} {v : Value} {d : DataW H} {p : List MemPlace}
theorem trod_mem {fuel : Nat} {cs : List Value} {x : DataW H × List MemPlace} (hl : cs.length = 2) (h : DataW.trod enc Try.prog w base spare held fuel 31 cs = some x) : ∃ a b : Int, cs = [.int .u8 a, .int .u32 b] ∧ (0 ≤ a ∧ a < 256) ∧ (0 ≤ b ∧ b < 4294967296) := by
  match cs, hl with
  | [c0, c1], _ =>
    obtain ⟨xs, n, rfl, -, -, hlen, hf⟩ := DataW.trod_struct Try.underlying31 h
    obtain ⟨y0, y1, rfl⟩ := list2 hlen
    have h0 : DataW.trod enc Try.prog w base spare held n 5 [c0] = some y0 := by have := hf 0 _ rfl; simpa [cellsT5] using this
    have h1 : DataW.trod enc Try.prog w base spare held n 29 [c1] = some y1 := by have := hf 1 _ rfl; simpa [cellsU32] using this
    obtain ⟨a, e0, -, wa⟩ := DataW.trod_int Try.underlying5 h0
    obtain ⟨b, e1, -, wb⟩ := DataW.trod_int Try.underlying29 h1
    simp at e0 e1
    subst e0 e1
    have q0 := bounds_u8 wa
    have q1 := bounds_u32 wb
    exact ⟨a, b, rfl, by omega, by omega⟩
theorem trod_news {fuel : Nat} {cs : List Value} {x : DataW H × List MemPlace} (hl : cs.length = 3) (h : DataW.trod enc Try.prog w base spare held fuel 33 cs = some x) : ∃ m : Nw, cs = encN m ∧ NwOk m := by
  match cs, hl with
  | [c0, c1, c2], _ =>
    obtain ⟨xs, n, rfl, -, -, hlen, hf⟩ := DataW.trod_struct Try.underlying33 h
    obtain ⟨y0, y1, rfl⟩ := list2 hlen
    have h0 : DataW.trod enc Try.prog w base spare held n 5 [c0] = some y0 := by have := hf 0 _ rfl; simpa [cellsT5] using this
    have h1 : DataW.trod enc Try.prog w base spare held n 31 [c1, c2] = some y1 := by have := hf 1 _ rfl; simpa [cellsM] using this
    obtain ⟨a, e0, -, wa⟩ := DataW.trod_int Try.underlying5 h0
    obtain ⟨b, c, em, hb, hc⟩ := trod_mem rfl h1
    simp at e0 em
    obtain ⟨rfl, rfl⟩ := em
    subst e0
    have q0 := bounds_u8 wa
    exact ⟨⟨a, b, c⟩, rfl, ⟨by show 0 ≤ a; omega, by show a < 256; omega⟩, hb, hc⟩
theorem trod_op {fuel : Nat} {cs : List Value} {x : DataW H × List MemPlace} (hl : cs.length = 4) (h : DataW.trod enc Try.prog w base spare held fuel 35 cs = some x) : ∃ m : Opn, cs = encO m ∧ NwOk m.x := by
  match cs, hl with
  | [c0, c1, c2, c3], _ =>
    obtain ⟨xs, n, rfl, -, -, hlen, hf⟩ := DataW.trod_struct Try.underlying35 h
    obtain ⟨y0, y1, rfl⟩ := list2 hlen
    have h0 : DataW.trod enc Try.prog w base spare held n 4 [c0] = some y0 := by have := hf 0 _ rfl; simpa [cellsT4] using this
    have h1 : DataW.trod enc Try.prog w base spare held n 33 [c1, c2, c3] = some y1 := by have := hf 1 _ rfl; simpa [cellsN] using this
    obtain ⟨a, e0, -⟩ := DataW.trod_bool Try.underlying4 h0
    obtain ⟨m, em, hm⟩ := trod_news rfl h1
    unfold encN at em
    simp at e0 em
    obtain ⟨rfl, rfl, rfl⟩ := em
    subst e0
    exact ⟨⟨a, m⟩, rfl, hm⟩
theorem open_ty22 (hv : Value.okWide Try.prog w r b0 22 v) (h : DataW.Trod enc Try.prog w base spare held 22 v d p) : ∃ xs : List Opn, Rg encO 4 w v xs ∧ ∀ o ∈ xs, NwOk o.x :=
  open_rows (ok := fun o => NwOk o.x) encO_ok Try.underlying22 cellsO ⟨false, ⟨0, 0, 0⟩⟩ (fun fuel cs x hl ht => trod_op hl ht) hv h
theorem open_ty36 (hv : Value.okWide Try.prog w r b0 36 v) (h : DataW.Trod enc Try.prog w base spare held 36 v d p) : ∃ xs : List Nw, Rg encN 3 w v xs ∧ ∀ m ∈ xs, NwOk m :=
  open_rows (ok := NwOk) encN_ok Try.underlying36 cellsN ⟨0, 0, 0⟩ (fun fuel cs x hl ht => trod_news hl ht) hv h
theorem open_ty33 (hv : Value.okWide Try.prog w r b0 33 v) (h : DataW.Trod enc Try.prog w base spare held 33 v d p) : ∃ m : Nw, v = .agg #[.int .u8 m.node, .int .u8 m.st, .int .u32 m.inc] ∧ NwOk m := by
  obtain ⟨cs, rfl, hsz⟩ := okWide_struct Try.underlying33 hv
  obtain ⟨c0, c1, c2, rfl⟩ := array3 (hsz.trans cellsN)
  obtain ⟨fuel, hf⟩ := h
  obtain ⟨m, em, hm⟩ := trod_news (cs := [c0, c1, c2]) rfl (by simpa [Value.cells] using hf)
  unfold encN at em
  simp at em
  obtain ⟨rfl, rfl, rfl⟩ := em
  exact ⟨m, rfl, hm⟩
end
theorem okU_wf {x : Int} (h : (Lit.int .u8 x).wf = true) : okU x := wfU.1 h
theorem plays_of {T : Shape} (hT : TalkIs T) {v : Value} (n k : Int) (l : List Opn) (w : World) (wn : (Lit.int .i64 n).wf = true) (wk : (Lit.int .i64 k).wf = true) (h : Rg encO 4 w v l) (hl : ∀ o ∈ l, NwOk o.x) : Calls Try.prog 3 #[.int .i64 n, .int .i64 k, v] w fun e w' => e = .returned (.bool true) ∧ Kept w w' := by
  by_cases hq : 1 ≤ n ∧ n ≤ 64 ∧ 1 ≤ k ∧ k ≤ 64
  · obtain ⟨n, rfl⟩ := Int.eq_ofNat_of_zero_le (show 0 ≤ n by omega)
    obtain ⟨k, rfl⟩ := Int.eq_ofNat_of_zero_le (show 0 ≤ k by omega)
    exact plays_yes hT n k (by omega) (by omega) (by omega) (by omega) l hl v w h
  · exact plays_no hT n k v w hq
theorem often_of {T : Shape} (hT : TalkIs T) {v : Value} (t m : Int) (l : List Nw) (w : World) (wt : (Lit.int .u8 t).wf = true) (wm : (Lit.int .u8 m).wf = true) (h : Rg encN 3 w v l) (hl : ∀ x ∈ l, NwOk x) : Calls Try.prog 4 #[.int .u8 t, .int .u8 m, v] w fun e w' => e = .returned (.bool true) ∧ Kept w w' := often_walk hT t m (okU_wf wt) (okU_wf wm) l hl v w h
theorem again_of {T : Shape} (hT : TalkIs T) (x y : Nw) (n : Int) (w : World) (hx : NwOk x) (hy : NwOk y) (wn : (Lit.int .u8 n).wf = true) : Calls Try.prog 5 #[.agg #[.int .u8 x.node, .int .u8 x.st, .int .u32 x.inc], .agg #[.int .u8 y.node, .int .u8 y.st, .int .u32 y.inc], .int .u8 n] w fun e w' => e = .returned (.bool true) ∧ Kept w w' := again_walk hT x y n hx hy (okU_wf wn).1 (okU_wf wn).2 w
theorem most_of {T : Shape} (hT : TalkIs T) {v : Value} (t m : Int) (l : List Opn) (w : World) (wt : (Lit.int .u8 t).wf = true) (wm : (Lit.int .u8 m).wf = true) (h : Rg encO 4 w v l) (hl : ∀ o ∈ l, NwOk o.x) : Calls Try.prog 6 #[.int .u8 t, .int .u8 m, v] w fun e w' => e = .returned (.bool true) ∧ Kept w w' := most_walk hT t m (okU_wf wt) (okU_wf wm) l hl v w h
end Go.Proofs.Ytalcbahnhiibkaa
