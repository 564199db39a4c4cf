/- The arguments opened: rows of members and of news, a member by value; the six laws out of what the landed code must answer. -/
import Derived.Test.YtdcokccfannfmaaGOpen
import Derived.Test.YtdcokccfannfmaaVwLaw1
import Derived.Test.YtdcokccfannfmaaVwLaw2
import Derived.Test.YtdcokccfannfmaaVwLaw3
import Derived.Test.YtdcokccfannfmaaVwLaw5
namespace Go.Proofs.Ytdcokccfannfmaa
open Go.ChangeShapes Go.WideShapes Go.ChangeAt Go.RowKit Go.Joins Go.Deep
set_option linter.unusedVariables false
set_option linter.unusedSimpArgs false
set_option maxRecDepth 100000

theorem laidOut : laidOutB Try.prog = true := by kernel_rfl
theorem cells5 : Try.prog.cellsOf 5 = 1 := by kernel_rfl
theorem cells31 : Try.prog.cellsOf 31 = 1 := by kernel_rfl
theorem cellsM : Try.prog.cellsOf 33 = 2 := by kernel_rfl
theorem cellsN : Try.prog.cellsOf 42 = 3 := by kernel_rfl
theorem list2 {α : Type} {l : List α} (h : l.length = 2) : ∃ c0 c1, l = [c0, c1] := by
  match l, h with
  | [c0, c1], _ => exact ⟨c0, c1, rfl⟩
theorem array2 {α : Type} {cs : Array α} (h : cs.size = 2) : ∃ c0 c1, cs = #[c0, c1] := by
  obtain ⟨l⟩ := cs
  match l, h with
  | [c0, c1], _ => exact ⟨c0, c1, rfl⟩
section
variable {H : Type} {enc : TypeId × Value → H} {w : World} {base : Nat} {spare : Nat → Bool} {held : Bool} {r : Reach} {b0 : Nat} {v : Value} {d : DataW H} {p : List MemPlace}
theorem trod_mem {fuel : Nat} {cs : List Value} {x : DataW H × List MemPlace} (hl : cs.length = 2) (h : DataW.trod enc Try.prog w base spare held fuel 33 cs = some x) : ∃ m : M, cs = encM m ∧ okM m := by
  match cs, hl with
  | [c0, c1], _ =>
    obtain ⟨xs, n, rfl, -, -, hlen, hf⟩ := DataW.trod_struct Try.underlying33 h
    obtain ⟨y0, y1, rfl⟩ := list2 hlen
    have h0 : DataW.trod enc Try.prog w base spare held n 5 [c0] = some y0 := by have := hf 0 _ rfl; simpa [cells5] using this
    have h1 : DataW.trod enc Try.prog w base spare held n 31 [c1] = some y1 := by have := hf 1 _ rfl; simpa [cells31] using this
    obtain ⟨a, e0, -, wa⟩ := DataW.trod_int Try.underlying5 h0
    obtain ⟨b, e1, -, wb⟩ := DataW.trod_int Try.underlying31 h1
    simp at e0 e1
    subst e0 e1
    have q0 := bounds_u8 wa
    have q1 := bounds_u32 wb
    exact ⟨⟨a, b⟩, rfl, by unfold okM; simp only; omega⟩
theorem trod_news {fuel : Nat} {cs : List Value} {x : DataW H × List MemPlace} (hl : cs.length = 3) (h : DataW.trod enc Try.prog w base spare held fuel 42 cs = some x) : ∃ m : Nw, cs = encN m ∧ okN m := by
  match cs, hl with
  | [c0, c1, c2], _ =>
    obtain ⟨xs, n, rfl, -, -, hlen, hf⟩ := DataW.trod_struct Try.underlying42 h
    obtain ⟨y0, y1, rfl⟩ := list2 hlen
    have h0 : DataW.trod enc Try.prog w base spare held n 5 [c0] = some y0 := by have := hf 0 _ rfl; simpa [cells5] using this
    have h1 : DataW.trod enc Try.prog w base spare held n 33 [c1, c2] = some y1 := by have := hf 1 _ rfl; simpa [cellsM] using this
    obtain ⟨a, e0, -, wa⟩ := DataW.trod_int Try.underlying5 h0
    obtain ⟨m, em, hm⟩ := trod_mem rfl h1
    simp at e0
    subst e0
    have q0 := bounds_u8 wa
    refine ⟨⟨a, m⟩, by unfold encN encM at *; simp_all, ⟨by simp only; omega, by simp only; omega⟩, hm⟩
theorem open_ty22 (hv : Value.okWide Try.prog w r b0 22 v) (h : DataW.Trod enc Try.prog w base spare held 22 v d p) : ∃ xs : List M, Rg encM 2 w v xs ∧ ∀ m ∈ xs, okM m :=
  open_rows (ok := okM) encM_ok Try.underlying22 cellsM ⟨0, 0⟩ (fun fuel cs x hl ht => trod_mem hl ht) hv h
theorem open_ty23 (hv : Value.okWide Try.prog w r b0 23 v) (h : DataW.Trod enc Try.prog w base spare held 23 v d p) : ∃ xs : List Nw, Rg encN 3 w v xs ∧ ∀ m ∈ xs, okN m :=
  open_rows (ok := okN) encN_ok Try.underlying23 cellsN ⟨0, ⟨0, 0⟩⟩ (fun fuel cs x hl ht => trod_news hl ht) hv h
theorem open_ty33 (hv : Value.okWide Try.prog w r b0 33 v) (h : DataW.Trod enc Try.prog w base spare held 33 v d p) : ∃ m : M, v = .agg #[.int .u8 m.st, .int .u32 m.inc] ∧ okM m := by
  obtain ⟨cs, rfl, hsz⟩ := okWide_struct Try.underlying33 hv
  obtain ⟨c0, c1, rfl⟩ := array2 (hsz.trans cellsM)
  obtain ⟨fuel, hf⟩ := h
  obtain ⟨m, em, hm⟩ := trod_mem (cs := [c0, c1]) rfl (by simpa [Value.cells] using hf)
  unfold encM at em
  simp at em
  obtain ⟨rfl, rfl⟩ := em
  exact ⟨m, rfl, hm⟩
end
theorem hears_of (hF : FreshIs) (hH : HearIs) {vv lv : Value} (v : List M) (self : Int) (l : List Nw) (w : World) (h : Rg encM 2 w vv v) (hv : ∀ m ∈ v, okM m) (ws : (Lit.int .u8 self).wf = true) (hn : Rg encN 3 w lv l) (hl : ∀ x ∈ l, okN x) : Calls Try.prog 3 #[vv, .int .u8 self, lv] w fun e w' => e = .returned (.bool true) ∧ Kept w w' :=
  hears_walk hF hH v self l (by have := bounds_u8 ws; omega) (by have := bounds_u8 ws; omega) hv hl vv lv w h hn
theorem tells_of (hNw : NewerIs) (hF : FreshIs) (hH : HearIs) (hU : UpIs) (hA : AllIs) {v : Value} (a b : M) (n : Int) (l : List M) (w : World) (_ : okM a) (_ : okM b) (wn : (Lit.int .i64 n).wf = true) (h : Rg encM 2 w v l) (hl : ∀ m ∈ l, okM m) : Calls Try.prog 4 #[.agg #[.int .u8 a.st, .int .u32 a.inc], .agg #[.int .u8 b.st, .int .u32 b.inc], .int .i64 n, v] w fun e w' => e = .returned (.bool true) ∧ Kept w w' :=
  tells_walk hNw hF hH hU hA a b n wn l hl v w h
theorem newer_of (hF : FreshIs) (hH : HearIs) {vv lv : Value} (v : List M) (self : Int) (l : List Nw) (w : World) (h : Rg encM 2 w vv v) (hv : ∀ m ∈ v, okM m) (ws : (Lit.int .u8 self).wf = true) (hn : Rg encN 3 w lv l) (hl : ∀ x ∈ l, okN x) : Calls Try.prog 5 #[vv, .int .u8 self, lv] w fun e w' => e = .returned (.bool true) ∧ Kept w w' :=
  newer_walk hF hH v self l (by have := bounds_u8 ws; omega) (by have := bounds_u8 ws; omega) hv hl vv lv w h hn
theorem any_of (hF : FreshIs) (hH : HearIs) {vv lv : Value} (v : List M) (self : Int) (l : List Nw) (tu ag : Int) (w : World) (h : Rg encM 2 w vv v) (hv : ∀ m ∈ v, okM m) (ws : (Lit.int .u8 self).wf = true) (hn : Rg encN 3 w lv l) (hl : ∀ x ∈ l, okN x) (wt : (Lit.int .u8 tu).wf = true) (wa : (Lit.int .u8 ag).wf = true) : Calls Try.prog 6 #[vv, .int .u8 self, lv, .int .u8 tu, .int .u8 ag] w fun e w' => e = .returned (.bool true) ∧ Kept w w' :=
  any_walk hF hH v self l tu ag (by have := bounds_u8 ws; omega) (by have := bounds_u8 ws; omega) (by have := bounds_u8 wt; omega) (by have := bounds_u8 wt; omega) (by have := bounds_u8 wa; omega) (by have := bounds_u8 wa; omega) hv hl vv lv w h hn
theorem full_of (hF : FreshIs) (hH : HearIs) (hA : AllIs) {vv uv : Value} (v u : List M) (self : Int) (w : World) (h : Rg encM 2 w vv v) (hv : ∀ m ∈ v, okM m) (hn : Rg encM 2 w uv u) (hu : ∀ m ∈ u, okM m) (ws : (Lit.int .u8 self).wf = true) : Calls Try.prog 7 #[vv, uv, .int .u8 self] w fun e w' => e = .returned (.bool true) ∧ Kept w w' :=
  full_walk hF hH hA v u self (by have := bounds_u8 ws; omega) (by have := bounds_u8 ws; omega) hv hu vv uv w h hn
theorem meet_of (hF : FreshIs) (hH : HearIs) (hA : AllIs) {vv uv : Value} (v u : List M) (x y : Int) (w : World) (h : Rg encM 2 w vv v) (hv : ∀ m ∈ v, okM m) (hn : Rg encM 2 w uv u) (hu : ∀ m ∈ u, okM m) (wx : (Lit.int .u8 x).wf = true) (wy : (Lit.int .u8 y).wf = true) : Calls Try.prog 8 #[vv, uv, .int .u8 x, .int .u8 y] w fun e w' => e = .returned (.bool true) ∧ Kept w w' :=
  meet_walk hF hH hA v u x y (by have := bounds_u8 wx; omega) (by have := bounds_u8 wx; omega) (by have := bounds_u8 wy; omega) (by have := bounds_u8 wy; omega) hv hu vv uv w h hn
end Go.Proofs.Ytdcokccfannfmaa
