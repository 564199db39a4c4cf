/- The arguments opened: rows of answers of nodes, an answer, rows of nodes; three laws out of what the landed requests must answer. -/
import Derived.Test.YtjmldnbepajnoaaRGOpen
import Derived.Test.YtjmldnbepajnoaaRAkLaw1
import Derived.Test.YtjmldnbepajnoaaRAkLaw2
import Derived.Test.YtjmldnbepajnoaaRAkLaw4
namespace Go.Proofs.YtjmldnbepajnoaaR
open Go.ChangeShapes Go.WideShapes Go.ChangeAt Go.RowKit Go.Joins Go.Deep
set_option linter.unusedVariables false
set_option linter.unusedSimpArgs false
set_option maxRecDepth 100000

theorem laidOut : laidOutB Try.prog = true := by kernel_rfl
theorem cellsSt : Try.prog.cellsOf 30 = 3 := by kernel_rfl
theorem cellsR : Try.prog.cellsOf 32 = 8 := by kernel_rfl
theorem cellsP : Try.prog.cellsOf 34 = 10 := by kernel_rfl
theorem cellsO : Try.prog.cellsOf 36 = 11 := by kernel_rfl
theorem cellsT4 : Try.prog.cellsOf 4 = 1 := by kernel_rfl
theorem cellsT5 : Try.prog.cellsOf 5 = 1 := by kernel_rfl
theorem cellsT9 : Try.prog.cellsOf 9 = 1 := by kernel_rfl
theorem cellsU64 : Try.prog.cellsOf 27 = 1 := by kernel_rfl
theorem cellsU32 : Try.prog.cellsOf 28 = 1 := by kernel_rfl
theorem list6 {α : Type} {l : List α} (h : l.length = 6) : ∃ c0 c1 c2 c3 c4 c5, l = [c0, c1, c2, c3, c4, c5] := by
  match l, h with
  | [c0, c1, c2, c3, c4, c5], _ => exact ⟨c0, c1, c2, c3, c4, c5, rfl⟩
theorem list3 {α : Type} {l : List α} (h : l.length = 3) : ∃ c0 c1 c2, l = [c0, c1, c2] := by
  match l, h with
  | [c0, c1, c2], _ => exact ⟨c0, c1, c2, rfl⟩
theorem list2 {α : Type} {l : List α} (h : l.length = 2) : ∃ c0 c1, l = [c0, c1] := by
  match l, h with
  | [c0, c1], _ => exact ⟨c0, c1, rfl⟩
theorem array10 {α : Type} {cs : Array α} (h : cs.size = 10) : ∃ c0 c1 c2 c3 c4 c5 c6 c7 c8 c9, cs = #[c0, c1, c2, c3, c4, c5, c6, c7, c8, c9] := by
  obtain ⟨l⟩ := cs
  match l, h with
  | [c0, c1, c2, c3, c4, c5, c6, c7, c8, c9], _ => exact ⟨c0, c1, c2, c3, c4, c5, c6, c7, c8, c9, rfl⟩
section
variable {H : Type} {enc : TypeId × Value → H} {w : World} {base : Nat} {spare : Nat → Bool} {held : Bool} {r : Reach} {b0 : Nat} {v : Value} {d : DataW H} {p : List MemPlace}
theorem trod_u8 {fuel : Nat} {cs : List Value} {x : DataW H × List MemPlace} (hl : cs.length = 1) (h : DataW.trod enc Try.prog w base spare held fuel 5 cs = some x) : ∃ a : Int, cs = encU a ∧ 0 ≤ a ∧ a < 256 := by
  obtain ⟨xd, xp⟩ := x
  obtain ⟨a, e0, -, wa⟩ := DataW.trod_int Try.underlying5 h
  have q0 := bounds_u8 wa
  exact ⟨a, e0, by omega, by omega⟩
def encR (r : R) : List Value := [.string r.key, .int .u64 r.s.p, .int .u32 r.s.l, .int .u8 r.s.n, .int .u8 r.kind, .int .u32 r.flags, .int .u64 r.exp, .string r.body]
theorem trod_rec {fuel : Nat} {cs : List Value} {x : DataW H × List MemPlace} (hl : cs.length = 8) (h : DataW.trod enc Try.prog w base spare held fuel 32 cs = some x) : ∃ r : R, cs = encR r ∧ r.ok := by
  match cs, hl with
  | [c0, c1, c2, c3, c4, c5, c6, c7], _ =>
    obtain ⟨xs, n, rfl, -, -, hlen, hf⟩ := DataW.trod_struct Try.underlying32 h
    obtain ⟨y0, y1, y2, y3, y4, y5, rfl⟩ := list6 hlen
    have h0 : DataW.trod enc Try.prog w base spare held n 9 [c0] = some y0 := by have := hf 0 _ rfl; simpa [cellsT9] using this
    have h1 : DataW.trod enc Try.prog w base spare held n 30 [c1, c2, c3] = some y1 := by have := hf 1 _ rfl; simpa [cellsSt] using this
    have h2 : DataW.trod enc Try.prog w base spare held n 5 [c4] = some y2 := by have := hf 2 _ rfl; simpa [cellsT5] using this
    have h3 : DataW.trod enc Try.prog w base spare held n 28 [c5] = some y3 := by have := hf 3 _ rfl; simpa [cellsU32] using this
    have h4 : DataW.trod enc Try.prog w base spare held n 27 [c6] = some y4 := by have := hf 4 _ rfl; simpa [cellsU64] using this
    have h5 : DataW.trod enc Try.prog w base spare held n 9 [c7] = some y5 := by have := hf 5 _ rfl; simpa [cellsT9] using this
    obtain ⟨z0, z1, z2, n3, -, -, s0, s1, s2⟩ := trod_struct3 Try.underlying30 h1
    simp only [cellsU64, cellsU32, cellsT5] at s0 s1 s2
    simp at s0 s1 s2
    obtain ⟨k, e0, -, wk⟩ := DataW.trod_string Try.underlying9 h0
    obtain ⟨a, e1, -, wa⟩ := DataW.trod_int Try.underlying27 s0
    obtain ⟨b, e2, -, wb⟩ := DataW.trod_int Try.underlying28 s1
    obtain ⟨c, e3, -, wc⟩ := DataW.trod_int Try.underlying5 s2
    obtain ⟨t, e4, -, wt⟩ := DataW.trod_int Try.underlying5 h2
    obtain ⟨f, e5, -, wf⟩ := DataW.trod_int Try.underlying28 h3
    obtain ⟨g, e6, -, wg⟩ := DataW.trod_int Try.underlying27 h4
    obtain ⟨d, e7, -, wd⟩ := DataW.trod_string Try.underlying9 h5
    simp at e0 e1 e2 e3 e4 e5 e6 e7
    subst e0 e1 e2 e3 e4 e5 e6 e7
    have q1 := bounds_u64 wa
    have q2 := bounds_u32 wb
    have q3 := bounds_u8 wc
    have q4 := bounds_u8 wt
    have q5 := bounds_u32 wf
    have q6 := bounds_u64 wg
    refine ⟨⟨k, ⟨a, b, c⟩, t, f, g, d⟩, rfl, wk, ?_, ?_, ?_, ?_, wd⟩
    · unfold Stp.ok; simp only; omega
    · simp only; omega
    · simp only; omega
    · simp only; omega
theorem trod_reply {fuel : Nat} {cs : List Value} {x : DataW H × List MemPlace} (hl : cs.length = 10) (h : DataW.trod enc Try.prog w base spare held fuel 34 cs = some x) : ∃ m : Rp, cs = encP m ∧ m.r.ok := by
  match cs, hl with
  | [c0, c1, c2, c3, c4, c5, c6, c7, c8, c9], _ =>
    obtain ⟨xs, n, rfl, -, -, hlen, hf⟩ := DataW.trod_struct Try.underlying34 h
    obtain ⟨y0, y1, y2, rfl⟩ := list3 hlen
    have h0 : DataW.trod enc Try.prog w base spare held n 4 [c0] = some y0 := by have := hf 0 _ rfl; simpa [cellsT4] using this
    have h1 : DataW.trod enc Try.prog w base spare held n 4 [c1] = some y1 := by have := hf 1 _ rfl; simpa [cellsT4] using this
    have h2 : DataW.trod enc Try.prog w base spare held n 32 [c2, c3, c4, c5, c6, c7, c8, c9] = some y2 := by have := hf 2 _ rfl; simpa [cellsR] using this
    obtain ⟨a, e0, -⟩ := DataW.trod_bool Try.underlying4 h0
    obtain ⟨b, e1, -⟩ := DataW.trod_bool Try.underlying4 h1
    obtain ⟨q, e2, hq⟩ := trod_rec rfl h2
    unfold encR at e2
    simp at e0 e1 e2
    obtain ⟨f1, f2, f3, f4, f5, f6, f7, f8⟩ := e2
    subst f1 f2 f3 f4 f5 f6 f7 f8 e0 e1
    exact ⟨⟨a, b, q⟩, rfl, hq⟩
theorem trod_op {fuel : Nat} {cs : List Value} {x : DataW H × List MemPlace} (hl : cs.length = 11) (h : DataW.trod enc Try.prog w base spare held fuel 36 cs = some x) : ∃ m : Opn, cs = encO m ∧ OpOk m := by
  match cs, hl with
  | [c0, c1, c2, c3, c4, c5, c6, c7, c8, c9, c10], _ =>
    obtain ⟨xs, n, rfl, -, -, hlen, hf⟩ := DataW.trod_struct Try.underlying36 h
    obtain ⟨y0, y1, rfl⟩ := list2 hlen
    have h0 : DataW.trod enc Try.prog w base spare held n 5 [c0] = some y0 := by have := hf 0 _ rfl; simpa [cellsT5] using this
    have h1 : DataW.trod enc Try.prog w base spare held n 34 [c1, c2, c3, c4, c5, c6, c7, c8, c9, c10] = some y1 := by have := hf 1 _ rfl; simpa [cellsP] using this
    obtain ⟨a, e0, ha⟩ := trod_u8 rfl h0
    obtain ⟨q, e1, hq⟩ := trod_reply rfl h1
    unfold encP at e1
    unfold encU at e0
    simp at e0 e1
    obtain ⟨f0, f1, f2, f3, f4, f5, f6, f7, f8, f9⟩ := e1
    subst f0 f1 f2 f3 f4 f5 f6 f7 f8 f9 e0
    exact ⟨⟨a, q⟩, rfl, ha, hq⟩
theorem open_ty23 (hv : Value.okWide Try.prog w r b0 23 v) (h : DataW.Trod enc Try.prog w base spare held 23 v d p) : ∃ xs : List Opn, Rg encO 11 w v xs ∧ ∀ o ∈ xs, OpOk o :=
  open_rows (ok := OpOk) encO_ok Try.underlying23 cellsO ⟨0, zeroRp⟩ (fun fuel cs x hl ht => trod_op hl ht) hv h
theorem open_ty22 (hv : Value.okWide Try.prog w r b0 22 v) (h : DataW.Trod enc Try.prog w base spare held 22 v d p) : ∃ xs : List Int, Rg encU 1 w v xs ∧ U8 xs :=
  open_rows (ok := fun x => 0 ≤ x ∧ x < 256) encU_ok Try.underlying22 cellsT5 0 (fun fuel cs x hl ht => trod_u8 hl ht) hv h
theorem open_ty34 (hv : Value.okWide Try.prog w r b0 34 v) (h : DataW.Trod enc Try.prog w base spare held 34 v d p) : ∃ x : Rp, v = .agg #[.bool x.has, .bool x.past, .string x.r.key, .int .u64 x.r.s.p, .int .u32 x.r.s.l, .int .u8 x.r.s.n, .int .u8 x.r.kind, .int .u32 x.r.flags, .int .u64 x.r.exp, .string x.r.body] ∧ x.r.ok := by
  obtain ⟨cs, rfl, hsz⟩ := okWide_struct Try.underlying34 hv
  obtain ⟨c0, c1, c2, c3, c4, c5, c6, c7, c8, c9, rfl⟩ := array10 (hsz.trans cellsP)
  obtain ⟨fuel, hf⟩ := h
  obtain ⟨q, e1, hq⟩ := trod_reply (cs := [c0, c1, c2, c3, c4, c5, c6, c7, c8, c9]) rfl (by simpa [Value.cells] using hf)
  unfold encP at e1
  simp at e1
  obtain ⟨f0, f1, f2, f3, f4, f5, f6, f7, f8, f9⟩ := e1
  subst f0 f1 f2 f3 f4 f5 f6 f7 f8 f9
  exact ⟨q, rfl, hq⟩
end
theorem okU_wf {x : Int} (h : (Lit.int .u8 x).wf = true) : okU x := by have := bounds_u8 h; exact ⟨by omega, by omega⟩
theorem inU64_wf {x : Int} (h : (Lit.int .u64 x).wf = true) : inU64 x := by have := bounds_u64 h; exact ⟨by omega, by omega⟩
theorem any_of {T : Shape Aq} (hT : AskIs T) {v u : Value} (l : List Int) (ops : List Opn) (key : ByteArray) (tu : Int) (w : World) (h : Rg encU 1 w v l) (h8 : U8 l) (h1 : Rg encO 11 w u ops) (hl : ∀ o ∈ ops, OpOk o) (wk : key.size ≤ maxLen) (wt : (Lit.int .u8 tu).wf = true) : Calls Try.prog 3 #[v, u, .string key, .int .u8 tu] w fun e w' => e = .returned (.bool true) ∧ Kept w w' := any_walk hT l ops key tu v u w h8 h hl h1 (okU_wf wt)
theorem once_of {T : Shape Aq} (hT : AskIs T) {v u t : Value} (l : List Int) (ops again : List Opn) (key : ByteArray) (w : World) (h : Rg encU 1 w v l) (h8 : U8 l) (h1 : Rg encO 11 w u ops) (hl1 : ∀ o ∈ ops, OpOk o) (h2 : Rg encO 11 w t again) (hl2 : ∀ o ∈ again, OpOk o) (wk : key.size ≤ maxLen) : Calls Try.prog 4 #[v, u, t, .string key] w fun e w' => e = .returned (.bool true) ∧ Kept w w' := once_walk hT l ops again key v u t w h8 h hl1 h1 hl2 h2
theorem over_of {T : Shape Aq} (hT : AskIs T) {v : Value} (l : List Int) (u now : Int) (x : Rp) (w : World) (h : Rg encU 1 w v l) (h8 : U8 l) (wu : (Lit.int .u64 u).wf = true) (wn : (Lit.int .u64 now).wf = true) (hx : x.r.ok) : Calls Try.prog 5 #[v, .int .u64 u, .int .u64 now, .agg #[.bool x.has, .bool x.past, .string x.r.key, .int .u64 x.r.s.p, .int .u32 x.r.s.l, .int .u8 x.r.s.n, .int .u8 x.r.kind, .int .u32 x.r.flags, .int .u64 x.r.exp, .string x.r.body]] w fun e w' => e = .returned (.bool true) ∧ Kept w w' := over_walk hT l u now x (inU64_wf wu) (inU64_wf wn) hx v w h8 h
end Go.Proofs.YtjmldnbepajnoaaR
