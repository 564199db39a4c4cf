/- The arguments opened: rows of calls with rows of helpers in them, of draws, of calls of doubts; the five laws out of what the landed probe and doubts must answer. -/
import Derived.Test.YtgmcjnhijgnadaaGOpenIn
import Derived.Test.YtgmcjnhijgnadaaPrLaw1
import Derived.Test.YtgmcjnhijgnadaaPrLaw2
import Derived.Test.YtgmcjnhijgnadaaPrLaw5
namespace Go.Proofs.Ytgmcjnhijgnadaa
open Go.ChangeShapes Go.WideShapes Go.ChangeAt Go.RowKit Go.Joins Go.Deep
set_option linter.unusedVariables false
set_option linter.unusedSimpArgs false
set_option maxRecDepth 100000

theorem laidOut : laidOutB Try.prog = true := by kernel_rfl
theorem cellsT3 : Try.prog.cellsOf 3 = 1 := by kernel_rfl
theorem cellsT5 : Try.prog.cellsOf 5 = 1 := by kernel_rfl
theorem cellsU32 : Try.prog.cellsOf 62 = 1 := by kernel_rfl
theorem cellsU64 : Try.prog.cellsOf 34 = 1 := by kernel_rfl
theorem cellsU8S : Try.prog.cellsOf 27 = 1 := by kernel_rfl
theorem cellsO : Try.prog.cellsOf 36 = 4 := by kernel_rfl
theorem cellsD : Try.prog.cellsOf 64 = 4 := by kernel_rfl
theorem list4 {α : Type} {l : List α} (h : l.length = 4) : ∃ c0 c1 c2 c3, l = [c0, c1, c2, c3] := by
  match l, h with
  | [c0, c1, c2, c3], _ => exact ⟨c0, c1, c2, c3, rfl⟩
section
variable {H : Type} {enc : TypeId × Value → H} {w : World} {base : Nat} {spare : Nat → Bool} {held : Bool} {r : Reach} {b0 : Nat} {v : Value} {d : DataW H} {p : List MemPlace}
theorem trod_u8 {fuel : Nat} {cs : List Value} {x : DataW H × List MemPlace} (hl : cs.length = 1) (h : DataW.trod enc Try.prog w base spare held fuel 5 cs = some x) : ∃ a : Int, cs = encU a ∧ 0 ≤ a ∧ a < 256 := by
  obtain ⟨xd, xp⟩ := x
  obtain ⟨a, e0, -, wa⟩ := DataW.trod_int Try.underlying5 h
  have q0 := bounds_u8 wa
  exact ⟨a, e0, by omega, by omega⟩
theorem trod_u64 {fuel : Nat} {cs : List Value} {x : DataW H × List MemPlace} (hl : cs.length = 1) (h : DataW.trod enc Try.prog w base spare held fuel 34 cs = some x) : ∃ a : Int, cs = encX a ∧ 0 ≤ a ∧ a < 18446744073709551616 := by
  obtain ⟨xd, xp⟩ := x
  obtain ⟨a, e0, -, wa⟩ := DataW.trod_int Try.underlying34 h
  have q0 := bounds_u64 wa
  exact ⟨a, e0, by omega, by omega⟩
theorem trod_op {fuel : Nat} {cs : List Value} {x : DataW H × List MemPlace} (hl : cs.length = 4) (h : DataW.trod enc Try.prog w base spare held fuel 36 cs = some x) : ∃ m : Opn, cs = encO m ∧ OpOk w m := by
  match cs, hl with
  | [c0, c1, c2, c3], _ =>
    obtain ⟨xs, n, rfl, -, -, hlen, hf⟩ := DataW.trod_struct Try.underlying36 h
    obtain ⟨y0, y1, y2, y3, rfl⟩ := list4 hlen
    have h0 : DataW.trod enc Try.prog w base spare held n 3 [c0] = some y0 := by have := hf 0 _ rfl; simpa [cellsT3] using this
    have h1 : DataW.trod enc Try.prog w base spare held n 34 [c1] = some y1 := by have := hf 1 _ rfl; simpa [cellsU64] using this
    have h2 : DataW.trod enc Try.prog w base spare held n 27 [c2] = some y2 := by have := hf 2 _ rfl; simpa [cellsU8S] using this
    have h3 : DataW.trod enc Try.prog w base spare held n 5 [c3] = some y3 := by have := hf 3 _ rfl; simpa [cellsT5] using this
    obtain ⟨a, e0, -, wa⟩ := DataW.trod_int Try.underlying3 h0
    obtain ⟨b, e1, hb⟩ := trod_u64 rfl h1
    obtain ⟨c, e3, hc⟩ := trod_u8 rfl h3
    obtain ⟨l, av, cap, e2, hr, ho⟩ := open_rows_in (ok := fun q => 0 ≤ q ∧ q < 256) encU_ok Try.underlying27 cellsT5 0 (fun fuel cs x hl ht => trod_u8 hl ht) h2
    unfold encX at e1
    unfold encU at e3
    simp at e0 e1 e3
    subst e0 e1 e2 e3
    exact ⟨⟨a, b, av, cap, l, c⟩, rfl, hb, hc, ho, hr⟩
theorem trod_doubt {fuel : Nat} {cs : List Value} {x : DataW H × List MemPlace} (hl : cs.length = 4) (h : DataW.trod enc Try.prog w base spare held fuel 64 cs = some x) : ∃ m : Dt, cs = encD m ∧ DtOk m := by
  match cs, hl with
  | [c0, c1, c2, c3], _ =>
    obtain ⟨xs, n, rfl, -, -, hlen, hf⟩ := DataW.trod_struct Try.underlying64 h
    obtain ⟨y0, y1, y2, y3, rfl⟩ := list4 hlen
    have h0 : DataW.trod enc Try.prog w base spare held n 3 [c0] = some y0 := by have := hf 0 _ rfl; simpa [cellsT3] using this
    have h1 : DataW.trod enc Try.prog w base spare held n 5 [c1] = some y1 := by have := hf 1 _ rfl; simpa [cellsT5] using this
    have h2 : DataW.trod enc Try.prog w base spare held n 62 [c2] = some y2 := by have := hf 2 _ rfl; simpa [cellsU32] using this
    have h3 : DataW.trod enc Try.prog w base spare held n 34 [c3] = some y3 := by have := hf 3 _ rfl; simpa [cellsU64] using this
    obtain ⟨a, e0, -, wa⟩ := DataW.trod_int Try.underlying3 h0
    obtain ⟨b, e1, hb⟩ := trod_u8 rfl h1
    obtain ⟨c, e2, -, wc⟩ := DataW.trod_int Try.underlying62 h2
    obtain ⟨t, e3, ht⟩ := trod_u64 rfl h3
    unfold encU at e1
    unfold encX at e3
    simp at e0 e1 e2 e3
    subst e0 e1 e2 e3
    have q2 := bounds_u32 wc
    exact ⟨⟨a, b, c, t⟩, rfl, hb, ⟨by show 0 ≤ c; omega, by show c < 4294967296; omega⟩, ht⟩
theorem open_ty22 (hv : Value.okWide Try.prog w r b0 22 v) (h : DataW.Trod enc Try.prog w base spare held 22 v d p) : ∃ xs : List Opn, Rg encO 4 w v xs ∧ ∀ o ∈ xs, OpOk w o :=
  open_rows (ok := OpOk w) encO_ok Try.underlying22 cellsO ⟨0, 0, none, 0, [], 0⟩ (fun fuel cs x hl ht => trod_op hl ht) hv h
theorem open_ty50 (hv : Value.okWide Try.prog w r b0 50 v) (h : DataW.Trod enc Try.prog w base spare held 50 v d p) : ∃ xs : List Int, Rg encX 1 w v xs ∧ ∀ x ∈ xs, 0 ≤ x ∧ x < 18446744073709551616 :=
  open_rows (ok := fun x => 0 ≤ x ∧ x < 18446744073709551616) encX_ok Try.underlying50 cellsU64 0 (fun fuel cs x hl ht => trod_u64 hl ht) hv h
theorem open_ty57 (hv : Value.okWide Try.prog w r b0 57 v) (h : DataW.Trod enc Try.prog w base spare held 57 v d p) : ∃ xs : List Dt, Rg encD 4 w v xs ∧ ∀ o ∈ xs, DtOk o :=
  open_rows (ok := DtOk) encD_ok Try.underlying57 cellsD ⟨0, 0, 0, 0⟩ (fun fuel cs x hl ht => trod_doubt hl ht) hv h
end
theorem okU_wf {x : Int} (h : (Lit.int .u8 x).wf = true) : okU x := by have := bounds_u8 h; exact ⟨by omega, by omega⟩
theorem plays_of {T : Shape Pb} (hT : ProbeIs T) {v : Value} (self n : Int) (l : List Opn) (w : World) (ws : (Lit.int .u8 self).wf = true) (wn : (Lit.int .i64 n).wf = true) (h : Rg encO 4 w v l) (hl : ∀ o ∈ l, OpOk w o) : Calls Try.prog 3 #[.int .u8 self, .int .i64 n, v] w fun e w' => e = .returned (.bool true) ∧ Kept w w' := by
  have hs := okU_wf ws
  have hn := bounds_i64 wn
  by_cases hq : 1 ≤ n ∧ n ≤ 64 ∧ self < n
  · obtain ⟨n, rfl⟩ := Int.eq_ofNat_of_zero_le (show 0 ≤ n by omega)
    exact plays_yes hT self n (by omega) (by omega) hs.1 hq.2.2 l v w hl h
  · exact plays_no hT self n hs.1 hs.2 (by omega) v w hq
theorem turns_of {T : Shape Pb} (hT : ProbeIs T) {v : Value} (s n : Int) (l : List Int) (w : World) (ws : (Lit.int .u8 s).wf = true) (wn : (Lit.int .u8 n).wf = true) (h : Rg encX 1 w v l) (hl : ∀ x ∈ l, 0 ≤ x ∧ x < 18446744073709551616) : Calls Try.prog 4 #[.int .u8 s, .int .u8 n, v] w fun e w' => e = .returned (.bool true) ∧ Kept w w' := turns_walk hT s n (okU_wf ws) (okU_wf wn) l hl v w h
theorem fails_of {T : Shape Pb} (hT : ProbeIs T) {v : Value} (s n : Int) (l : List Opn) (w : World) (ws : (Lit.int .u8 s).wf = true) (wn : (Lit.int .u8 n).wf = true) (h : Rg encO 4 w v l) (hl : ∀ o ∈ l, OpOk w o) : Calls Try.prog 5 #[.int .u8 s, .int .u8 n, v] w fun e w' => e = .returned (.bool true) ∧ Kept w w' := fails_walk hT s n (okU_wf ws) (okU_wf wn) l v w hl h
theorem whole_of {T : Shape Pb} {D : Shape Ds} (hT : ProbeIs T) (hD : DoubtsIs D) {v : Value} (t : Int) (l : List Dt) (w : World) (wt : (Lit.int .u16 t).wf = true) (h : Rg encD 4 w v l) (hl : ∀ o ∈ l, DtOk o) : Calls Try.prog 6 #[.int .u16 t, v] w fun e w' => e = .returned (.bool true) ∧ Kept w w' := whole_walk hT hD t (by have := bounds_u16 wt; omega) (by have := bounds_u16 wt; omega) l hl v w h
theorem nil_of {T : Shape Pb} {D : Shape Ds} (hT : ProbeIs T) (hD : DoubtsIs D) (x node inc : Int) (w : World) (wx : (Lit.int .u64 x).wf = true) (wn : (Lit.int .u8 node).wf = true) (wi : (Lit.int .u32 inc).wf = true) : Calls Try.prog 7 #[.int .u64 x, .int .u8 node, .int .u32 inc] w fun e w' => e = .returned (.bool true) ∧ Kept w w' := nil_walk hT hD x node inc (by have := bounds_u64 wx; omega) (by have := bounds_u64 wx; omega) (okU_wf wn).1 (okU_wf wn).2 w
end Go.Proofs.Ytgmcjnhijgnadaa
