/- The arguments opened: a stamp handed in by value, a row of calls (a slice of structs of two integers and a stamp); and the contract of the law's own function that takes the first of such a row. -/
import Derived.Test.YtlhceekjhhdbeaaFixed
import Derived.Lib.SmallJoins
import Derived.Deep.Slices
namespace Go.Proofs.Ytlhceekjhhdbeaa
open Go.ChangeShapes Go.WideShapes Go.ChangeAt Go.RowKit Go.Joins Go.Deep
set_option linter.unusedVariables false
set_option linter.unusedSimpArgs false

theorem laidOut : laidOutB Try.prog = true := by kernel_rfl
theorem readable_of {P : Program} {f : Func} (h : (f.params.toList.all fun t => P.readableRec t && decide (t < P.types.size)) = true) : ∀ t ∈ f.params.toList, P.readableRec t = true ∧ t < P.types.size := by
  intro t ht
  have := List.all_eq_true.1 h t ht
  simpa using this
theorem cells25 : Try.prog.cellsOf 25 = 3 := by kernel_rfl
theorem cells40 : Try.prog.cellsOf 40 = 5 := by kernel_rfl
theorem ok_of {a b c : Int} (h0 : (Lit.int .u64 a).wf = true) (h1 : (Lit.int .u32 b).wf = true) (h2 : (Lit.int .u8 c).wf = true) : Stp.ok ⟨a, b, c⟩ := by
  have e0 := bounds_u64 h0
  have e1 := bounds_u32 h1
  have e2 := bounds_u8 h2
  unfold Stp.ok
  simp only
  omega
section
variable {H : Type} {enc : TypeId × Value → H} {w : World} {base : Nat} {spare : Nat → Bool} {held : Bool} {r : Reach} {b0 : Nat} {v : Value} {d : DataW H} {p : List MemPlace}
theorem open_ty25 (hv : Value.okWide Try.prog w r b0 25 v) (h : DataW.Trod enc Try.prog w base spare held 25 v d p) : ∃ s : Stp, v = .agg #[.int .u64 s.p, .int .u32 s.l, .int .u8 s.n] ∧ s.ok := by
  obtain ⟨v0, v1, v2, y0, y1, y2, n, rfl, rfl, rfl, h0, h1, h2⟩ := open_agg3 Try.underlying25 (by kernel_rfl) cells25 hv h
  obtain ⟨a, e0, rfl, wa⟩ := DataW.trod_int Try.underlying22 h0
  obtain ⟨b, e1, rfl, wb⟩ := DataW.trod_int Try.underlying23 h1
  obtain ⟨c, e2, rfl, wc⟩ := DataW.trod_int Try.underlying5 h2
  cases e0
  cases e1
  cases e2
  exact ⟨⟨a, b, c⟩, rfl, ok_of wa wb wc⟩
theorem cell_lt {w : World} {b o : Nat} {v : Value} (h : w.cell? ⟨b, o, none⟩ = some v) : b < w.heap.size := by
  unfold World.cell? at h
  cases hb : w.heap[b]? with
  | none => simp [hb] at h
  | some x => exact (Array.getElem?_eq_some_iff.1 hb).1
/- A row of calls: its cells. -/
def Row (w : World) (oa : Option Addr) (len cap b o : Nat) (K M : Nat → Int) (S : Nat → Stp) : Prop :=
  len ≤ cap ∧ cap ≤ maxLen ∧ (oa = none → cap = 0) ∧ (0 < len → oa = some ⟨b, o, none⟩ ∧ b < w.heap.size) ∧
  ∀ i, i < len → (Lit.int .i64 (K i)).wf = true ∧ (Lit.int .i64 (M i)).wf = true ∧ (S i).ok ∧
    w.cell? ⟨b, o + i * 5, none⟩ = some (.int .i64 (K i)) ∧ w.cell? ⟨b, o + i * 5 + 1, none⟩ = some (.int .i64 (M i)) ∧
    w.cell? ⟨b, o + i * 5 + 2, none⟩ = some (.int .u64 (S i).p) ∧ w.cell? ⟨b, o + i * 5 + 3, none⟩ = some (.int .u32 (S i).l) ∧ w.cell? ⟨b, o + i * 5 + 4, none⟩ = some (.int .u8 (S i).n)
theorem row_kept {w w' : World} {oa : Option Addr} {len cap b o : Nat} {K M : Nat → Int} {S : Nat → Stp} (h : Row w oa len cap b o K M S) (k : Kept w w') : Row w' oa len cap b o K M S := by
  obtain ⟨h1, h2, h3, h4, h5⟩ := h
  refine ⟨h1, h2, h3, fun hl => ⟨(h4 hl).1, Nat.lt_of_lt_of_le (h4 hl).2 k.2⟩, fun i hi => ?_⟩
  obtain ⟨e1, e2, e3, c0, c1, c2, c3, c4⟩ := h5 i hi
  have hb := (h4 (by omega)).2
  exact ⟨e1, e2, e3, (kept_cell k hb).trans c0, (kept_cell k hb).trans c1, (kept_cell k hb).trans c2, (kept_cell k hb).trans c3, (kept_cell k hb).trans c4⟩
theorem row_less {w : World} {oa : Option Addr} {len cap b o : Nat} {K M : Nat → Int} {S : Nat → Stp} (h : Row w oa len cap b o K M S) {n : Nat} (hn : n ≤ len) : Row w oa n cap b o K M S :=
  ⟨Nat.le_trans hn h.1, h.2.1, h.2.2.1, fun hl => h.2.2.2.1 (by omega), fun i hi => h.2.2.2.2 i (by omega)⟩
theorem open_ty29 (hv : Value.okWide Try.prog w r b0 29 v) (h : DataW.Trod enc Try.prog w base spare held 29 v d p) :
    ∃ (oa : Option Addr) (len cap b o : Nat) (K M : Nat → Int) (S : Nat → Stp), v = .slice oa len cap ∧ Row w oa len cap b o K M S := by
  obtain ⟨a, len, cap, rfl⟩ := okWide_slice Try.underlying29 hv
  obtain ⟨n, h⟩ := h
  rcases open_slice Try.underlying29 h with ⟨h0, -⟩ | ⟨a', len', cap', m, n', D, Pl, h0, hb, hl, hm, hmm, -, hx⟩
  · simp [Value.cells] at h0
    obtain ⟨rfl, rfl, rfl⟩ := h0
    refine ⟨none, 0, 0, 0, 0, fun _ => 0, fun _ => 0, fun _ => zero, rfl, Nat.le_refl _, by unfold maxLen; omega, fun _ => rfl, fun h => absurd h (by omega), fun i hi => absurd hi (by omega)⟩
  · simp [Value.cells] at h0
    obtain ⟨rfl, rfl, rfl⟩ := h0
    rw [cells40] at hx
    have hlm : len ≤ m := by rw [hmm]; split <;> omega
    have each : ∀ i, i < len → ∃ q : Int × Int × Stp, (Lit.int .i64 q.1).wf = true ∧ (Lit.int .i64 q.2.1).wf = true ∧ q.2.2.ok ∧
        w.cell? (a'.add (i * 5)) = some (.int .i64 q.1) ∧ w.cell? ((a'.add (i * 5)).add 1) = some (.int .i64 q.2.1) ∧
        w.cell? ((a'.add (i * 5)).add 2) = some (.int .u64 q.2.2.p) ∧ w.cell? ((a'.add (i * 5)).add 3) = some (.int .u32 q.2.2.l) ∧ w.cell? ((a'.add (i * 5)).add 4) = some (.int .u8 q.2.2.n) := by
      intro i hi
      obtain ⟨cs, hc, ht⟩ := hx i (by omega)
      obtain ⟨_, hlen, hcell⟩ := World.cells?_some hc
      match cs, hlen with
      | [c0, c1, c2, c3, c4], _ =>
        obtain ⟨y0, y1, y2, n2, -, -, t0, t1, t2⟩ := trod_struct3 Try.underlying40 ht
        obtain ⟨z0, z1, z2, n3, -, -, s0, s1, s2⟩ := trod_struct3 Try.underlying25 t2
        obtain ⟨k, e0, -, wk⟩ := DataW.trod_int Try.underlying3 t0
        obtain ⟨n, e1, -, wn⟩ := DataW.trod_int Try.underlying3 t1
        obtain ⟨a, e2, -, wa⟩ := DataW.trod_int Try.underlying22 s0
        obtain ⟨b, e3, -, wb⟩ := DataW.trod_int Try.underlying23 s1
        obtain ⟨c, e4, -, wc⟩ := DataW.trod_int Try.underlying5 s2
        have c3 : Try.prog.cellsOf 3 = 1 := by kernel_rfl
        have c22 : Try.prog.cellsOf 22 = 1 := by kernel_rfl
        have c23 : Try.prog.cellsOf 23 = 1 := by kernel_rfl
        have c5 : Try.prog.cellsOf 5 = 1 := by kernel_rfl
        simp only [c3, c22, c23, c5, cells25] at e0 e1 e2 e3 e4
        simp at e0 e1 e2 e3 e4
        subst e0 e1 e2 e3 e4
        refine ⟨(k, n, ⟨a, b, c⟩), wk, wn, ok_of wa wb wc, ?_, hcell 1 (by omega), hcell 2 (by omega), hcell 3 (by omega), hcell 4 (by omega)⟩
        have := hcell 0 (by omega)
        simpa [Addr.add] using this
    have inh : Inhabited (Int × Int × Stp) := ⟨(0, 0, zero)⟩
    obtain ⟨f, hf⟩ := choose_lt each
    obtain ⟨b, o, spot⟩ := a'
    refine ⟨some ⟨b, o, spot⟩, len, cap, b, o, fun i => (f i).1, fun i => (f i).2.1, fun i => (f i).2.2, rfl, hl, hm, (fun h => by cases h), fun hpos => ?_, fun i hi => ?_⟩
    · have h0 := (hf 0 hpos).2.2.2.1
      have hspot : spot = none := by simpa [Addr.add] using World.cell?_spot h0
      subst hspot
      refine ⟨rfl, ?_⟩
      have : (Addr.add ⟨b, o, none⟩ (0 * 5)) = ⟨b, o, none⟩ := by simp [Addr.add]
      rw [this] at h0
      exact cell_lt h0
    · have hpos : 0 < len := by omega
      have h0 := (hf 0 hpos).2.2.2.1
      have hspot : spot = none := by simpa [Addr.add] using World.cell?_spot h0
      subst hspot
      obtain ⟨g1, g2, g3, g4, g5, g6, g7, g8⟩ := hf i hi
      rw [add_add] at g5 g6 g7 g8
      rw [add_plain] at g4 g5 g6 g7 g8
      exact ⟨g1, g2, g3, g4, g5, g6, g7, g8⟩
end
theorem cut_any (oa : Option Addr) (len cap b o : Nat) (K M : Nat → Int) (S : Nat → Stp) (w : World) (h : Row w oa len cap b o K M S) :
    Calls Try.prog 14 #[.slice oa len cap] w fun e w' => e = .returned (.slice oa (if len ≤ 300 then len else 300) cap) ∧ w' = w := by
  obtain ⟨h1, h2, h3, h4, h5⟩ := h
  clear h4 h5
  unfold maxLen at h2
  by_cases hl : len ≤ 300
  · rw [if_pos hl]
    cases oa with
    | none =>
      have := h3 rfl
      obtain rfl : len = 0 := by omega
      subst this
      go_enter Try.func14, Try.ntmps14
      go_wp2_with fail
      go_ret
      exact ⟨rfl, rfl⟩
    | some a =>
      go_enter Try.func14, Try.ntmps14
      go_wp2_with fail
      go_ret
      exact ⟨rfl, rfl⟩
  · rw [if_neg hl]
    cases oa with
    | none => have := h3 rfl; omega
    | some a =>
      go_enter Try.func14, Try.ntmps14
      go_wp2_with fail
      go_ret
      exact ⟨rfl, rfl⟩
end Go.Proofs.Ytlhceekjhhdbeaa
