/- The chapter's example, walked; the arguments opened: a row of flips (a slice of structs of a number and a number of 64 bits), one flip, a row of numbers. -/
import Derived.Test.YtpfelbbhhoilpaaApart
import Derived.Lib.SmallJoins
import Derived.Deep.Slices
namespace Go.Proofs.Ytpfelbbhhoilpaa
open Go.ChangeShapes Go.WideShapes Go.ChangeAt Go.RowKit Go.Joins Go.Deep
set_option linter.unusedVariables false
set_option linter.unusedSimpArgs false
set_option maxRecDepth 100000

set_option maxHeartbeats 1600000 in
theorem fixed_any (w : World) : Calls Try.prog 10 #[] w fun e w' => e = .returned (.bool true) ∧ Kept w w' := by
  have HX := hid ex_wk
  go_enter Try.func10, Try.ntmps10
  go_wp2_with fail
  refine (new_any w).mono ?_
  rintro e w1 ⟨rfl, k1, t1, s1⟩
  have HT1 := hid t1
  have HK1 := hid k1
  have HL : Hid (w.heap.size < w1.heap.size) := hid (by omega)
  clear k1 t1 s1
  go_wp2_with fail
  refine (new_any w1).mono ?_
  rintro e w2 ⟨rfl, k2, t2, s2⟩
  have HU2 := hid t2
  have HT2 := hid (tr_kept HT1.out k2)
  have HK2 := hid (kept_trans HK1.out k2)
  have HX0 : Hid (w.heap.size ≤ w.heap.size) := hid (Nat.le_refl _)
  clear k2 t2 s2 HT1 HK1
  obtain ⟨X, hX⟩ : ∃ X, w.heap.size = X := ⟨_, rfl⟩
  obtain ⟨Y, hY⟩ : ∃ Y, w1.heap.size = Y := ⟨_, rfl⟩
  have HB := hid hX
  rw [hX, hY] at HL
  rw [hX] at HT2
  rw [hY] at HU2
  rw [hX, hY]
  clear hX hY
  have hR := root_any w2 HT2.out
  rw [nod_nought] at hR
  go_wp2_with fail
  refine hR.mono ?_
  rintro e w3 ⟨rfl, k3⟩
  have HT3 := hid (tr_kept HT2.out k3)
  have HU3 := hid (tr_kept HU2.out k3)
  have HK3 := hid (kept_trans HK2.out k3)
  clear k3 HT2 HU2 HK2 hR
  have hF := flip_ok 5 9 (by omega) w3 HT3.out
  go_wp2_with fail
  refine hF.mono ?_
  rintro e w4 ⟨rfl, t4, r4⟩
  have HT4 : Hid (Tr w4 X exL) := hid r4
  have HU4 := hid (tr_turn HU3.out t4 (by have := HL.out; omega))
  have HK4 := hid (kept_turn HK3.out (by have := HB.out; omega) t4)
  clear t4 r4 HT3 HU3 HK3 hF
  have hW := walk_any w4 HT4.out.1 HU4.out.1
  go_wp2_with fail
  refine hW.mono ?_
  rintro e w5 ⟨v5, rfl, o5, k5⟩
  rw [HX.out.1] at o5
  rw [HX.out.2]
  have HK5 := hid (kept_alloc (kept_trans HK4.out k5) (.cells #[.int .i64 5] 3))
  have HR5 := hid (rw_kept (rw_own o5) (kept_alloc (kept_refl w5) (.cells #[.int .i64 5] 3)))
  have HP5 : Hid (Rw .i64 (w5.alloc (.cells #[.int .i64 5] 3)) (.slice (some ⟨w5.heap.size, 0, none⟩) 1 1) (cs [5])) := hid (rw_own (own_built .i64 3 w5 0 (Nat.zero_le _) (cs [5]) (by decide)))
  clear o5 k5 hW HT4 HU4 HK4
  go_wp2_with fail
  refine (same_any (cs [5]) (by decide) _ _ _ HR5.out HP5.out).mono ?_
  rintro e w6 ⟨rfl, k6⟩
  go_wp2_with fail
  go_ret
  exact ⟨rfl, kept_trans HK5.out k6⟩

theorem laidOut : laidOutB Try.prog = true := by kernel_rfl
theorem readable_of {P : Program} {f : Func} (h : (f.params.toList.all fun t => P.readableRec t && decide (t < P.types.size)) = true) : ∀ t ∈ f.params.toList, P.readableRec t = true ∧ t < P.types.size := by
  intro t ht
  have := List.all_eq_true.1 h t ht
  simpa using this
theorem cells28 : Try.prog.cellsOf 28 = 2 := by kernel_rfl
theorem cells3 : Try.prog.cellsOf 3 = 1 := by kernel_rfl
theorem cells26 : Try.prog.cellsOf 26 = 1 := by kernel_rfl
theorem zero28 (w : World) : (zeroValue 28).run Try.prog w = .ok (.agg #[.int .i64 0, .int .u64 0]) w := by kernel_rfl
/- A row of flips: its cells. -/
def Row (w : World) (oa : Option Addr) (len cap b o : Nat) (S : Nat → Fx) : Prop :=
  len ≤ cap ∧ cap ≤ maxLen ∧ (oa = none → cap = 0) ∧ (0 < len → oa = some ⟨b, o, none⟩ ∧ b < w.heap.size) ∧
  (∀ i, i < len → w.cell? ⟨b, o + i * 2, none⟩ = some (.int .i64 (S i).i) ∧ w.cell? ⟨b, o + i * 2 + 1, none⟩ = some (.int .u64 (S i).x)) ∧
  ∀ i, i < len → U (S i).x
section
variable {w w' : World} {oa : Option Addr} {len cap b o : Nat} {S : Nat → Fx}
theorem ops_kept (h : Row w oa len cap b o S) (k : Kept w w') : Row w' oa len cap b o S := by
  obtain ⟨h1, h2, h3, h4, h5, h6⟩ := h
  refine ⟨h1, h2, h3, fun hl => ⟨(h4 hl).1, Nat.lt_of_lt_of_le (h4 hl).2 k.2⟩, fun i hi => ?_, h6⟩
  obtain ⟨c0, c1⟩ := h5 i hi
  have hb := (h4 (by omega)).2
  exact ⟨(kept_cell k hb).trans c0, (kept_cell k hb).trans c1⟩
end
section
variable {H : Type} {enc : TypeId × Value → H} {w : World} {base : Nat} {spare : Nat → Bool} {held : Bool} {r : Reach} {b0 : Nat} {v : Value} {d : DataW H} {p : List MemPlace}
theorem open_ty22 (hv : Value.okWide Try.prog w r b0 22 v) (h : DataW.Trod enc Try.prog w base spare held 22 v d p) :
    ∃ (oa : Option Addr) (len cap b o : Nat) (S : Nat → Fx), v = .slice oa len cap ∧ Row w oa len cap b o S := by
  obtain ⟨a, len, cap, rfl⟩ := okWide_slice Try.underlying22 hv
  obtain ⟨n, h⟩ := h
  rcases open_slice Try.underlying22 h with ⟨h0, -⟩ | ⟨a', len', cap', m, n', D, Pl, h0, hb, hl, hm, hmm, -, hx⟩
  · simp [Value.cells] at h0
    obtain ⟨rfl, rfl, rfl⟩ := h0
    exact ⟨none, 0, 0, 0, 0, fun _ => ⟨0, 0⟩, rfl, Nat.le_refl _, by unfold maxLen; omega, fun _ => rfl, fun h => absurd h (by omega), fun i hi => absurd hi (by omega), fun i hi => absurd hi (by omega)⟩
  · simp [Value.cells] at h0
    obtain ⟨rfl, rfl, rfl⟩ := h0
    rw [cells28] at hx
    have hlm : len ≤ m := by rw [hmm]; split <;> omega
    have each : ∀ i, i < len → ∃ q : Fx, U q.x ∧ w.cell? (a'.add (i * 2)) = some (.int .i64 q.i) ∧ w.cell? ((a'.add (i * 2)).add 1) = some (.int .u64 q.x) := by
      intro i hi
      obtain ⟨cs, hc, ht⟩ := hx i (by omega)
      obtain ⟨_, hlen, hcell⟩ := World.cells?_some hc
      match cs, hlen with
      | [c0, c1], _ =>
        obtain ⟨y0, y1, n2, -, -, t0, t1⟩ := trod_struct2 Try.underlying28 ht
        obtain ⟨k, e0, -, wk⟩ := DataW.trod_int Try.underlying3 t0
        obtain ⟨n, e1, -, wn⟩ := DataW.trod_int Try.underlying26 t1
        simp only [cells3, cells26] at e0 e1
        simp at e0 e1
        subst e0 e1
        refine ⟨⟨k, n⟩, wn, ?_, hcell 1 (by omega)⟩
        have := hcell 0 (by omega)
        simpa [Addr.add] using this
    have inh : Inhabited Fx := ⟨⟨0, 0⟩⟩
    obtain ⟨f, hf⟩ := choose_lt each
    obtain ⟨b, o, spot⟩ := a'
    have hspot : 0 < len → spot = none := fun hpos => by
      have h0 := (hf 0 hpos).2.1
      simpa [Addr.add] using World.cell?_spot h0
    refine ⟨some ⟨b, o, spot⟩, len, cap, b, o, f, rfl, hl, hm, (fun h => by cases h), fun hpos => ?_, fun i hi => ?_, fun i hi => (hf i hi).1⟩
    · have h0 := (hf 0 hpos).2.1
      have := hspot hpos
      subst this
      refine ⟨rfl, ?_⟩
      have : (Addr.add ⟨b, o, none⟩ (0 * 2)) = ⟨b, o, none⟩ := by simp [Addr.add]
      rw [this] at h0
      exact cell_lt h0
    · have hpos : 0 < len := by omega
      have := hspot hpos
      subst this
      obtain ⟨g1, g2, g3⟩ := hf i hi
      rw [add_add] at g3
      rw [add_plain] at g2 g3
      exact ⟨g2, g3⟩
theorem open_ty28 (hv : Value.okWide Try.prog w r b0 28 v) (h : DataW.Trod enc Try.prog w base spare held 28 v d p) : ∃ f : Fx, v = .agg #[.int .i64 f.i, .int .u64 f.x] ∧ U f.x := by
  obtain ⟨v0, v1, y0, y1, n, rfl, rfl, rfl, h0, h1⟩ := open_agg2 Try.underlying28 (by kernel_rfl) cells28 hv h
  obtain ⟨a, e0, rfl, wa⟩ := DataW.trod_int Try.underlying3 h0
  obtain ⟨b, e1, rfl, wb⟩ := DataW.trod_int Try.underlying26 h1
  cases e0
  cases e1
  exact ⟨⟨a, b⟩, rfl, wb⟩
theorem open_ty37 (hv : Value.okWide Try.prog w r b0 37 v) (h : DataW.Trod enc Try.prog w base spare held 37 v d p) :
    ∃ (oa : Option Addr) (len cap : Nat) (N : Nat → Int), v = .slice oa len cap ∧ Ra w (.slice oa len cap) N len ∧ (∀ i, i < len → U (N i)) ∧ len ≤ maxLen := by
  obtain ⟨a, len, cap, rfl⟩ := okWide_slice Try.underlying37 hv
  obtain ⟨n, h⟩ := h
  rcases open_ints Try.underlying37 Try.underlying26 (by kernel_rfl) h with ⟨h0, -⟩ | ⟨a', len', cap', zs, h0, hb, hl, hm, hlen, -, hc, hzs⟩
  · simp [Value.cells] at h0
    obtain ⟨rfl, rfl, rfl⟩ := h0
    exact ⟨none, 0, 0, fun _ => 0, rfl, ⟨none, 0, rfl, fun h => absurd h (by simp)⟩, fun i hi => absurd hi (by omega), by unfold maxLen; omega⟩
  · simp [Value.cells] at h0
    obtain ⟨rfl, rfl, rfl⟩ := h0
    have hge : len ≤ zs.length := by rw [hlen]; split <;> omega
    refine ⟨_, _, _, fun i => zs.getD i 0, rfl, ⟨some a', cap, rfl, fun hpos => ?_⟩, fun i hi => ?_, by omega⟩
    · obtain ⟨b, o, spot⟩ := a'
      have hspot : spot = none := by
        have h0 := hc 0 (by omega)
        simpa [Addr.add] using World.cell?_spot h0
      subst hspot
      refine ⟨b, o, rfl, fun i hi => ?_⟩
      have h1 := hc i (by omega)
      rw [add_plain] at h1
      exact h1
    · refine hzs _ ?_
      show zs.getD i 0 ∈ zs
      have hz : zs[i]? = some (zs[i]'(by omega)) := List.getElem?_eq_getElem (by omega)
      rw [List.getD, hz]
      exact List.getElem_mem _
end
end Go.Proofs.Ytpfelbbhhoilpaa
