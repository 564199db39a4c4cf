/- The arguments opened: a row of calls (a slice of structs of two integers and a text); and the contract of the law's own function that takes the first of such a row. The law on a nil table, walked. -/
import Derived.Test.YtibdnhnomjcclaaMap
import Derived.Lib.SmallJoins
import Derived.Deep.Slices
namespace Go.Proofs.Ytibdnhnomjcclaa
open Go.ChangeShapes Go.WideShapes Go.ChangeAt Go.RowKit Go.Joins Go.Deep
set_option linter.unusedVariables false
set_option linter.unusedSimpArgs false

theorem laidOut : laidOutB Try.prog = true := by kernel_rfl
theorem readable_of {P : Program} {f : Func} (h : (f.params.toList.all fun t => P.readableRec t && decide (t < P.types.size)) = true) : ∀ t ∈ f.params.toList, P.readableRec t = true ∧ t < P.types.size := by
  intro t ht
  have := List.all_eq_true.1 h t ht
  simpa using this
theorem cells35 : Try.prog.cellsOf 35 = 3 := by kernel_rfl
theorem cells3 : Try.prog.cellsOf 3 = 1 := by kernel_rfl
theorem cells9 : Try.prog.cellsOf 9 = 1 := by kernel_rfl
theorem zero35 (w : World) : (zeroValue 35).run Try.prog w = .ok (.agg #[.int .i64 0, .int .i64 0, .string ⟨#[]⟩]) w := by kernel_rfl
structure Opx where
  kind : Int
  v : Int
  key : ByteArray
theorem cell_lt {w : World} {b o : Nat} {v : Value} (h : w.cell? ⟨b, o, none⟩ = some v) : b < w.heap.size := by
  unfold World.cell? at h
  cases hb : w.heap[b]? with
  | none => simp [hb] at h
  | some x => exact (Array.getElem?_eq_some_iff.1 hb).1
/- A row of calls: its cells. -/
def Row (w : World) (oa : Option Addr) (len cap b o : Nat) (S : Nat → Opx) : Prop :=
  len ≤ cap ∧ cap ≤ maxLen ∧ (oa = none → cap = 0) ∧ (0 < len → oa = some ⟨b, o, none⟩ ∧ b < w.heap.size) ∧
  (∀ i, i < len → (S i).key.size ≤ maxLen ∧ w.cell? ⟨b, o + i * 3, none⟩ = some (.int .i64 (S i).kind) ∧ w.cell? ⟨b, o + i * 3 + 1, none⟩ = some (.int .i64 (S i).v) ∧ w.cell? ⟨b, o + i * 3 + 2, none⟩ = some (.string (S i).key)) ∧
  ∀ i, i < len → (Lit.int .i64 (S i).v).wf = true
section
variable {w w' : World} {oa : Option Addr} {len cap b o : Nat} {S : Nat → Opx}
theorem ops_kept (h : Row w oa len cap b o S) (k : Kept w w') : Row w' oa len cap b o S := by
  obtain ⟨h1, h2, h3, h4, h5, h6⟩ := h
  refine ⟨h1, h2, h3, fun hl => ⟨(h4 hl).1, Nat.lt_of_lt_of_le (h4 hl).2 k.2⟩, fun i hi => ?_, h6⟩
  obtain ⟨e1, c0, c1, c2⟩ := h5 i hi
  have hb := (h4 (by omega)).2
  exact ⟨e1, (kept_cell k hb).trans c0, (kept_cell k hb).trans c1, (kept_cell k hb).trans c2⟩
theorem ops_less (h : Row w oa len cap b o S) {n : Nat} (hn : n ≤ len) : Row w oa n cap b o S :=
  ⟨Nat.le_trans hn h.1, h.2.1, h.2.2.1, fun hl => h.2.2.2.1 (by omega), fun i hi => h.2.2.2.2.1 i (by omega), fun i hi => h.2.2.2.2.2 i (by omega)⟩
end
section
variable {H : Type} {enc : TypeId × Value → H} {w : World} {base : Nat} {spare : Nat → Bool} {held : Bool} {r : Reach} {b0 : Nat} {v : Value} {d : DataW H} {p : List MemPlace}
theorem open_ty22 (hv : Value.okWide Try.prog w r b0 22 v) (h : DataW.Trod enc Try.prog w base spare held 22 v d p) :
    ∃ (oa : Option Addr) (len cap b o : Nat) (S : Nat → Opx), v = .slice oa len cap ∧ Row w oa len cap b o S := by
  obtain ⟨a, len, cap, rfl⟩ := okWide_slice Try.underlying22 hv
  obtain ⟨n, h⟩ := h
  rcases open_slice Try.underlying22 h with ⟨h0, -⟩ | ⟨a', len', cap', m, n', D, Pl, h0, hb, hl, hm, hmm, -, hx⟩
  · simp [Value.cells] at h0
    obtain ⟨rfl, rfl, rfl⟩ := h0
    refine ⟨none, 0, 0, 0, 0, fun _ => ⟨0, 0, ⟨#[]⟩⟩, rfl, Nat.le_refl _, by unfold maxLen; omega, fun _ => rfl, fun h => absurd h (by omega), fun i hi => absurd hi (by omega), fun i hi => absurd hi (by omega)⟩
  · simp [Value.cells] at h0
    obtain ⟨rfl, rfl, rfl⟩ := h0
    rw [cells35] at hx
    have hlm : len ≤ m := by rw [hmm]; split <;> omega
    have each : ∀ i, i < len → ∃ q : Opx, (q.key.size ≤ maxLen ∧ (Lit.int .i64 q.v).wf = true) ∧ w.cell? (a'.add (i * 3)) = some (.int .i64 q.kind) ∧ w.cell? ((a'.add (i * 3)).add 1) = some (.int .i64 q.v) ∧ w.cell? ((a'.add (i * 3)).add 2) = some (.string q.key) := by
      intro i hi
      obtain ⟨cs, hc, ht⟩ := hx i (by omega)
      obtain ⟨_, hlen, hcell⟩ := World.cells?_some hc
      match cs, hlen with
      | [c0, c1, c2], _ =>
        obtain ⟨y0, y1, y2, n2, -, -, t0, t1, t2⟩ := trod_struct3 Try.underlying35 ht
        obtain ⟨k, e0, -, wk⟩ := DataW.trod_int Try.underlying3 t0
        obtain ⟨n, e1, -, wn⟩ := DataW.trod_int Try.underlying3 t1
        obtain ⟨a, e2, -, wa⟩ := DataW.trod_string Try.underlying9 t2
        simp only [cells3, cells9] at e0 e1 e2
        simp at e0 e1 e2
        subst e0 e1 e2
        refine ⟨⟨k, n, a⟩, ⟨wa, wn⟩, ?_, hcell 1 (by omega), hcell 2 (by omega)⟩
        have := hcell 0 (by omega)
        simpa [Addr.add] using this
    have inh : Inhabited Opx := ⟨⟨0, 0, ⟨#[]⟩⟩⟩
    obtain ⟨f, hf⟩ := choose_lt each
    obtain ⟨b, o, spot⟩ := a'
    have hspot : 0 < len → spot = none := fun hpos => by
      have h0 := (hf 0 hpos).2.1
      simpa [Addr.add] using World.cell?_spot h0
    refine ⟨some ⟨b, o, spot⟩, len, cap, b, o, f, rfl, hl, hm, (fun h => by cases h), fun hpos => ?_, fun i hi => ?_, fun i hi => (hf i hi).1.2⟩
    · have h0 := (hf 0 hpos).2.1
      have := hspot hpos
      subst this
      refine ⟨rfl, ?_⟩
      have : (Addr.add ⟨b, o, none⟩ (0 * 3)) = ⟨b, o, none⟩ := by simp [Addr.add]
      rw [this] at h0
      exact cell_lt h0
    · have hpos : 0 < len := by omega
      have := hspot hpos
      subst this
      obtain ⟨g1, g2, g3, g4⟩ := hf i hi
      rw [add_add] at g3 g4
      rw [add_plain] at g2 g3 g4
      exact ⟨g1.1, g2, g3, g4⟩
end
/- What cut answers: the first calls of a row, none of them with a long key. -/
def CutC (w : World) (oa : Option Addr) (len cap : Nat) (S : Nat → Opx) (e : Ending) (w' : World) : Prop :=
  ∃ n, e = .returned (.slice oa n cap) ∧ n ≤ len ∧ n ≤ 151 ∧ (∀ i, i < n → (S i).key.size ≤ 500) ∧ Kept w w'
set_option maxHeartbeats 800000 in
theorem cut_any (oa : Option Addr) (len cap b o : Nat) (S : Nat → Opx) (w : World) (h : Row w oa len cap b o S) : Calls Try.prog 11 #[.slice oa len cap] w (CutC w oa len cap S) := by
  have hz := zero35
  have h1 := h.1
  have h2 := h.2.1
  unfold maxLen at h2
  have HR := hid h
  clear h
  go_enter Try.func11, Try.ntmps11
  go_wp2_with fail
  go_loopw [7] (fun i wr => ∃ j : Nat, j ≤ len ∧ i = .int .i64 (j : Int) ∧ j ≤ 151 ∧ Hid (∀ i, i < j → (S i).key.size ≤ 500) ∧ Hid (Kept w wr)) (fun i _ => len - (intOf i).toNat)
  case atStart => exact ⟨0, Nat.zero_le _, rfl, by omega, hid (fun i hi => absurd hi (by omega)), hid (kept_refl w)⟩
  case round =>
    obtain ⟨j, hj, rfl, hj2, HS, HK⟩ := hrel
    by_cases hlt : j < len
    · obtain ⟨rfl, hb⟩ := HR.out.2.2.2.1 (by omega)
      obtain ⟨ks, c0, c1, c2⟩ := (ops_kept HR.out HK.out).2.2.2.2.1 j hlt
      unfold maxLen at ks
      by_cases e0 : 150 < j
      · have e1 : (150 : Int) < (j : Int) := by omega
        clear e0
        go_wp2_with fail
        go_ret
        exact ⟨j, rfl, hj, hj2, HS.out, kept_alloc HK.out _⟩
      · have e1 : decide ((150 : Int) < (j : Int)) = false := by simp; omega
        by_cases e2 : 500 < (S j).key.size
        · have e3 : (500 : Int) < ((S j).key.size : Int) := by omega
          clear e2
          go_wp2_with fail
          go_ret
          exact ⟨j, rfl, hj, hj2, HS.out, kept_alloc HK.out _⟩
        · have e3 : ¬ (500 : Int) < ((S j).key.size : Int) := by omega
          have HN : Hid (∀ i, i < j + 1 → (S i).key.size ≤ 500) := hid (fun i hi => by
            rcases (show i < j ∨ i = j by omega) with h | h
            · exact HS.out i h
            · rw [h]; omega)
          clear e2
          go_wp2_with fail
          go_roundw
          case rel => exact ⟨j + 1, by omega, by go_num, by omega, HN, kept_alloc HK.out _⟩
          case measure => simp [intOf]; omega
    · have hje : j = len := by omega
      subst hje
      go_wp2_with fail
      go_ret
      exact ⟨j, rfl, Nat.le_refl _, hj2, HS.out, HK.out⟩
set_option maxHeartbeats 800000 in
theorem nil_walk (k : ByteArray) (v : Int) (w : World) (hk : k.size ≤ maxLen) (hv : (Lit.int .i64 v).wf = true) : Calls Try.prog 6 #[.string k, .int .i64 v] w fun e w' => e = .returned (.bool true) ∧ Kept w w' := by
  go_enter Try.func6, Try.ntmps6
  go_wp2_with fail
  refine (get_nil k _).mono ?_
  rintro e w1 ⟨rfl, rfl⟩
  go_wp2_with fail
  refine (fixed_any _).mono ?_
  rintro e w2 ⟨rfl, k2⟩
  go_wp2_with fail
  refine (set_nil k v _).mono ?_
  rintro e w1 ⟨rfl, rfl⟩
  go_wp2_with fail
  refine (drop_nil k _).mono ?_
  rintro e w1 ⟨rfl, rfl⟩
  go_wp2_with fail
  refine (len_nil _).mono ?_
  rintro e w1 ⟨rfl, rfl⟩
  go_wp2_with fail
  refine (keys_nil _).mono ?_
  rintro e w1 ⟨rfl, rfl⟩
  go_wp2_with fail
  refine (slot_nil k _).mono ?_
  rintro e w1 ⟨rfl, rfl⟩
  go_wp2_with fail
  go_ret
  exact ⟨rfl, k2⟩
end Go.Proofs.Ytibdnhnomjcclaa
