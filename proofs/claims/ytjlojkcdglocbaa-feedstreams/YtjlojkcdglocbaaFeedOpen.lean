/- The arguments opened: a row of texts, a row of numbers of 16 bits. -/
import Derived.Test.YtjlojkcdglocbaaFeedFixed
import Derived.SliceStrings
import Derived.ChangeSlices
import Derived.Lib.SmallJoins
import Derived.Deep.Slices
namespace Go.Proofs.Ytjlojkcdglocbaa
open Go.ChangeShapes Go.WideShapes Go.ChangeAt Go.RowKit Go.Joins Go.Deep
set_option linter.unusedVariables false
set_option linter.unusedSimpArgs false

theorem laidOut : laidOutB Try.prog = true := by kernel_rfl
theorem readable_of {P : Program} {f : Func} (h : (f.params.toList.all fun t => P.readableRec t && decide (t < P.types.size)) = true) : ∀ t ∈ f.params.toList, P.readableRec t = true ∧ t < P.types.size := by
  intro t ht
  have := List.all_eq_true.1 h t ht
  simpa using this
theorem cell_lt {w : World} {b o : Nat} {v : Value} (h : w.cell? ⟨b, o, none⟩ = some v) : b < w.heap.size := by
  unfold World.cell? at h
  cases hb : w.heap[b]? with
  | none => simp [hb] at h
  | some x => exact (Array.getElem?_eq_some_iff.1 hb).1
/- A row of cells. -/
def Row (w : World) (oa : Option Addr) (len b o : Nat) (S : Nat → Value) : Prop :=
  len ≤ maxLen ∧ (0 < len → oa = some ⟨b, o, none⟩ ∧ b < w.heap.size) ∧ ∀ i, i < len → w.cell? ⟨b, o + i, none⟩ = some (S i)
theorem row_kept {w w' : World} {oa : Option Addr} {len b o : Nat} {S : Nat → Value} (h : Row w oa len b o S) (k : Kept w w') : Row w' oa len b o S :=
  ⟨h.1, fun hl => ⟨(h.2.1 hl).1, Nat.lt_of_lt_of_le (h.2.1 hl).2 k.2⟩, fun i hi => (kept_cell k (h.2.1 (by omega)).2).trans (h.2.2 i hi)⟩
theorem row_mk {w : World} (a : Addr) (len : Nat) (hl : len ≤ maxLen) (S : Nat → Value) (hc : ∀ i, i < len → w.cell? (a.add i) = some (S i)) : ∃ b o, Row w (some a) len b o S := by
  obtain ⟨b, o, spot⟩ := a
  refine ⟨b, o, hl, fun hpos => ?_, fun i hi => ?_⟩
  · have h0 := hc 0 hpos
    have hspot : spot = none := by simpa [Addr.add] using World.cell?_spot h0
    subst hspot
    refine ⟨rfl, ?_⟩
    have : (Addr.add ⟨b, o, none⟩ 0) = ⟨b, o, none⟩ := by simp [Addr.add]
    rw [this] at h0
    exact cell_lt h0
  · have h0 := hc 0 (by omega)
    have hspot : spot = none := by simpa [Addr.add] using World.cell?_spot h0
    subst hspot
    have h1 := hc i hi
    rw [add_plain] at h1
    exact h1
section
variable {H : Type} {enc : TypeId × Value → H} {w : World} {base : Nat} {spare : Nat → Bool} {held : Bool} {r : Reach} {b0 : Nat} {v : Value} {d : DataW H} {p : List MemPlace}
theorem open_ty35 (hv : Value.okWide Try.prog w r b0 35 v) (h : DataW.Trod enc Try.prog w base spare held 35 v d p) :
    ∃ (oa : Option Addr) (len cap b o : Nat) (S : Nat → ByteArray), v = .slice oa len cap ∧ Row w oa len b o (fun i => .string (S i)) ∧ ∀ i, (S i).size ≤ maxLen := by
  obtain ⟨a, len, cap, rfl⟩ := okWide_slice Try.underlying35 hv
  obtain ⟨n, h⟩ := h
  rcases open_strings Try.underlying35 Try.underlying9 (by kernel_rfl) h with ⟨h0, -⟩ | ⟨a', len', cap', ss, h0, hb, hl, hm, hlen, -, hc, hss⟩
  · simp [Value.cells] at h0
    obtain ⟨rfl, rfl, rfl⟩ := h0
    exact ⟨none, 0, 0, 0, 0, fun _ => ⟨#[]⟩, rfl, ⟨by unfold maxLen; omega, fun h => absurd h (by omega), fun i hi => absurd hi (by omega)⟩, fun i => by unfold maxLen; simp [ByteArray.size]⟩
  · simp [Value.cells] at h0
    obtain ⟨rfl, rfl, rfl⟩ := h0
    have hge : len ≤ ss.length := by rw [hlen]; split <;> omega
    obtain ⟨b, o, hr⟩ := row_mk a' len (by omega) (fun i => .string (ss.getD i ByteArray.empty)) (fun i hi => hc i (by omega))
    refine ⟨_, _, _, b, o, fun i => ss.getD i ByteArray.empty, rfl, hr, fun i => ?_⟩
    show (ss.getD i ByteArray.empty).size ≤ maxLen
    by_cases hi : i < ss.length
    · have : ss.getD i ByteArray.empty = ss[i] := by simp [List.getD, List.getElem?_eq_getElem hi]
      rw [this]
      exact hss _ (List.getElem_mem hi)
    · have : ss.getD i ByteArray.empty = ByteArray.empty := by simp [List.getD, List.getElem?_eq_none (show ss.length ≤ i by omega)]
      rw [this]
      unfold maxLen
      decide
theorem open_ty22 (hv : Value.okWide Try.prog w r b0 22 v) (h : DataW.Trod enc Try.prog w base spare held 22 v d p) :
    ∃ (oa : Option Addr) (len cap b o : Nat) (Z : Nat → Int), v = .slice oa len cap ∧ Row w oa len b o (fun i => .int .u16 (Z i)) ∧ ∀ i, 0 ≤ Z i ∧ Z i < 65536 := by
  obtain ⟨a, len, cap, rfl⟩ := okWide_slice Try.underlying22 hv
  obtain ⟨n, h⟩ := h
  rcases open_ints Try.underlying22 Try.underlying49 (by kernel_rfl) h with ⟨h0, -⟩ | ⟨a', len', cap', zs, h0, hb, hl, hm, hlen, -, hc, hzs⟩
  · simp [Value.cells] at h0
    obtain ⟨rfl, rfl, rfl⟩ := h0
    exact ⟨none, 0, 0, 0, 0, fun _ => 0, rfl, ⟨by unfold maxLen; omega, fun h => absurd h (by omega), fun i hi => absurd hi (by omega)⟩, fun i => ⟨Int.le_refl 0, show (0 : Int) < 65536 by omega⟩⟩
  · simp [Value.cells] at h0
    obtain ⟨rfl, rfl, rfl⟩ := h0
    have hge : len ≤ zs.length := by rw [hlen]; split <;> omega
    obtain ⟨b, o, hr⟩ := row_mk a' len (by omega) (fun i => .int .u16 (zs.getD i 0)) (fun i hi => hc i (by omega))
    refine ⟨_, _, _, b, o, fun i => zs.getD i 0, rfl, hr, fun i => ?_⟩
    show 0 ≤ zs.getD i 0 ∧ zs.getD i 0 < 65536
    by_cases hi : i < zs.length
    · have : zs.getD i 0 = zs[i] := by simp [List.getD, List.getElem?_eq_getElem hi]
      rw [this]
      have := bounds_u16 (hzs _ (List.getElem_mem hi))
      omega
    · have : zs.getD i 0 = 0 := by simp [List.getD, List.getElem?_eq_none (show zs.length ≤ i by omega)]
      rw [this]
      omega
end
end Go.Proofs.Ytjlojkcdglocbaa
