/- Rows of numbers in memory; the contract of the reference's Same, of two rows with the same numbers. The rows have at most 4096 numbers. -/
import Derived.Test.YthgbdaladngpdaaGreatWhlSort
import Derived.Deep.Upon
import Derived.Maps.AppendAt
import Derived.Deep.DeepMust
namespace Go.Proofs.YthgbdaladngpdaaGreat.Whl
open Go.ChangeShapes Go.WideShapes Go.ChangeAt Go.RowKit
set_option linter.unusedVariables false
set_option maxRecDepth 100000
set_option linter.unusedSimpArgs false

def iv (xs : List Int) : List Value := xs.map (Value.int .i64)
theorem iv_len (xs : List Int) : (iv xs).length = xs.length := by unfold iv; simp
/- A row that is read. -/
def Rw (w : World) (v : Value) (xs : List Int) : Prop :=
  ∃ a c, v = .slice a xs.length c ∧ (0 < xs.length → ∃ g o, a = some ⟨g, o, none⟩ ∧ ∀ i x, xs[i]? = some x → w.cell? ⟨g, o + i, none⟩ = some (.int .i64 x))
/- A row of one's own. -/
def OwnI (w : World) (B : Nat) (v : Value) (xs : List Int) : Prop := w.ownsRow B 3 1 v xs.length (iv xs)
section
variable {w w' : World} {B : Nat} {v : Value} {xs : List Int}
theorem cell_lt {b o : Nat} {v : Value} (h : w.cell? ⟨b, o, none⟩ = some v) : b < w.heap.size := by
  unfold World.cell? at h
  cases hb : w.heap[b]? with
  | none => simp [hb] at h
  | some x => exact (Array.getElem?_eq_some_iff.1 hb).1
theorem rw_kept (h : Rw w v xs) (k : Kept w w') : Rw w' v xs := by
  obtain ⟨a, c, rfl, h⟩ := h
  refine ⟨a, c, rfl, fun hp => ?_⟩
  obtain ⟨g, o, rfl, hc⟩ := h hp
  exact ⟨g, o, rfl, fun i x hx => (kept_cell k (cell_lt (hc i x hx))).trans (hc i x hx)⟩
theorem own_kept (h : OwnI w B v xs) (k : ∀ g cur, v.ownBlock = some g → At w g cur 3 → w'.heap[g]? = w.heap[g]?) : OwnI w' B v xs := by
  refine ⟨h.1, ?_⟩
  rcases h.2 with hn | ⟨g, cap, cur, rfl, hb, hg, rest⟩
  · exact .inl hn
  · exact .inr ⟨g, cap, cur, rfl, hb, (k g cur rfl hg).trans hg, rest⟩
theorem own_stays (h : OwnI w B v xs) (k : Kept w w') : OwnI w' B v xs := own_kept h (fun g cur _ ha => kept_block k (at_lt ha))
theorem own_low {B' : Nat} (h : OwnI w B v xs) (hb : B' ≤ B) : OwnI w B' v xs := by
  refine ⟨h.1, ?_⟩
  rcases h.2 with hn | ⟨g, cap, cur, rfl, hg, rest⟩
  · exact .inl hn
  · exact .inr ⟨g, cap, cur, rfl, Nat.le_trans hb hg, rest⟩
theorem rw_own (h : OwnI w B v xs) : Rw w v xs := by
  rcases h.2 with ⟨rfl, hn⟩ | ⟨g, cap, cur, rfl, hb, hg, rest⟩
  · exact ⟨none, 0, by rw [hn], fun hp => absurd hp (by omega)⟩
  · refine ⟨_, cap, rfl, fun _ => ⟨g, 0, rfl, fun i x hx => ?_⟩⟩
    have := World.ownsRow.cells h (g := g) rfl i (.int .i64 x) (by unfold iv; simp [hx])
    rw [← this]
    rcases Nat.eq_zero_or_pos i with h0 | h0
    · subst h0; simp [Addr.add]
    · rw [show (⟨g, 0, none⟩ : Addr).add i = ⟨g, 0 + i, none⟩ by simp [Addr.add]; omega]
theorem own_nil (w : World) (B : Nat) : OwnI w B (.slice none 0 0) [] := World.ownsRow_nil w B 3 1
/- A row as it is built. -/
theorem own_built (w : World) (B : Nat) (hB : B ≤ w.heap.size) (xs : List Int) (hm : xs.length ≤ 4096) : OwnI (w.alloc (.cells (iv xs).toArray 3)) B (.slice (some ⟨w.heap.size, 0, none⟩) xs.length xs.length) xs := by
  refine ⟨by rw [iv_len, Nat.mul_one], .inr ⟨w.heap.size, xs.length, _, rfl, hB, at_new w _ 3, Nat.le_refl _, by unfold maxLen; omega, by simp [iv_len], ?_⟩⟩
  have h1 : xs.length * 1 = (iv xs).length := by rw [iv_len, Nat.mul_one]
  rw [h1]
  simp
end
theorem info3 : (Tryz.prog.info? 3).map (fun i => (i.zero, i.size, i.bytes)) = some (some (.int .i64 0), 1, 8) := by kernel_rfl
theorem take_on {xs : List Int} {k : Nat} (h : k < xs.length) : xs.take (k + 1) = xs.take k ++ [xs[k]] := List.take_succ_eq_append_getElem h
theorem cell_one (w : World) (x : Value) : ∀ (j : Nat) (u : Value), ([x] : List Value)[j]? = some u → (w.alloc (.cells #[x] 3)).cell? ((⟨w.heap.size, 0, none⟩ : Addr).add j) = some u := by
  intro j u hu
  match j, hu with
  | 0, hu =>
    simp at hu
    subst hu
    exact at_cell (at_new w #[x] 3) 0
  | j + 1, hu => simp at hu
/- What a call answers that makes a row. -/
def RowC (xs : List Int) (w : World) (e : Ending) (w' : World) : Prop := ∃ v, e = .returned v ∧ OwnI w' w.heap.size v xs ∧ Kept w w'
theorem own_len {w : World} {B m : Nat} {v : Value} {xs : List Int} (h : w.ownsRow B 3 1 v m (iv xs)) (e : xs.length = m) : OwnI w B v xs := by subst e; exact h
theorem iv_snoc (xs : List Int) (x : Int) : iv (xs ++ [x]) = iv xs ++ [.int .i64 x] := by unfold iv; simp
theorem kept_grown {W w w' : World} {row : Option Nat} (h : Kept W w) (g : w.grownBy w' row) (hr : ∀ k, row = some k → W.heap.size ≤ k) : Kept W w' :=
  kept_of (g.os.trans (kept_os h)) (g.output.trans (kept_output h)) (Nat.le_trans h.2 g.size) (fun i hi => (g.block i (Nat.lt_of_lt_of_le hi h.2) (fun e => by have := hr i e.symm; omega)).trans (kept_block h hi))
def lenV : Value → Nat
  | .slice _ n _ => n
  | _ => 0
theorem own_lenV {w : World} {B : Nat} {v : Value} {xs : List Int} (h : OwnI w B v xs) : lenV v = xs.length := by
  obtain ⟨a, c, rfl, _⟩ := rw_own h
  rfl
theorem own_tn {F : Nat → Prop} {w w' : World} {B : Nat} {v : Value} {xs : List Int} (h : OwnI w B v xs) (t : Tn F w w') (hF : ∀ k, F k → k < B) : OwnI w' B v xs := by
  refine ⟨h.1, ?_⟩
  rcases h.2 with hn | ⟨g, cap, cur, rfl, hb, hg, rest⟩
  · exact .inl hn
  · exact .inr ⟨g, cap, cur, rfl, hb, (t.2.2.2 g (at_lt hg) (fun hf => by have := hF g hf; omega)).trans hg, rest⟩
end Go.Proofs.YthgbdaladngpdaaGreat.Whl
