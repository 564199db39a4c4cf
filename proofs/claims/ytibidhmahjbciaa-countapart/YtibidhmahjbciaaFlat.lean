/- What a law's call may leave: nothing turned of what was there (Kept). Then its row's end follows, whatever its arguments lead to: each reads as it did. -/
import Derived.ChangeSame
import Derived.RowKit3
import Derived.WideKeyArgs
import Derived.Laws.AppendOwn
namespace Go.Proofs.Ytibidhmahjbciaa
open Go.ChangeShapes Go.WideShapes Go.RowKit

def Kept (W w : World) : Prop := W.keptBut w (fun _ => False) ∧ W.heap.size ≤ w.heap.size
theorem kept_refl (W : World) : Kept W W := ⟨World.keptBut_refl _ _, Nat.le_refl _⟩
theorem kept_trans {u v w : World} (g : Kept u v) (h : Kept v w) : Kept u w := ⟨World.keptBut_trans g.1 h.1, Nat.le_trans g.2 h.2⟩
theorem kept_block {w w' : World} (g : Kept w w') {i : Nat} (hi : i < w.heap.size) : w'.heap[i]? = w.heap[i]? := World.keptBut.block g.1 hi (fun _ h => h.elim)
theorem kept_of {W w : World} (h1 : w.os = W.os) (h2 : w.output = W.output) (h3 : W.heap.size ≤ w.heap.size) (h4 : ∀ i, i < W.heap.size → w.heap[i]? = W.heap[i]?) : Kept W w := by
  refine ⟨⟨h1, h2, fun i hi => ?_⟩, h3⟩
  rw [h4 i hi]
  split <;> simp_all
theorem kept_os {W w : World} (h : Kept W w) : w.os = W.os := h.1.1
theorem kept_output {W w : World} (h : Kept W w) : w.output = W.output := h.1.2.1
theorem kept_cell {w w' : World} (g : Kept w w') {b o : Nat} (hb : b < w.heap.size) : w'.cell? ⟨b, o, none⟩ = w.cell? ⟨b, o, none⟩ := World.cell?_of_block (w := w) (kept_block g hb)
theorem kept_same {w w' : World} (g : Kept w w') {p : MemPlace} (hp : p.block < w.heap.size) : w.sameAt w' p := by
  cases p with
  | cell b o => exact kept_cell g hp
  | map b => exact kept_block g hp

section
variable {H : Type} {enc : TypeId × Value → H} {P : Program}
theorem trodAll_stays (hl : laidOutB P = true) {W W' : World} {sp : Nat → Bool} (hk : Kept W W') :
    ∀ {ts : List TypeId} {vs : List Value} {ds : List (DataW H)} {ps : List MemPlace}, (∀ t ∈ ts, P.readableRec t = true ∧ t < P.types.size) → DataW.TrodAll enc P W 0 (fun _ => true) true ts vs ds ps → (∀ p ∈ ps, p.block < W.heap.size) → (∀ p ∈ ps, sp p.block = true) → DataW.TrodAll enc P W' 0 sp true ts vs ds ps
  | [], _, _, _, _, h, _, _ => by
    obtain ⟨rfl, rfl, rfl⟩ := trodAll_nil h
    exact trodAll_mk0
  | t :: ts, _, _, _, hr, h, hlt, hs => by
    obtain ⟨v, vs, d, ds, p, q, rfl, rfl, rfl, h0, h1⟩ := trodAll_cons h
    obtain ⟨r1, r2⟩ := hr t (List.mem_cons.2 (.inl rfl))
    refine ⟨p, q, ?_, trodAll_stays hl hk (fun t ht => hr t (List.mem_cons.2 (.inr ht))) h1 (fun x hx => hlt x (List.mem_append_right _ hx)) (fun x hx => hs x (List.mem_append_right _ hx)), rfl⟩
    exact Go.WideElems.Trod_stays hl r1 r2 h0 (fun x hx => kept_same hk (hlt x (List.mem_append_left _ hx))) (fun x hx => hs x (List.mem_append_left _ hx))
variable {W W' : World} {before : List MemPlace} {ds gs : List (DataW H)} {v : Value} {s : ChangeSpec} {f : Func} {args : Array Value} {handsOn fresh apart : Bool}
theorem post_kept
    (hl : laidOutB P = true) (hr : ∀ t ∈ f.params.toList, P.readableRec t = true ∧ t < P.types.size) (hno : s.vars = [])
    (hW : DataW.Whole enc P f.params.toList s.vars apart W args.toList ds gs before)
    (hres : ∀ (b : Nat) (sp : Nat → Bool) (hd : Bool), DataW.TrodAll enc P W' b sp hd f.resultTypes.toList (v.resultList f.resultTypes.size) (s.fn H (ds ++ gs)).results [])
    (hargs : (s.fn H (ds ++ gs)).args = ds) (hvars : (s.fn H (ds ++ gs)).vars = [])
    (hk : Kept W W') : s.post enc P f apart fresh handsOn false W args v W' := by
  have hlt := hW.lt
  have hW' := hW
  obtain ⟨p, q, hA, hV, rfl, hfz, hnd⟩ := hW
  refine ⟨ds, gs, p ++ q, [], p, [], hW', hres _ _ _, ?_, ?_, World.keptBut_mono (fun _ h => h.elim) hk.1, fun h => by cases h⟩
  · rw [hargs]
    exact trodAll_stays hl hk hr hA (fun x hx => hlt x (List.mem_append_left _ hx)) (fun x hx => by simpa using hlt x (List.mem_append_left _ hx))
  · rw [hno, hvars]; rfl
end
end Go.Proofs.Ytibidhmahjbciaa
