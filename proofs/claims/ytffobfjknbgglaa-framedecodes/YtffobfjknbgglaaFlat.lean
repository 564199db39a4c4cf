/- A call whose arguments lead to no memory: its row's end follows if of what was there nothing has turned, whatever the call has laid of its own, frozen cells too. -/
import Derived.ChangeSame
import Derived.RowKit3
namespace Go.Proofs.Ytffobfjknbgglaa
open Go.ChangeShapes Go.WideShapes Go.RowKit

def Kept (W w : World) : Prop := W.keptBut w (fun _ => False) ∧ W.heap.size ≤ w.heap.size
theorem kept_refl (W : World) : Kept W W := ⟨World.keptBut_refl _ _, Nat.le_refl _⟩
theorem kept_trans {u v w : World} (g : Kept u v) (h : Kept v w) : Kept u w := ⟨World.keptBut_trans g.1 h.1, Nat.le_trans g.2 h.2⟩
theorem kept_grown {u v : World} (g : Grown u v) : Kept u v := ⟨g.1, g.2.2⟩
theorem kept_block {w w' : World} (g : Kept w w') {i : Nat} (hi : i < w.heap.size) : w'.heap[i]? = w.heap[i]? := World.keptBut.block g.1 hi (fun _ h => h.elim)
theorem kept_of {W w : World} (h1 : w.os = W.os) (h2 : w.output = W.output) (h3 : W.heap.size ≤ w.heap.size) (h4 : ∀ i, i < W.heap.size → w.heap[i]? = W.heap[i]?) : Kept W w := by
  refine ⟨⟨h1, h2, fun i hi => ?_⟩, h3⟩
  rw [h4 i hi]
  split <;> simp_all
theorem kept_os {W w : World} (h : Kept W w) : w.os = W.os := h.1.1
theorem kept_output {W w : World} (h : Kept W w) : w.output = W.output := h.1.2.1

theorem post_flat {H : Type} {enc : TypeId × Value → H} {P : Program} {f : Func} {s : ChangeSpec} {apart fresh handsOn again : Bool} {W W' : World} {args : Array Value} {v : Value} {ds gs : List (DataW H)}
    (hW : DataW.Whole enc P f.params.toList s.vars apart W args.toList ds gs [])
    (hres : ∀ (b : Nat) (sp : Nat → Bool) (hd : Bool), DataW.TrodAll enc P W' b sp hd f.resultTypes.toList (v.resultList f.resultTypes.size) (s.fn H (ds ++ gs)).results [])
    (hargs : ∀ sp : Nat → Bool, DataW.TrodAll enc P W' 0 sp true f.params.toList args.toList (s.fn H (ds ++ gs)).args [])
    (hvars : ∀ sp : Nat → Bool, DataW.TrodVars enc P W' sp s.vars (s.fn H (ds ++ gs)).vars [])
    (hk : Kept W W')
    (hok : ∀ (j : Nat) (t : TypeId) (r : Value), f.resultTypes[j]? = some t → (v.resultList f.resultTypes.size)[j]? = some r → Value.okWide P W' .any 0 t r) :
    s.post enc P f apart fresh handsOn again W args v W' := by
  refine ⟨ds, gs, [], [], [], [], hW, hres _ _ _, hargs _, hvars _, World.keptBut_mono (fun _ h => h.elim) hk.1, fun _ => ?_⟩
  refine ⟨hok, _, _, [], ⟨[], [], trodAll_append (hargs _) (hres _ _ _), hvars _, rfl, ?_, ?_⟩, ?_⟩
  · intro b off hp; cases hp
  · intro _; simp
  · intro p hp; cases hp
end Go.Proofs.Ytffobfjknbgglaa
