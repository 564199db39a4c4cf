/- What a call may turn, as a set of blocks: how such facts come together. No condition. -/
import Derived.Test.YtibidhmahjbciaaGObj
namespace Go.Proofs.Ytibidhmahjbciaa
open Go.ChangeShapes Go.WideShapes Go.ChangeAt Go.RowKit
set_option linter.unusedVariables false
set_option linter.unusedSimpArgs false

section
variable {F F2 : Nat → Prop} {w u u' : World}
theorem tn_kept (k : Kept u u') : Tn F u u' := ⟨kept_os k, kept_output k, k.2, fun b hb _ => kept_block k hb⟩
theorem tn_comp (h : Tn F w u) (g : Tn F2 u u') (hf : ∀ b, F2 b → F b ∨ w.heap.size ≤ b) : Tn F w u' :=
  ⟨g.1.trans h.1, g.2.1.trans h.2.1, Nat.le_trans h.2.2.1 g.2.2.1, fun b hb hn => (g.2.2.2 b (Nat.lt_of_lt_of_le hb h.2.2.1) (fun f => (hf b f).elim hn (fun q => by omega))).trans (h.2.2.2 b hb hn)⟩
theorem tn_next (h : Tn F w u) (k : Kept u u') : Tn F w u' := tn_comp h (tn_kept (F := fun _ => False) k) (fun b hb => hb.elim)
theorem tn_turn {G : Nat} (t : Turn G u u') : Tn (fun b => b = G) u u' := ⟨t.1, t.2.1, t.2.2.1, fun b hb hn => t.2.2.2 b hb hn⟩
theorem tn_set (u : World) (X o : Nat) (v : Value) : Tn (fun b => b = X) u (u.setCell ⟨X, o, none⟩ v) := tn_turn (turn_set (Turn.refl X u) o v)
theorem tn_grown {r : Option Nat} (g : u.grownBy u' r) : Tn (fun b => r = some b) u u' := ⟨g.os, g.output, g.size, fun b hb hn => g.block b hb (fun e => hn e.symm)⟩
theorem at_tn {X T : Nat} {cs : Array Value} (h : At u X cs T) (g : Tn F u u') (hn : ¬ F X) : At u' X cs T := (g.2.2.2 X (at_lt h) hn).trans h
theorem og_tn {α : Type} {enc : α → List Value} {c T B : Nat} {v : Value} {xs : List α} (h : Og enc c T u B v xs) (g : Tn F u u') (hn : ∀ b, v.ownBlock = some b → ¬ F b) : Og enc c T u' B v xs := og_block h (fun q cur hq ha => g.2.2.2 q (at_lt ha) (hn q hq))
theorem kept_tn (g : Tn F u u') (h : Kept w u) (hn : ∀ b, F b → w.heap.size ≤ b) : Kept w u' := kept_of (g.1.trans (kept_os h)) (g.2.1.trans (kept_output h)) (Nat.le_trans h.2 g.2.2.1) (fun i hi => (g.2.2.2 i (Nat.lt_of_lt_of_le hi h.2) (fun f => by have := hn i f; omega)).trans (kept_block h hi))
end
theorem own_at {α : Type} {enc : α → List Value} {c T B : Nat} {w : World} {v : Value} {xs : List α} (h : Og enc c T w B v xs) {b : Nat} (hb : v.ownBlock = some b) : ∃ cs, At w b cs T := by
  rcases h.2 with ⟨rfl, _⟩ | ⟨g, cap, cur, rfl, _, hg, _⟩
  · cases hb
  · injection hb with hb
    subst hb
    exact ⟨cur, hg⟩
theorem own_ne {α : Type} {enc : α → List Value} {c T U B X : Nat} {w : World} {v : Value} {xs : List α} {cs : Array Value} (h : Og enc c T w B v xs) (hX : At w X cs U) (hTU : T ≠ U) : ∀ b, v.ownBlock = some b → b ≠ X := fun b hb => by
  obtain ⟨ds, hd⟩ := own_at h hb
  exact at_ne hd hX hTU
end Go.Proofs.Ytibidhmahjbciaa
