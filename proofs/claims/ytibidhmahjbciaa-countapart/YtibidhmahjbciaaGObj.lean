/- Objects whose form is their maker's own: a predicate T says that one lies at a place, with what it holds, and which blocks are its own. What a walk needs of such ones. -/
import Derived.Test.YtibidhmahjbciaaGCopy
namespace Go.Proofs.Ytibidhmahjbciaa
open Go.ChangeShapes Go.WideShapes Go.ChangeAt Go.RowKit
set_option linter.unusedVariables false
set_option linter.unusedSimpArgs false

/- Only what is one's own may turn. -/
def Tn (F : Nat → Prop) (w w' : World) : Prop := w'.os = w.os ∧ w'.output = w.output ∧ w.heap.size ≤ w'.heap.size ∧ ∀ b, b < w.heap.size → ¬ F b → w'.heap[b]? = w.heap[b]?
/- A call turns what is one's own and new blocks alone. -/
def Sd (F : Nat → Prop) (w : World) (F' : Nat → Prop) (w' : World) : Prop := Tn F w w' ∧ ∀ b, F' b → F b ∨ w.heap.size ≤ b
def Shape (σ : Type) := World → Nat → σ → (Nat → Prop) → Prop
structure ObjIs {σ : Type} (T : Shape σ) : Prop where
  lt : ∀ {w X s F b}, T w X s F → F b → b < w.heap.size
  stay : ∀ {w w' X s F}, T w X s F → (∀ b, F b → w'.heap[b]? = w.heap[b]?) → T w' X s F
/- One as a walk knows it: W is the world ahead of all. -/
structure TT {σ : Type} (T : Shape σ) (W : World) (X : Nat) (s : σ) (F : Nat → Prop) (w : World) : Prop where
  t : T w X s F
  k : Kept W w
  f : ∀ b, F b → W.heap.size ≤ b
def Off (w : World) (F : Nat → Prop) (b : Nat) : Prop := b < w.heap.size ∧ ¬ F b
section
variable {σ : Type} {T : Shape σ} {W w w' : World} {X : Nat} {s s' : σ} {F F' : Nat → Prop} {b : Nat}
theorem sd_kept (k : Kept w w') : Sd F w F w' := ⟨⟨kept_os k, kept_output k, k.2, fun b hb _ => kept_block k hb⟩, fun b hb => .inl hb⟩
theorem off_kept (h : Off w F b) (k : Kept w w') : Off w' F b := ⟨Nat.lt_of_lt_of_le h.1 k.2, h.2⟩
theorem off_sd (h : Off w F b) (s : Sd F w F' w') : Off w' F' b := ⟨Nat.lt_of_lt_of_le h.1 s.1.2.2.1, fun hf => (s.2 b hf).elim h.2 (fun g => by have := h.1; omega)⟩
theorem off_same (h : Off w F b) (s : Sd F w F' w') : w'.heap[b]? = w.heap[b]? := s.1.2.2.2 b h.1 h.2
theorem off_new (hT : ObjIs T) (h : TT T W X s F w) (hb : w.heap.size ≤ b) (hb2 : b < w'.heap.size) : Off w' F b := ⟨hb2, fun hf => by have := hT.lt h.t hf; omega⟩
theorem off_turned {m : Nat} (h : Off w F b) (t : w.mapTurned w' m) : Off w' F b := ⟨Nat.lt_of_lt_of_le h.1 t.grown.size, h.2⟩
theorem off_grown {r : Option Nat} (h : Off w F b) (g : w.grownBy w' r) : Off w' F b := ⟨Nat.lt_of_lt_of_le h.1 g.size, h.2⟩
theorem at_sd {Z U : Nat} {cs : Array Value} (h : At w Z cs U) (o : Off w F Z) (s : Sd F w F' w') : At w' Z cs U := (off_same o s).trans h
theorem tt_kept (hT : ObjIs T) (h : TT T W X s F w) (kk : Kept w w') : TT T W X s F w' := ⟨hT.stay h.t (fun b hb => kept_block kk (hT.lt h.t hb)), kept_trans h.k kk, h.f⟩
theorem tt_sd (h : TT T W X s F w) (ht : T w' X s' F') (d : Sd F w F' w') : TT T W X s' F' w' :=
  ⟨ht, kept_of (d.1.1.trans (kept_os h.k)) (d.1.2.1.trans (kept_output h.k)) (Nat.le_trans h.k.2 d.1.2.2.1) (fun i hi => (d.1.2.2.2 i (Nat.lt_of_lt_of_le hi h.k.2) (fun hf => by have := h.f i hf; omega)).trans (kept_block h.k hi)), fun b hb => (d.2 b hb).elim (h.f b) (fun g => Nat.le_trans h.k.2 g)⟩
theorem tt_turned (hT : ObjIs T) (h : TT T W X s F w) {m : Nat} (hm : Off w F m) (hw : W.heap.size ≤ m) (t : w.mapTurned w' m) : TT T W X s F w' :=
  ⟨hT.stay h.t (fun b hb => turned_block t (hT.lt h.t hb) (fun e => hm.2 (e ▸ hb))), kept_turned h.k hw t, h.f⟩
theorem tt_grown (hT : ObjIs T) (h : TT T W X s F w) {r : Option Nat} (hr : ∀ q, r = some q → Off w F q ∧ W.heap.size ≤ q) (g : w.grownBy w' r) : TT T W X s F w' :=
  ⟨hT.stay h.t (fun b hb => g.block b (hT.lt h.t hb) (fun e => (hr b e.symm).1.2 hb)), kept_gr h.k g (fun j hj => (hr j hj).2), h.f⟩
theorem tt_off (h : TT T W X s F w) {b : Nat} (hb : b < W.heap.size) : Off w F b := ⟨Nat.lt_of_lt_of_le hb h.k.2, fun hf => by have := h.f b hf; omega⟩
/- A row apart from one. -/
theorem og_sd {α : Type} {enc : α → List Value} {c U : Nat} {v : Value} {xs : List α} {B : Nat} (h : Og enc c U w B v xs) (hF : ∀ g, v.ownBlock = some g → ¬ F g) (d : Sd F w F' w') : Og enc c U w' B v xs := og_block h (fun g cur hg ha => d.1.2.2.2 g (at_lt ha) (hF g hg))
theorem apart_sd {α : Type} {enc : α → List Value} {c U : Nat} {v : Value} {xs : List α} {B : Nat} (h : Og enc c U w B v xs) (hF : ∀ g, v.ownBlock = some g → ¬ F g) (d : Sd F w F' w') : ∀ g, v.ownBlock = some g → ¬ F' g := fun g hg hf => (d.2 g hf).elim (hF g hg) (fun q => by have := (World.ownsRow.lt h g hg).2; omega)
theorem apart_new (hT : ObjIs T) (ht : T w X s F) {α : Type} {enc : α → List Value} {c U B : Nat} {u : World} {v : Value} {xs : List α} (h : Og enc c U u B v xs) (hB : w.heap.size ≤ B) : ∀ g, v.ownBlock = some g → ¬ F g := fun g hg hf => by have := hT.lt ht hf; have := og_lt h hg; omega
end
end Go.Proofs.Ytibidhmahjbciaa
