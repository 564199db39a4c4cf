/- Maps in memory as plain functions of their keys, which are numbers: to truth (Used), to numbers (Lasts): what is looked up, stored and counted. The keys are below 100000. -/
import Derived.Test.YtnpfjfolpfokoaaOpen
import Derived.Maps.OwnSet
namespace Go.Proofs.Ytnpfjfolpfokoaa
open Go.ChangeShapes Go.WideShapes Go.ChangeAt Go.RowKit
set_option linter.unusedVariables false
set_option linter.unusedSimpArgs false

/- What a map's turning leaves. -/
section
variable {W w w' : World} {b : Nat}
theorem turned_block (h : w.mapTurned w' b) {i : Nat} (hi : i < w.heap.size) (hn : i ≠ b) : w'.heap[i]? = w.heap[i]? := h.grown.block i hi (fun e => hn (Option.some.inj e))
theorem kept_turned (k : Kept W w) (hb : W.heap.size ≤ b) (h : w.mapTurned w' b) : Kept W w' := by
  have g := h.grown
  exact kept_of (g.os.trans (kept_os k)) (g.output.trans (kept_output k)) (Nat.le_trans k.2 g.size) (fun i hi => (turned_block h (Nat.lt_of_lt_of_le hi k.2) (by omega)).trans (kept_block k hi))
theorem turned_map (h : w.mapTurned w' b) : ∃ es clock, w.heap[b]? = some (.map es clock) := by
  obtain ⟨es, clock, _, _, hb, _⟩ := h
  exact ⟨es, clock, hb⟩
theorem at_map {X T : Nat} {cs : Array Value} (h : At w X cs T) {es : Array MapEntry} {clock : Nat} (g : w.heap[b]? = some (.map es clock)) : X ≠ b := by
  rintro rfl
  unfold At at h
  rw [h] at g
  cases g
theorem at_turned {X T : Nat} {cs : Array Value} (h : At w X cs T) (t : w.mapTurned w' b) : At w' X cs T := by
  obtain ⟨es, clock, g⟩ := turned_map t
  exact (turned_block t (at_lt h) (at_map h g)).trans h
theorem good_turned {X R n : Nat} {l : List Nat} (g : Good w X R n l) (t : w.mapTurned w' b) : Good w' X R n l := by
  obtain ⟨h1, h2, A, B, hL, r⟩ := g
  obtain ⟨cs, h3, h4⟩ := hL.2
  exact ⟨h1, h2, A, B, ⟨at_turned hL.1 t, cs, at_turned h3 t, h4⟩, r⟩
theorem own_turned {B : Nat} {v : Value} {xs : List Int} (h : OwnI w B v xs) (t : w.mapTurned w' b) : OwnI w' B v xs := by
  obtain ⟨es, clock, g⟩ := turned_map t
  exact own_kept h (fun i cur _ ha => turned_block t (at_lt ha) (at_map ha g))
theorem owns_kept {D : DataW Unit} {k : TypeId} {Q : Value → Option (DataW Unit × List MemPlace)} {n : Nat} (h : w.ownsMap Try.prog k Q b n D) (e : w'.heap[b]? = w.heap[b]?) : w'.ownsMap Try.prog k Q b n D := by
  obtain ⟨es, clock, hb, r⟩ := h
  exact ⟨es, clock, e.trans hb, r⟩
theorem owns_turn {D : DataW Unit} {k : TypeId} {Q : Value → Option (DataW Unit × List MemPlace)} {X R n m : Nat} {l : List Nat} (h : w.ownsMap Try.prog k Q b m D) (g : Good w X R n l) (t : Turn R w w') : w'.ownsMap Try.prog k Q b m D := by
  obtain ⟨es, clock, hb, r⟩ := id h
  obtain ⟨_, _, A, B, hL, _⟩ := g
  obtain ⟨cs, hr, _⟩ := hL.2
  exact owns_kept h (t.2.2.2 b h.lt (Ne.symm (at_map hr hb)))
end
theorem zero3 (w : World) : (zeroValue 3).run Try.prog w = .ok (.int .i64 0) w := by kernel_rfl
theorem zero4 (w : World) : (zeroValue 4).run Try.prog w = .ok (.bool false) w := by kernel_rfl
theorem keyed3 : Maps.Keyed Try.prog 3 := Maps.int_keyed Try.underlying3
theorem plain_bool_inv {v : Value} {z : DataW Unit × List MemPlace} (h : plainElem Try.prog 4 v = some z) : ∃ x, v = .bool x ∧ z = (.lit (.bool x), []) := by
  unfold plainElem at h
  rw [Try.underlying4] at h
  cases v <;> simp at h
  exact ⟨_, rfl, h.symm⟩
def ki (i : Nat) : Lit := .int .i64 (i : Int)
theorem ki_ne {a b : Nat} (h : a ≠ b) : ki a ≠ ki b := fun e => h (by unfold ki at e; injection e with _ e; omega)
theorem key3 (i : Nat) (h : i ≤ 100000) : keyOf Try.prog 3 (.int .i64 (i : Int)) = some (ki i) := Maps.keyOf_int_mk Try.underlying3 (WalkArith.wf_i64 (by omega))
/- A map of numbers and truth. -/
def Used (w : World) (b n : Nat) (U : Nat → Bool) : Prop :=
  ∃ D : DataW Unit, w.ownsMap Try.prog 3 (plainElem Try.prog 4) b n D ∧ ∀ i : Nat, Maps.has D (ki i) = U i ∧ (U i = true → D.atKey (ki i) (.lit (.bool false)) = .lit (.bool true))
section
variable {w w' : World} {b n : Nat} {U : Nat → Bool}
theorem used_kept (h : Used w b n U) (k : Kept w w') : Used w' b n U := by
  obtain ⟨D, h1, h2⟩ := h
  exact ⟨D, owns_kept h1 (kept_block k h1.lt), h2⟩
theorem used_made (w : World) : Used (w.alloc (.map #[] 0)) w.heap.size 0 (fun _ => false) :=
  ⟨.map [], World.ownsMap_made w Try.prog 3 _, fun s => ⟨rfl, fun h => by cases h⟩⟩
theorem used_look (h : Used w b n U) (i : Nat) (hi : i ≤ 100000) : (Instr.lookup 41 (.map (some b)) (.int .i64 (i : Int)) false).run Try.prog w = .ok (.bool (U i)) w := by
  obtain ⟨D, h1, h3⟩ := h
  obtain ⟨v, ps, hrun, hv⟩ := h1.lookup keyed3 Try.underlying41 (zero4 w) (plainElem_bool Try.underlying4 false) (key3 i hi)
  obtain ⟨g1, g2⟩ := h3 i
  obtain ⟨x, rfl, hx⟩ := plain_bool_inv hv
  have hx := congrArg Prod.fst hx
  simp only at hx
  rw [hrun]
  cases e : U i with
  | false =>
    rw [e] at g1
    rw [Maps.atKey_of_not_has g1] at hx
    injection hx with hx
    injection hx with hx
    rw [← hx]
  | true =>
    rw [g2 e] at hx
    injection hx with hx
    injection hx with hx
    rw [← hx]
theorem used_put (h : Used w b n U) (hn : n < 100000) (i : Nat) (hi : i ≤ 100000) :
    ∃ w', (Instr.mapUpdate 41 (.map (some b)) (.int .i64 (i : Int)) (.bool true)).run Try.prog w = .ok () w' ∧ Used w' b (n + 1) (fun q => if q = i then true else U q) ∧ w.mapTurned w' b := by
  obtain ⟨D, h1, h3⟩ := h
  obtain ⟨w', hrun, g1, g2⟩ := h1.store keyed3 Try.underlying41 (by unfold maxLen; omega) (key3 i hi) (plainElem_bool Try.underlying4 true)
  have hI : WideAt.IsKeyLit (ki i) := keyed3.key (key3 i hi)
  refine ⟨w', hrun, ⟨_, g1, fun q => ?_⟩, g2⟩
  by_cases e : q = i
  · subst e
    simp only [if_pos]
    rw [Maps.has_put_same h1.isMap hI]
    exact ⟨rfl, fun _ => by rw [Maps.atKey_put_same h1.isMap hI]⟩
  · simp only [if_neg e]
    rw [Maps.has_put_other (ki_ne e)]
    exact ⟨(h3 q).1, fun hy => by rw [Maps.atKey_put_other (ki_ne e)]; exact (h3 q).2 hy⟩
end
/- A map of numbers and numbers; it has c keys. -/
def Lasts (w : World) (b n : Nat) (M : Nat → Option Nat) (c : Nat) : Prop :=
  ∃ D : DataW Unit, w.ownsMap Try.prog 3 (plainElem Try.prog 3) b n D ∧ Maps.size D = c ∧ ∀ i : Nat, Maps.has D (ki i) = (M i).isSome ∧ ∀ v, M i = some v → D.atKey (ki i) (.lit (.int .i64 0)) = .lit (.int .i64 (v : Int))
section
variable {w w' : World} {b n c : Nat} {M : Nat → Option Nat}
theorem lasts_kept (h : Lasts w b n M c) (k : Kept w w') : Lasts w' b n M c := by
  obtain ⟨D, h1, h2⟩ := h
  exact ⟨D, owns_kept h1 (kept_block k h1.lt), h2⟩
theorem lasts_turn {X R m : Nat} {l : List Nat} (h : Lasts w b n M c) (g : Good w X R m l) (t : Turn R w w') : Lasts w' b n M c := by
  obtain ⟨D, h1, h2⟩ := h
  exact ⟨D, owns_turn h1 g t, h2⟩
theorem lasts_made (w : World) : Lasts (w.alloc (.map #[] 0)) w.heap.size 0 (fun _ => none) 0 :=
  ⟨.map [], World.ownsMap_made w Try.prog 3 _, rfl, fun s => ⟨rfl, fun v h => by cases h⟩⟩
theorem lasts_val {D : DataW Unit} {v : Value} {i : Nat} {ps : List MemPlace} (g1 : Maps.has D (ki i) = (M i).isSome) (g2 : ∀ v, M i = some v → D.atKey (ki i) (.lit (.int .i64 0)) = .lit (.int .i64 (v : Int))) (hv : plainElem Try.prog 3 v = some (D.atKey (ki i) (.lit (.int .i64 0)), ps)) : v = .int .i64 (((M i).getD 0 : Nat) : Int) := by
  obtain ⟨x, rfl, hx, -⟩ := plainElem_int_inv Try.underlying3 hv
  have hx := congrArg Prod.fst hx
  simp only at hx
  cases e : M i with
  | none =>
    rw [e] at g1
    rw [Maps.atKey_of_not_has g1] at hx
    injection hx with hx
    injection hx with _ hx
    rw [← hx]; rfl
  | some y =>
    rw [g2 y e] at hx
    injection hx with hx
    injection hx with _ hx
    rw [← hx]; rfl
theorem lasts_look (h : Lasts w b n M c) (i : Nat) (hi : i ≤ 100000) : (Instr.lookup 44 (.map (some b)) (.int .i64 (i : Int)) false).run Try.prog w = .ok (.int .i64 (((M i).getD 0 : Nat) : Int)) w := by
  obtain ⟨D, h1, h2, h3⟩ := h
  obtain ⟨v, ps, hrun, hv⟩ := h1.lookup keyed3 Try.underlying44 (zero3 w) (plainElem_int Try.underlying3 (by decide)) (key3 i hi)
  rw [hrun, lasts_val (h3 i).1 (h3 i).2 hv]
theorem lasts_lookok (h : Lasts w b n M c) (i : Nat) (hi : i ≤ 100000) : (Instr.lookup 44 (.map (some b)) (.int .i64 (i : Int)) true).run Try.prog w = .ok (.tuple #[.int .i64 (((M i).getD 0 : Nat) : Int), .bool (M i).isSome]) w := by
  obtain ⟨D, h1, h2, h3⟩ := h
  obtain ⟨v, ps, hrun, hv⟩ := h1.look_ok keyed3 Try.underlying44 (zero3 w) (plainElem_int Try.underlying3 (by decide)) (key3 i hi)
  rw [hrun, (h3 i).1, lasts_val (h3 i).1 (h3 i).2 hv]
theorem lasts_len (h : Lasts w b n M c) (ty : TypeId) : (Builtin.len_ #[44] ty #[.map (some b)]).run Try.prog w = .ok (.int .i64 (c : Int)) w := by
  obtain ⟨D, h1, h2, h3⟩ := h
  rw [h1.len Try.underlying44 ty, h2]
theorem lasts_put (h : Lasts w b n M c) (hn : n < 100000) (i : Nat) (hi : i ≤ 100000) (v : Nat) (hv : v ≤ 100000) :
    ∃ w', (Instr.mapUpdate 44 (.map (some b)) (.int .i64 (i : Int)) (.int .i64 (v : Int))).run Try.prog w = .ok () w' ∧ Lasts w' b (n + 1) (fun q => if q = i then some v else M q) (c + if M i = none then 1 else 0) ∧ w.mapTurned w' b := by
  obtain ⟨D, h1, h2, h3⟩ := h
  obtain ⟨w', hrun, g1, g2⟩ := h1.store keyed3 Try.underlying44 (by unfold maxLen; omega) (key3 i hi) (plainElem_int Try.underlying3 (a := (v : Int)) (WalkArith.wf_i64 (by omega)))
  have hI : WideAt.IsKeyLit (ki i) := keyed3.key (key3 i hi)
  refine ⟨w', hrun, ⟨_, g1, ?_, fun q => ?_⟩, g2⟩
  · rw [Maps.size_put (h1.tidy keyed3), (h3 i).1, h2]
    cases e : M i with
    | none => simp
    | some y => simp
  · by_cases e : q = i
    · subst e
      simp only [if_pos]
      rw [Maps.has_put_same h1.isMap hI]
      refine ⟨rfl, fun y hy => ?_⟩
      injection hy with hy
      rw [Maps.atKey_put_same h1.isMap hI, hy]
    · simp only [if_neg e]
      rw [Maps.has_put_other (ki_ne e)]
      exact ⟨(h3 q).1, fun y hy => by rw [Maps.atKey_put_other (ki_ne e)]; exact (h3 q).2 y hy⟩
end
end Go.Proofs.Ytnpfjfolpfokoaa
