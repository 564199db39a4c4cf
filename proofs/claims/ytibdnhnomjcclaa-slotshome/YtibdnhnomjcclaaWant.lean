/- Maps in memory as plain functions of their keys: of texts and numbers (Wants), of numbers and truth (Used): what is looked up, stored, deleted and counted. The texts have at most as many bytes as a text may have, the numbers are such as a number may be. -/
import Derived.Test.YtibdnhnomjcclaaKeys
import Derived.Maps.OwnSet
import Derived.StringKeys
namespace Go.Proofs.Ytibdnhnomjcclaa
open Go.ChangeShapes Go.WideShapes Go.ChangeAt Go.RowKit
set_option linter.unusedVariables false
set_option linter.unusedSimpArgs false

/- What a map's turning leaves. -/
section
variable {W w w' : World} {b : Nat}
theorem turned_block (h : w.mapTurned w' b) {i : Nat} (hi : i < w.heap.size) (hn : i ≠ b) : w'.heap[i]? = w.heap[i]? := h.grown.block i hi (fun e => hn (Option.some.inj e))
theorem kept_turned (k : Kept W w) (hb : W.heap.size ≤ b) (h : w.mapTurned w' b) : Kept W w' := by
  have g := h.grown
  exact kept_of (g.os.trans (kept_os k)) (g.output.trans (kept_output k)) (Nat.le_trans k.2 g.size) (fun i hi => (turned_block h (Nat.lt_of_lt_of_le hi k.2) (by omega)).trans (kept_block k hi))
theorem turned_map (h : w.mapTurned w' b) : ∃ es clock, w.heap[b]? = some (.map es clock) := by
  obtain ⟨es, clock, _, _, hb, _⟩ := h
  exact ⟨es, clock, hb⟩
theorem at_map {X T : Nat} {cs : Array Value} (h : At w X cs T) {es : Array MapEntry} {clock : Nat} (g : w.heap[b]? = some (.map es clock)) : X ≠ b := by
  rintro rfl
  unfold At at h
  rw [h] at g
  cases g
theorem at_turned {X T : Nat} {cs : Array Value} (h : At w X cs T) (t : w.mapTurned w' b) : At w' X cs T := by
  obtain ⟨es, clock, g⟩ := turned_map t
  exact (turned_block t (at_lt h) (at_map h g)).trans h
theorem row_turned {T R m : Nat} {L : Tb} (h : RowT w T R m L) (t : w.mapTurned w' b) : RowT w' T R m L := by
  obtain ⟨cs, h1, h2⟩ := h
  exact ⟨cs, at_turned h1 t, h2⟩
theorem good_turned {X R m most : Nat} {L : Tb} (g : Good w X R m most L) (t : w.mapTurned w' b) : Good w' X R m most L :=
  ⟨⟨at_turned g.tab.1 t, row_turned g.tab.2 t⟩, g.ok, g.some, g.fit, g.full, g.low, g.small⟩
theorem own_turned {B n : Nat} {v : Value} {xs : List Value} (h : w.ownsRow B 9 1 v n xs) (t : w.mapTurned w' b) : w'.ownsRow B 9 1 v n xs := by
  obtain ⟨es, clock, g⟩ := turned_map t
  exact own_kept h (fun i cur _ ha => turned_block t (at_lt ha) (at_map ha g))
end
def kl (s : ByteArray) : Lit := .string s.data.toList
theorem kl_ne {a b : ByteArray} (h : a ≠ b) : kl a ≠ kl b := fun e => h (bytes_ext (by unfold kl at e; injection e))
/- What a map has, whatever lies in memory. -/
def Wants (w : World) (b n : Nat) (M : ByteArray → Option Int) (c : Nat) : Prop :=
  ∃ D : DataW Unit, w.ownsMap Try.prog 9 (plainElem Try.prog 3) b n D ∧ Maps.size D = c ∧ ∀ s : ByteArray, Maps.has D (kl s) = (M s).isSome ∧ ∀ v, M s = some v → D.atKey (kl s) (.lit (.int .i64 0)) = .lit (.int .i64 v)
theorem zero3 (w : World) : (zeroValue 3).run Try.prog w = .ok (.int .i64 0) w := by kernel_rfl
theorem zero4 (w : World) : (zeroValue 4).run Try.prog w = .ok (.bool false) w := by kernel_rfl
theorem keyed9 : Maps.Keyed Try.prog 9 := Maps.string_keyed Try.underlying9
theorem keyed3 : Maps.Keyed Try.prog 3 := Maps.int_keyed Try.underlying3
theorem key9 (s : ByteArray) (h : s.size ≤ maxLen) : keyOf Try.prog 9 (.string s) = some (kl s) := WideMaps.keyOf_string_mk Try.underlying9 h
section
variable {w w' : World} {b n c : Nat} {M : ByteArray → Option Int}
theorem owns_kept {D : DataW Unit} {k : TypeId} {R : Value → Option (DataW Unit × List MemPlace)} (h : w.ownsMap Try.prog k R b n D) (e : w'.heap[b]? = w.heap[b]?) : w'.ownsMap Try.prog k R b n D := by
  obtain ⟨es, clock, hb, r⟩ := h
  exact ⟨es, clock, e.trans hb, r⟩
theorem owns_turns {D : DataW Unit} {k : TypeId} {R : Value → Option (DataW Unit × List MemPlace)} {X Q m most q : Nat} {L : Tb} (h : w.ownsMap Try.prog k R b n D) (t : Tab w X Q m most q L) (g : Turns X Q w w') : w'.ownsMap Try.prog k R b n D := by
  obtain ⟨es, clock, hb, r⟩ := id h
  obtain ⟨cs, hr, _⟩ := t.2
  exact owns_kept h (g.2.2.2 b h.lt (Ne.symm (at_map t.1 hb)) (Ne.symm (at_map hr hb)))
theorem wants_kept (h : Wants w b n M c) (k : Kept w w') : Wants w' b n M c := by
  obtain ⟨D, h1, h2⟩ := h
  exact ⟨D, owns_kept h1 (kept_block k h1.lt), h2⟩
theorem wants_alloc (h : Wants w b n M c) (o : Obj) : Wants (w.alloc o) b n M c := wants_kept h (kept_alloc (kept_refl w) o)
theorem wants_turns {X Q m most q : Nat} {L : Tb} (h : Wants w b n M c) (t : Tab w X Q m most q L) (g : Turns X Q w w') : Wants w' b n M c := by
  obtain ⟨D, h1, h2⟩ := h
  exact ⟨D, owns_turns h1 t g, h2⟩
theorem wants_made (w : World) : Wants (w.alloc (.map #[] 0)) w.heap.size 0 (fun _ => none) 0 :=
  ⟨.map [], World.ownsMap_made w Try.prog 9 _, rfl, fun s => ⟨rfl, fun v h => by cases h⟩⟩
theorem wants_look (h : Wants w b n M c) (s : ByteArray) (hs : s.size ≤ maxLen) : (Instr.lookup 53 (.map (some b)) (.string s) true).run Try.prog w = .ok (.tuple #[.int .i64 ((M s).getD 0), .bool (M s).isSome]) w := by
  obtain ⟨D, h1, h2, h3⟩ := h
  obtain ⟨v, ps, hrun, hv⟩ := h1.look_ok keyed9 Try.underlying53 (zero3 w) (plainElem_int Try.underlying3 (by decide)) (key9 s hs)
  obtain ⟨g1, g2⟩ := h3 s
  rw [hrun, g1]
  obtain ⟨x, rfl, hx, -⟩ := plainElem_int_inv Try.underlying3 hv
  have hx := congrArg Prod.fst hx
  simp only at hx
  cases e : M s with
  | none =>
    rw [e] at g1
    rw [Maps.atKey_of_not_has g1] at hx
    injection hx with hx
    injection hx with _ hx
    rw [← hx]; rfl
  | some y =>
    rw [g2 y e] at hx
    injection hx with hx
    injection hx with _ hx
    rw [← hx]; rfl
theorem wants_len (h : Wants w b n M c) (ty : TypeId) : (Builtin.len_ #[53] ty #[.map (some b)]).run Try.prog w = .ok (.int .i64 (c : Int)) w := by
  obtain ⟨D, h1, h2, h3⟩ := h
  rw [h1.len Try.underlying53 ty, h2]
theorem wants_put (h : Wants w b n M c) (hn : n < 100000) (s : ByteArray) (hs : s.size ≤ maxLen) (v : Int) (hv : (Lit.int .i64 v).wf = true) :
    ∃ w', (Instr.mapUpdate 53 (.map (some b)) (.string s) (.int .i64 v)).run Try.prog w = .ok () w' ∧ Wants w' b (n + 1) (fun q => if q = s then some v else M q) (c + if M s = none then 1 else 0) ∧ w.mapTurned w' b := by
  obtain ⟨D, h1, h2, h3⟩ := h
  obtain ⟨w', hrun, g1, g2⟩ := h1.store keyed9 Try.underlying53 (by unfold maxLen; omega) (key9 s hs) (plainElem_int Try.underlying3 hv)
  have hI : WideAt.IsKeyLit (kl s) := keyed9.key (key9 s hs)
  refine ⟨w', hrun, ⟨_, g1, ?_, fun q => ?_⟩, g2⟩
  · rw [Maps.size_put (h1.tidy keyed9), (h3 s).1, h2]
    cases e : M s with
    | none => simp
    | some y => simp
  · by_cases e : q = s
    · subst e
      simp only [if_pos]
      rw [Maps.has_put_same h1.isMap hI]
      refine ⟨rfl, fun y hy => ?_⟩
      injection hy with hy
      rw [Maps.atKey_put_same h1.isMap hI, hy]
    · simp only [if_neg e]
      rw [Maps.has_put_other (kl_ne e)]
      exact ⟨(h3 q).1, fun y hy => by rw [Maps.atKey_put_other (kl_ne e)]; exact (h3 q).2 y hy⟩
theorem wants_del (h : Wants w b n M c) (s : ByteArray) (hs : s.size ≤ maxLen) (ty : TypeId) :
    ∃ w', (Builtin.delete_ #[53, 9] ty #[.map (some b), .string s]).run Try.prog w = .ok (.tuple #[]) w' ∧ (∀ c', c' + (if M s = none then 0 else 1) = c → Wants w' b n (fun q => if q = s then none else M q) c') ∧ w.mapTurned w' b := by
  obtain ⟨D, h1, h2, h3⟩ := h
  obtain ⟨w', hrun, g1, g2⟩ := h1.drop keyed9 Try.underlying53 (key9 s hs) ty
  refine ⟨w', hrun, fun c' hc => ⟨_, g1, ?_, fun q => ?_⟩, g2⟩
  · have := Maps.size_del (k := kl s) (h1.tidy keyed9)
    rw [(h3 s).1, h2] at this
    cases e : M s with
    | none => rw [e] at hc this; simp at hc this; omega
    | some y => rw [e] at hc this; simp at hc this; omega
  · by_cases e : q = s
    · subst e
      simp only [if_pos]
      exact ⟨Maps.has_del_same, fun y hy => by cases hy⟩
    · simp only [if_neg e]
      rw [Maps.has_del_other (kl_ne e)]
      exact ⟨(h3 q).1, fun y hy => by rw [Maps.atKey_del_other (kl_ne e)]; exact (h3 q).2 y hy⟩
end
/- A map of numbers and truth. -/
theorem plain_bool_inv {v : Value} {z : DataW Unit × List MemPlace} (h : plainElem Try.prog 4 v = some z) : ∃ x, v = .bool x ∧ z = (.lit (.bool x), []) := by
  unfold plainElem at h
  rw [Try.underlying4] at h
  cases v <;> simp at h
  exact ⟨_, rfl, h.symm⟩
def ki (i : Nat) : Lit := .int .i64 (i : Int)
theorem ki_ne {a b : Nat} (h : a ≠ b) : ki a ≠ ki b := fun e => h (by unfold ki at e; injection e with _ e; omega)
def Used (w : World) (b n : Nat) (U : Nat → Bool) : Prop :=
  ∃ D : DataW Unit, w.ownsMap Try.prog 3 (plainElem Try.prog 4) b n D ∧ ∀ i : Nat, Maps.has D (ki i) = U i ∧ (U i = true → D.atKey (ki i) (.lit (.bool false)) = .lit (.bool true))
theorem key3 (i : Nat) (h : i ≤ 100000) : keyOf Try.prog 3 (.int .i64 (i : Int)) = some (ki i) := Maps.keyOf_int_mk Try.underlying3 (WalkArith.wf_i64 (by omega))
section
variable {w w' : World} {b n : Nat} {U : Nat → Bool}
theorem used_kept (h : Used w b n U) (k : Kept w w') : Used w' b n U := by
  obtain ⟨D, h1, h2⟩ := h
  exact ⟨D, owns_kept h1 (kept_block k h1.lt), h2⟩
theorem used_made (w : World) : Used (w.alloc (.map #[] 0)) w.heap.size 0 (fun _ => false) :=
  ⟨.map [], World.ownsMap_made w Try.prog 3 _, fun s => ⟨rfl, fun h => by cases h⟩⟩
theorem used_look (h : Used w b n U) (i : Nat) (hi : i ≤ 100000) : (Instr.lookup 55 (.map (some b)) (.int .i64 (i : Int)) false).run Try.prog w = .ok (.bool (U i)) w := by
  obtain ⟨D, h1, h3⟩ := h
  obtain ⟨v, ps, hrun, hv⟩ := h1.lookup keyed3 Try.underlying55 (zero4 w) (plainElem_bool Try.underlying4 false) (key3 i hi)
  obtain ⟨g1, g2⟩ := h3 i
  obtain ⟨x, rfl, hx⟩ := plain_bool_inv hv
  have hx := congrArg Prod.fst hx
  simp only at hx
  rw [hrun]
  cases e : U i with
  | false =>
    rw [e] at g1
    rw [Maps.atKey_of_not_has g1] at hx
    injection hx with hx
    injection hx with hx
    rw [← hx]
  | true =>
    rw [g2 e] at hx
    injection hx with hx
    injection hx with hx
    rw [← hx]
theorem used_put (h : Used w b n U) (hn : n < 100000) (i : Nat) (hi : i ≤ 100000) :
    ∃ w', (Instr.mapUpdate 55 (.map (some b)) (.int .i64 (i : Int)) (.bool true)).run Try.prog w = .ok () w' ∧ Used w' b (n + 1) (fun q => if q = i then true else U q) ∧ w.mapTurned w' b := by
  obtain ⟨D, h1, h3⟩ := h
  obtain ⟨w', hrun, g1, g2⟩ := h1.store keyed3 Try.underlying55 (by unfold maxLen; omega) (key3 i hi) (plainElem_bool Try.underlying4 true)
  have hI : WideAt.IsKeyLit (ki i) := keyed3.key (key3 i hi)
  refine ⟨w', hrun, ⟨_, g1, fun q => ?_⟩, g2⟩
  by_cases e : q = i
  · subst e
    simp only [if_pos]
    rw [Maps.has_put_same h1.isMap hI]
    exact ⟨rfl, fun _ => by rw [Maps.atKey_put_same h1.isMap hI]⟩
  · simp only [if_neg e]
    rw [Maps.has_put_other (ki_ne e)]
    exact ⟨(h3 q).1, fun hy => by rw [Maps.atKey_put_other (ki_ne e)]; exact (h3 q).2 hy⟩
end
end Go.Proofs.Ytibdnhnomjcclaa
