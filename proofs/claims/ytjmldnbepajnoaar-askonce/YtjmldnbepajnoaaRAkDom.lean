/- Maps of nodes to numbers and to truths; how many keys a map has. -/
import Derived.Test.YtjmldnbepajnoaaRAkIs
import Derived.Test.YtjmldnbepajnoaaRGMap
import Derived.Test.YtjmldnbepajnoaaRRows
namespace Go.Proofs.YtjmldnbepajnoaaR
open Go.ChangeShapes Go.WideShapes Go.ChangeAt Go.RowKit
set_option linter.unusedVariables false
set_option linter.unusedSimpArgs false
set_option maxRecDepth 100000

def klU (x : Int) : Lit := .int .u8 x
theorem klU_inj (a b : Int) (h : klU a = klU b) : a = b := by unfold klU at h; injection h
theorem wfU {x : Int} : (Lit.int .u8 x).wf = true ↔ okU x := by
  unfold okU
  simp [Lit.wf, IntKind.min, IntKind.max, IntKind.bits, IntKind.signed]
  omega
theorem key5 (x : Int) (h : okU x) : keyOf Try.prog 5 (.int .u8 x) = some (klU x) := Maps.keyOf_int_mk Try.underlying5 (wfU.2 h)
theorem klU_inv {key : Value} {l : Lit} (h : keyOf Try.prog 5 key = some l) : ∃ x : Int, key = .int .u8 x ∧ l = klU x ∧ okU x := by
  obtain ⟨x, h1, h2, h3⟩ := Maps.keyOf_int_inv Try.underlying5 h
  exact ⟨x, h1, h2, wfU.1 h3⟩
theorem keyed5 : Maps.Keyed Try.prog 5 := Maps.int_keyed Try.underlying5
/- Elements that are numbers, and truths. -/
def rdB (v : Value) : Option (DataW Unit × List MemPlace) :=
  match v with
  | .bool a => some (.lit (.bool a), [])
  | _ => none
theorem rdB_inv {v : Value} {y : DataW Unit × List MemPlace} (h : rdB v = some y) : ∃ c, v = .bool c ∧ y = (.lit (.bool c), []) := by
  unfold rdB at h
  split at h
  · injection h with h
    exact ⟨_, rfl, h.symm⟩
  · cases h
theorem zeroB (w : World) : (zeroValue 4).run Try.prog w = .ok (.bool false) w := by kernel_rfl
def mapB : MapD Int Bool := { t := 26, k := 5, e := 4, kv := .int .u8, kl := klU, ok := okU, ev := .bool, ed := fun x => .lit (.bool x), rd := rdB, z := false }
theorem mapB_ok : mapB.Ok Try.prog := {
  und := Try.underlying26
  keyed := keyed5
  key := key5
  inj := klU_inj
  zero := zeroB
  reads := fun _ => rfl
  inv := fun v y ps h => by
    obtain ⟨c, e1, e2⟩ := rdB_inv h
    injection e2 with e2 _
    injection e2 with e2
    injection e2 with e2
    rw [e1, e2]
    rfl
  invK := fun key l h => klU_inv h
  invV := fun v y h => rdB_inv h }
/- How many keys a map has. -/
def upd {ε : Type} (g : Int → Option ε) (x : Int) (y : ε) (q : Int) : Option ε := if q = x then some y else g q
def dom {ε : Type} (g : Int → Option ε) : Nat := (List.range 256).countP (fun (i : Nat) => (g (i : Int)).isSome)
theorem dom_none {ε : Type} : dom (fun _ => (none : Option ε)) = 0 := by
  unfold dom
  rw [List.countP_eq_zero]
  intro a _
  simp
theorem dom_ext {ε δ : Type} {g : Int → Option ε} {h : Int → Option δ} (e : ∀ x, (g x).isSome = (h x).isSome) : dom g = dom h := by
  unfold dom
  congr 1
  funext i
  exact e _
theorem dom_le {ε : Type} (g : Int → Option ε) : dom g ≤ 256 := by
  unfold dom
  have := List.countP_le_length (p := fun i : Nat => (g (i : Int)).isSome) (l := List.range 256)
  rwa [List.length_range] at this
theorem count_upd (p : Nat → Bool) (k : Nat) : ∀ n, (List.range n).countP (fun i => decide (i = k) || p i) = (List.range n).countP p + (if k < n ∧ p k = false then 1 else 0)
  | 0 => by simp
  | n + 1 => by
    have ih := count_upd p k n
    rw [List.range_succ, List.countP_append, List.countP_append, ih]
    by_cases e : n = k
    · subst e
      cases hp : p n <;> simp [hp]
    · have h1 : (decide (n = k)) = false := by simpa using e
      have h2 : (k < n + 1) ↔ (k < n) := by omega
      simp only [List.countP_cons, List.countP_nil, h1, Bool.false_or, h2]
      omega
theorem dom_upd {ε : Type} (g : Int → Option ε) {x : Int} (hx : okU x) (y : ε) : dom (upd g x y) = dom g + if (g x).isSome then 0 else 1 := by
  obtain ⟨k, rfl⟩ := Int.eq_ofNat_of_zero_le hx.1
  have h := count_upd (fun i => (g (i : Int)).isSome) k 256
  have hk : k < 256 := by have := hx.2; omega
  unfold dom
  have e : (fun i : Nat => (upd g (k : Int) y (i : Int)).isSome) = fun i => decide (i = k) || (g (i : Int)).isSome := by
    funext i
    unfold upd
    by_cases e : i = k
    · subst e; simp
    · have : ¬ ((i : Int) = (k : Int)) := by omega
      simp [e, this]
  rw [e, h]
  congr 1
  cases hp : (g (k : Int)).isSome <;> simp [hp, hk]
/- A map, with as many keys as it has. -/
def Gd' {ε : Type} (M : MapD Int ε) (w : World) (m : Nat) (g : Int → Option ε) : Prop := Gm Try.prog M w m g (dom g)
theorem gd_put {ε : Type} {M : MapD Int ε} (hM : M.Ok Try.prog) (hok : M.ok = okU) {w : World} {m : Nat} {g : Int → Option ε} (h : Gd' M w m g) {x : Int} (hx : okU x) (y : ε) :
    ∃ w', (Instr.mapUpdate M.t (.map (some m)) (M.kv x) (M.ev y)).run Try.prog w = .ok () w' ∧ Gd' M w' m (upd g x y) ∧ w.mapTurned w' m := by
  obtain ⟨w', h1, h2, h3⟩ := gm_put hM h (by have := dom_le g; omega) (by rw [hok]; exact hx) y
  exact ⟨w', h1, by unfold Gd'; rw [dom_upd g hx]; exact h2, h3⟩
theorem gd_made {ε : Type} {M : MapD Int ε} (w : World) : Gd' M (w.alloc (.map #[] 0)) w.heap.size (fun _ => none) := by
  unfold Gd'
  rw [dom_none]
  exact gm_made w
theorem gd_block {ε : Type} {M : MapD Int ε} {w w' : World} {m : Nat} {g : Int → Option ε} (h : Gd' M w m g) (e : w'.heap[m]? = w.heap[m]?) : Gd' M w' m g := gm_block h e
theorem gd_kept {ε : Type} {M : MapD Int ε} {w w' : World} {m : Nat} {g : Int → Option ε} (h : Gd' M w m g) (k : Kept w w') : Gd' M w' m g := gm_kept h k
theorem gd_turned {ε : Type} {M : MapD Int ε} {w w' : World} {m b : Nat} {g : Int → Option ε} (h : Gd' M w m g) (t : w.mapTurned w' b) (hn : m ≠ b) : Gd' M w' m g := gd_block h (turned_block t (gm_lt h) hn)
theorem gd_sd {ε : Type} {M : MapD Int ε} {w w' : World} {m : Nat} {g : Int → Option ε} {F F' : Nat → Prop} (h : Gd' M w m g) (o : Off w F m) (s : Sd F w F' w') : Gd' M w' m g := gd_block h (off_same o s)
/- A key less. -/
def del {ε : Type} (g : Int → Option ε) (x : Int) (q : Int) : Option ε := if q = x then none else g q
theorem dom_del {ε : Type} (g : Int → Option ε) {x : Int} (hx : okU x) : dom (del g x) + (if (g x).isSome then 1 else 0) = dom g := by
  cases e : g x with
  | none =>
    have : del g x = g := by
      funext q
      unfold del
      split
      · rename_i h; rw [h, e]
      · rfl
    rw [this]
    simp
  | some y =>
    have h := dom_upd (del g x) hx y
    have h1 : upd (del g x) x y = g := by
      funext q
      unfold upd del
      split
      · rename_i h; rw [h, e]
      · rfl
    have h2 : del g x x = none := by unfold del; simp
    rw [h1, h2] at h
    simp at h ⊢
    omega
theorem gd_del {ε : Type} {M : MapD Int ε} (hM : M.Ok Try.prog) (hok : M.ok = okU) {w : World} {m : Nat} {g : Int → Option ε} (h : Gd' M w m g) {x : Int} (hx : okU x) (ty : TypeId) :
    ∃ w', (Builtin.delete_ #[M.t, M.k] ty #[.map (some m), M.kv x]).run Try.prog w = .ok (.tuple #[]) w' ∧ Gd' M w' m (del g x) ∧ w.mapTurned w' m := by
  obtain ⟨w', h1, h2, h3⟩ := gm_del hM h (x := x) (by rw [hok]; exact hx) ty
  exact ⟨w', h1, h2 _ (dom_del g hx), h3⟩
/- A look in a map of numbers, with whether it is there. -/
theorem look_B {w : World} {S : Nat} {g : Int → Option Bool} (h : Gd' mapB w S g) {x : Int} (hx : okU x) : (Instr.lookup 26 (.map (some S)) (.int .u8 x) false).run Try.prog w = .ok (.bool ((g x).getD false)) w := gm_look1 mapB_ok h (x := x) hx
theorem put_B {w : World} {S : Nat} {g : Int → Option Bool} (h : Gd' mapB w S g) {x : Int} (hx : okU x) : ∃ w', (Instr.mapUpdate 26 (.map (some S)) (.int .u8 x) (.bool true)).run Try.prog w = .ok () w' ∧ Gd' mapB w' S (upd g x true) ∧ w.mapTurned w' S := gd_put mapB_ok rfl h hx true
theorem len_B {w : World} {S : Nat} {g : Int → Option Bool} (h : Gd' mapB w S g) : (Builtin.len_ #[26] 3 #[.map (some S)]).run Try.prog w = .ok (.int .i64 (dom g : Int)) w := gm_len mapB_ok h 3
theorem del_B {w : World} {S : Nat} {g : Int → Option Bool} (h : Gd' mapB w S g) {x : Int} (hx : okU x) (ty : TypeId) : ∃ w', (Builtin.delete_ #[26, 5] ty #[.map (some S), .int .u8 x]).run Try.prog w = .ok (.tuple #[]) w' ∧ Gd' mapB w' S (del g x) ∧ w.mapTurned w' S := gd_del mapB_ok rfl h hx ty
theorem dom_zero {ε : Type} (g : Int → Option ε) : dom g = 0 ↔ ∀ q, okU q → g q = none := by
  unfold dom
  rw [List.countP_eq_zero]
  constructor
  · intro h q hq
    have := h q.toNat (by rw [List.mem_range]; have := hq.1; have := hq.2; omega)
    rw [show ((q.toNat : Nat) : Int) = q by have := hq.1; omega] at this
    cases e : g q with
    | none => rfl
    | some y => rw [e] at this; simp at this
  · intro h i hi
    rw [List.mem_range] at hi
    rw [h (i : Int) ⟨by omega, by omega⟩]
    simp
end Go.Proofs.YtjmldnbepajnoaaR
