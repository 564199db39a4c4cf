/- A map of ids and times in memory, as a row of items: what is looked up, stored, deleted and counted. The ids and times are such as numbers may be. -/
import Derived.Test.YtdmgdmhggmehgaaRefDue
import Derived.Maps.RangeWalk
namespace Go.Proofs.Ytdmgdmhggmehgaa
open Go.ChangeShapes Go.WideShapes Go.ChangeAt Go.RowKit
set_option linter.unusedVariables false
set_option linter.unusedSimpArgs false

theorem zero26 (w : World) : (zeroValue 26).run Try.prog w = .ok (.int .u64 0) w := by kernel_rfl
def Tms (w : World) (b : Nat) (f : Int → Option Int) (c : Nat) : Prop :=
  ∃ D : DataW Unit, w.ownsMap Try.prog 3 (plainElem Try.prog 26) b (Maps.size D) D ∧ Maps.size D = c ∧ ∀ k : Int, Maps.has D (ki k) = (f k).isSome ∧ ∀ v, f k = some v → D.atKey (ki k) (.lit (.int .u64 0)) = .lit (.int .u64 v)
section
variable {w w' : World} {b c : Nat} {f : Int → Option Int}
theorem tms_block (h : Tms w b f c) (e : w'.heap[b]? = w.heap[b]?) : Tms w' b f c := by
  obtain ⟨D, h1, h2⟩ := h
  exact ⟨D, owns_block h1 e, h2⟩
theorem tms_lt (h : Tms w b f c) : b < w.heap.size := by
  obtain ⟨D, h1, _⟩ := h
  exact h1.lt
theorem tms_made (w : World) : Tms (w.alloc (.map #[] 0)) w.heap.size (fun _ => none) 0 :=
  ⟨.map [], World.ownsMap_made w Try.prog 3 _, rfl, fun s => ⟨rfl, fun v h => by cases h⟩⟩
theorem tms_val {D : DataW Unit} {v : Value} {k y : Int} {ps : List MemPlace} (g2 : D.atKey (ki k) (.lit (.int .u64 0)) = .lit (.int .u64 y)) (hv : plainElem Try.prog 26 v = some (D.atKey (ki k) (.lit (.int .u64 0)), ps)) : v = .int .u64 y := by
  obtain ⟨x, rfl, hx, -⟩ := plainElem_int_inv Try.underlying26 hv
  have hx := congrArg Prod.fst hx
  simp only at hx
  rw [g2] at hx
  injection hx with hx
  injection hx with _ hx
  rw [← hx]
theorem tms_look (h : Tms w b f c) {k y : Int} (hk : Wf k) (hy : f k = some y) : (Instr.lookup 47 (.map (some b)) (.int .i64 k) false).run Try.prog w = .ok (.int .u64 y) w := by
  obtain ⟨D, h1, h2, h3⟩ := h
  obtain ⟨v, ps, hrun, hv⟩ := h1.lookup keyed3 Try.underlying47 (zero26 w) (plainElem_int Try.underlying26 (by decide)) (key3 hk)
  rw [hrun, tms_val ((h3 k).2 y hy) hv]
theorem tms_lookok (h : Tms w b f c) {k y : Int} (hk : Wf k) (hy : f k = some y) : (Instr.lookup 47 (.map (some b)) (.int .i64 k) true).run Try.prog w = .ok (.tuple #[.int .u64 y, .bool true]) w := by
  obtain ⟨D, h1, h2, h3⟩ := h
  obtain ⟨v, ps, hrun, hv⟩ := h1.look_ok keyed3 Try.underlying47 (zero26 w) (plainElem_int Try.underlying26 (by decide)) (key3 hk)
  rw [hrun, (h3 k).1, tms_val ((h3 k).2 y hy) hv, hy]
  rfl
theorem tms_len (h : Tms w b f c) (ty : TypeId) : (Builtin.len_ #[47] ty #[.map (some b)]).run Try.prog w = .ok (.int .i64 (c : Int)) w := by
  obtain ⟨D, h1, h2, h3⟩ := h
  rw [h1.len Try.underlying47 ty, h2]
theorem tms_put (h : Tms w b f c) (hn : c ≤ 100000) {k v : Int} (hk : Wf k) (hv : Wu v) :
    ∃ w', (Instr.mapUpdate 47 (.map (some b)) (.int .i64 k) (.int .u64 v)).run Try.prog w = .ok () w' ∧ Tms w' b (fun q => if q = k then some v else f q) (c + if f k = none then 1 else 0) ∧ w.mapTurned w' b := by
  obtain ⟨D, h1, h2, h3⟩ := h
  obtain ⟨w', hrun, g1, g2⟩ := h1.store keyed3 Try.underlying47 (by rw [h2]; unfold maxLen; omega) (key3 hk) (plainElem_int Try.underlying26 (a := v) hv)
  have hI : WideAt.IsKeyLit (ki k) := keyed3.key (key3 hk)
  refine ⟨w', hrun, ⟨_, owns_fit g1, ?_, fun q => ?_⟩, g2⟩
  · rw [Maps.size_put (h1.tidy keyed3), (h3 k).1, h2]
    cases e : f k with
    | none => simp
    | some y => simp
  · by_cases e : q = k
    · subst e
      simp only [if_pos]
      rw [Maps.has_put_same h1.isMap hI]
      refine ⟨rfl, fun y hy => ?_⟩
      injection hy with hy
      rw [Maps.atKey_put_same h1.isMap hI, hy]
    · simp only [if_neg e]
      rw [Maps.has_put_other (ki_ne e)]
      exact ⟨(h3 q).1, fun y hy => by rw [Maps.atKey_put_other (ki_ne e)]; exact (h3 q).2 y hy⟩
theorem tms_del (h : Tms w b f c) {k : Int} (hk : Wf k) (ty : TypeId) :
    ∃ w', (Builtin.delete_ #[47, 3] ty #[.map (some b), .int .i64 k]).run Try.prog w = .ok (.tuple #[]) w' ∧ (∀ c', c' + (if f k = none then 0 else 1) = c → Tms w' b (fun q => if q = k then none else f q) c') ∧ w.mapTurned w' b := by
  obtain ⟨D, h1, h2, h3⟩ := h
  obtain ⟨w', hrun, g1, g2⟩ := h1.drop keyed3 Try.underlying47 (key3 hk) ty
  refine ⟨w', hrun, fun c' hc' => ⟨_, owns_fit g1, ?_, fun q => ?_⟩, g2⟩
  · have := Maps.size_del (k := ki k) (h1.tidy keyed3)
    rw [(h3 k).1, h2] at this
    cases e : f k with
    | none => rw [e] at hc' this; simp at hc' this; omega
    | some y => rw [e] at hc' this; simp at hc' this; omega
  · by_cases e : q = k
    · subst e
      simp only [if_pos]
      exact ⟨Maps.has_del_same, fun y hy => by cases hy⟩
    · simp only [if_neg e]
      rw [Maps.has_del_other (ki_ne e)]
      exact ⟨(h3 q).1, fun y hy => by rw [Maps.atKey_del_other (ki_ne e)]; exact (h3 q).2 y hy⟩
end
/- The same as a row of items. -/
def TR (w : World) (b : Nat) (R : List It) : Prop := ∃ f, Tms w b f R.length ∧ ∀ k v, f k = some v ↔ (v, k) ∈ R
theorem wo_out {M : List It} (h : Srt M) {x : It} (hx : x ∈ M) : (wo M x.2).length + 1 = M.length := by
  have h1 := List.perm_cons_erase hx
  have h2 := (h1.pairwise_iff (R := fun a b : It => a.2 ≠ b.2) (fun {_ _} g => Ne.symm g)).1 h.uni
  have h3 := wo_perm h1 (fun z hz => Ne.symm ((List.pairwise_cons.1 h2).1 z hz))
  rw [h3.length_eq, h1.length_eq]
  rfl
section
variable {w w' : World} {b : Nat} {R : List It}
theorem tr_block (h : TR w b R) (e : w'.heap[b]? = w.heap[b]?) : TR w' b R := by
  obtain ⟨f, h1, h2⟩ := h
  exact ⟨f, tms_block h1 e, h2⟩
theorem tr_lt (h : TR w b R) : b < w.heap.size := by
  obtain ⟨f, h1, h2⟩ := h
  exact tms_lt h1
theorem tr_made (w : World) : TR (w.alloc (.map #[] 0)) w.heap.size [] := ⟨_, tms_made w, fun k v => by simp⟩
theorem tr_perm {R' : List It} (h : TR w b R) (p : R.Perm R') : TR w b R' := by
  obtain ⟨f, h1, h2⟩ := h
  exact ⟨f, by rw [← p.length_eq]; exact h1, fun k v => (h2 k v).trans p.mem_iff⟩
theorem tr_look (h : TR w b R) {x : It} (hx : x ∈ R) (hk : Wf x.2) : (Instr.lookup 47 (.map (some b)) (.int .i64 x.2) false).run Try.prog w = .ok (.int .u64 x.1) w ∧ (Instr.lookup 47 (.map (some b)) (.int .i64 x.2) true).run Try.prog w = .ok (.tuple #[.int .u64 x.1, .bool true]) w := by
  obtain ⟨f, h1, h2⟩ := h
  have hy := (h2 x.2 x.1).2 hx
  exact ⟨tms_look h1 hk hy, tms_lookok h1 hk hy⟩
theorem tr_len (h : TR w b R) (ty : TypeId) : (Builtin.len_ #[47] ty #[.map (some b)]).run Try.prog w = .ok (.int .i64 (R.length : Int)) w := by
  obtain ⟨f, h1, h2⟩ := h
  exact tms_len h1 ty
theorem tr_put (h : TR w b R) (hs : Srt R) (hn : R.length ≤ 1000) {k v : Int} (hk : Wf k) (hv : Wu v) :
    ∃ w', (Instr.mapUpdate 47 (.map (some b)) (.int .i64 k) (.int .u64 v)).run Try.prog w = .ok () w' ∧ TR w' b (ins (v, k) (wo R k)) ∧ w.mapTurned w' b := by
  obtain ⟨f, h1, h2⟩ := h
  obtain ⟨w', hrun, g1, g2⟩ := tms_put h1 (by omega) hk hv
  refine ⟨w', hrun, ⟨fun q => if q = k then some v else f q, ?_, fun q y => ?_⟩, g2⟩
  · have e : R.length + (if f k = none then 1 else 0) = (ins (v, k) (wo R k)).length := by
      rw [(ins_perm _ _).length_eq, List.length_cons]
      cases hf : f k with
      | none =>
        have : wo R k = R := wo_not (fun z hz e => by
          have := (h2 k z.1).2 (by rw [← e]; exact hz)
          rw [hf] at this
          cases this)
        rw [this]; simp
      | some y =>
        have := wo_out hs ((h2 k y).1 hf)
        simp at this ⊢
        omega
    rw [e] at g1
    exact g1
  · have hmem : (y, q) ∈ ins (v, k) (wo R k) ↔ (y, q) = (v, k) ∨ ((y, q) ∈ R ∧ q ≠ k) := by
      rw [(ins_perm _ _).mem_iff, List.mem_cons]
      unfold wo
      rw [List.mem_filter]
      simp
    rw [hmem]
    by_cases e : q = k
    · subst e
      simp only [if_pos]
      constructor
      · intro h; injection h with h; exact .inl (by rw [h])
      · intro h
        rcases h with h | h
        · injection h with h _; rw [h]
        · exact absurd rfl h.2
    · simp only [if_neg e]
      rw [h2 q y]
      constructor
      · intro h; exact .inr ⟨h, e⟩
      · intro h
        rcases h with h | h
        · injection h with _ h; exact absurd h e
        · exact h.1
theorem tr_del {x : It} (h : TR w b (x :: R)) (hu : ∀ y ∈ R, y.2 ≠ x.2) (hk : Wf x.2) (ty : TypeId) :
    ∃ w', (Builtin.delete_ #[47, 3] ty #[.map (some b), .int .i64 x.2]).run Try.prog w = .ok (.tuple #[]) w' ∧ TR w' b R ∧ w.mapTurned w' b := by
  obtain ⟨f, h1, h2⟩ := h
  obtain ⟨w', hrun, g1, g2⟩ := tms_del h1 hk ty
  have hf := (h2 x.2 x.1).2 (List.mem_cons.2 (.inl rfl))
  refine ⟨w', hrun, ⟨_, g1 R.length (by rw [hf]; simp), fun q y => ?_⟩, g2⟩
  by_cases e : q = x.2
  · subst e
    simp only [if_pos]
    constructor
    · intro h; cases h
    · intro h; exact absurd rfl (hu (y, x.2) h)
  · simp only [if_neg e]
    rw [h2 q y, List.mem_cons]
    constructor
    · intro h
      rcases h with h | h
      · exact absurd (congrArg Prod.snd h) e
      · exact h
    · intro h; exact .inr h
/- What a range over it meets. -/
theorem tr_owns (h : TR w b R) : ∃ D : DataW Unit, w.ownsMap Try.prog 3 (plainElem Try.prog 26) b (Maps.size D) D ∧ ∀ k c : Int, Maps.has D (ki k) = true → (∀ zd, D.atKey (ki k) zd = .lit (.int .u64 c)) → (c, k) ∈ R := by
  obtain ⟨f, ⟨D, h1, h2, h3⟩, h4⟩ := h
  refine ⟨D, h1, fun k c hh hc => ?_⟩
  obtain ⟨g1, g2⟩ := h3 k
  rw [hh] at g1
  cases hf : f k with
  | none => rw [hf] at g1; cases g1
  | some y =>
    have := g2 y hf
    rw [hc] at this
    injection this with this
    injection this with _ this
    rw [this]
    exact (h4 k y).1 hf
end
end Go.Proofs.Ytdmgdmhggmehgaa
