/- A table in memory: its object of three cells, its row of slots; and the contracts of the functions that tell places in it: home, behind, way. A table has at most 4096 slots, a key at most 2^46 bytes. -/
import Derived.Test.YthgbdaladngpdaaGreatSloMath
import Derived.Test.YthgbdaladngpdaaGreatMixTexts
import Derived.Test.YthgbdaladngpdaaGreatClone
import Derived.BigQuiet
namespace Go.Proofs.YthgbdaladngpdaaGreat.Slo
open Go.ChangeShapes Go.WideShapes Go.ChangeAt Go.RowKit
set_option linter.unusedVariables false
set_option maxRecDepth 100000
set_option linter.unusedSimpArgs false

theorem ret_int {k : IntKind} {a b : Int} (h : a = b) : Ending.returned (.int k a) = .returned (.int k b) := by rw [h]
theorem ret_bool {a b : Bool} (h : a = b) : Ending.returned (.bool a) = .returned (.bool b) := by rw [h]
def RowT (w : World) (T R m : Nat) (L : Tb) : Prop :=
  ∃ cs, At w R cs T ∧ cs.size = m * 3 ∧ ∀ i, i < m → cs[i * 3]? = some (.bool (L i).taken) ∧ cs[i * 3 + 1]? = some (.string (L i).key) ∧ cs[i * 3 + 2]? = some (.int .i64 (L i).v)
section
variable {w w' : World} {T R m : Nat} {L : Tb}
theorem row_lt (h : RowT w T R m L) : R < w.heap.size := by obtain ⟨cs, h, _⟩ := h; exact at_lt h
theorem row_block (h : RowT w T R m L) (e : w'.heap[R]? = w.heap[R]?) : RowT w' T R m L := by
  obtain ⟨cs, h, g⟩ := h
  exact ⟨cs, e.trans h, g⟩
theorem row_kept (h : RowT w T R m L) (k : Kept w w') : RowT w' T R m L := row_block h (kept_block k (row_lt h))
theorem row_drew (h : RowT w T R m L) : RowT w.drew T R m L := h
theorem row_alloc (h : RowT w T R m L) (o : Obj) : RowT (w.alloc o) T R m L := row_kept h (kept_alloc (kept_refl w) o)
theorem row_other (h : RowT w T R m L) {Y o : Nat} (v : Value) (hn : R ≠ Y) : RowT (w.setCell ⟨Y, o, none⟩ v) T R m L := row_block h (Below.heap_setCell _ _ _ _ hn)
theorem row_cells (h : RowT w T R m L) {i : Nat} (hi : i < m) : w.cell? ⟨R, i * 3, none⟩ = some (.bool (L i).taken) ∧ w.cell? ⟨R, i * 3 + 1, none⟩ = some (.string (L i).key) ∧ w.cell? ⟨R, i * 3 + 2, none⟩ = some (.int .i64 (L i).v) ∧ ∀ j, w.frozen? ⟨R, j, none⟩ = false := by
  obtain ⟨cs, h, _, g⟩ := h
  obtain ⟨g0, g1, g2⟩ := g i hi
  exact ⟨(at_cell h _).trans g0, (at_cell h _).trans g1, (at_cell h _).trans g2, at_frozen h⟩
/- A number stored, a whole slot stored. -/
theorem row_setv (h : RowT w T R m L) {a : Nat} (ha : a < m) (v : Int) : RowT (w.setCell ⟨R, a * 3 + 2, none⟩ (.int .i64 v)) T R m (upd L a ⟨(L a).taken, (L a).key, v⟩) := by
  obtain ⟨cs, h, hs, g⟩ := h
  refine ⟨_, at_set h _ _, by simpa using hs, fun i hi => ?_⟩
  obtain ⟨g0, g1, g2⟩ := g i hi
  by_cases e : i = a
  · subst e
    rw [upd_at]
    refine ⟨?_, ?_, ?_⟩
    · rw [Array.getElem?_setIfInBounds, if_neg (by omega)]; exact g0
    · rw [Array.getElem?_setIfInBounds, if_neg (by omega)]; exact g1
    · rw [Array.getElem?_setIfInBounds, if_pos rfl, if_pos (by omega)]
  · rw [upd_ne _ _ e]
    refine ⟨?_, ?_, ?_⟩ <;> (rw [Array.getElem?_setIfInBounds, if_neg (by omega)]; assumption)
def set3 (w : World) (R o : Nat) (a0 a1 a2 : Value) : World := ((w.setCell ⟨R, o, none⟩ a0).setCell ⟨R, o + 1, none⟩ a1).setCell ⟨R, o + 2, none⟩ a2
theorem row_set3 (h : RowT w T R m L) {a : Nat} (ha : a < m) (s : Sl) : RowT (set3 w R (a * 3) (.bool s.taken) (.string s.key) (.int .i64 s.v)) T R m (upd L a s) := by
  obtain ⟨cs, h, hs, g⟩ := h
  refine ⟨_, at_set (at_set (at_set h _ _) _ _) _ _, by simpa using hs, fun i hi => ?_⟩
  obtain ⟨g0, g1, g2⟩ := g i hi
  by_cases e : i = a
  · subst e
    rw [upd_at]
    refine ⟨?_, ?_, ?_⟩
    · rw [Array.getElem?_setIfInBounds, if_neg (by omega), Array.getElem?_setIfInBounds, if_neg (by omega), Array.getElem?_setIfInBounds, if_pos rfl, if_pos (by omega)]
    · rw [Array.getElem?_setIfInBounds, if_neg (by omega), Array.getElem?_setIfInBounds, if_pos rfl, if_pos (by simp; omega)]
    · rw [Array.getElem?_setIfInBounds, if_pos rfl, if_pos (by simp; omega)]
  · rw [upd_ne _ _ e]
    refine ⟨?_, ?_, ?_⟩ <;> (rw [Array.getElem?_setIfInBounds, if_neg (by omega), Array.getElem?_setIfInBounds, if_neg (by omega), Array.getElem?_setIfInBounds, if_neg (by omega)]; assumption)
end
/- The program's table. -/
def Tab (w : World) (X R m most n : Nat) (L : Tb) : Prop :=
  At w X #[.slice (some ⟨R, 0, none⟩) m m, .int .i64 (most : Int), .int .i64 (n : Int)] 108 ∧ RowT w 105 R m L
section
variable {w w' : World} {X R m most n : Nat} {L : Tb}
theorem tab_kept (h : Tab w X R m most n L) (k : Kept w w') : Tab w' X R m most n L := ⟨at_kept h.1 k, row_kept h.2 k⟩
theorem tab_alloc (h : Tab w X R m most n L) (o : Obj) : Tab (w.alloc o) X R m most n L := tab_kept h (kept_alloc (kept_refl w) o)
theorem tab_ne (h : Tab w X R m most n L) : X ≠ R := by
  obtain ⟨cs, hr, _⟩ := h.2
  exact at_ne h.1 hr (by decide)
end
def hm (m : Nat) (s : ByteArray) : Nat := (textI s.data.toList s.size).toNat % m
theorem hm_lt {m : Nat} (h : 0 < m) (s : ByteArray) : hm m s < m := Nat.mod_lt _ h

theorem nxt_rem {m a : Nat} (ha : a < m) : ((a : Int) + 1) % (m : Int) = ((nxt m a : Nat) : Int) := by
  rw [← nxt_mod ha]; rfl
theorem way_rem {m a b : Nat} (ha : a < m) (hb : b < m) : ((b : Int) - (a : Int) + (m : Int)) % (m : Int) = ((way m a b : Nat) : Int) := by
  rw [← way_mod ha hb, show (b : Int) - (a : Int) + (m : Int) = ((b + m - a : Nat) : Int) by omega]; rfl
theorem hm_rem {m : Nat} (s : ByteArray) : textI s.data.toList s.size % (m : Int) = ((hm m s : Nat) : Int) := by
  have h := (bounds_u64 (wf_textI s.data.toList s.size)).1
  unfold hm
  generalize textI s.data.toList s.size = t at *
  obtain ⟨q, rfl⟩ := Int.eq_ofNat_of_zero_le h
  rfl
theorem hm_wrap {m : Nat} (h0 : 0 < m) (h4 : m ≤ 4096) (s : ByteArray) : wrap64 (textI s.data.toList s.size % (m : Int)) = ((hm m s : Nat) : Int) := by
  rw [hm_rem]
  have := hm_lt h0 s
  unfold wrap64; omega
theorem kept_drewN {W w : World} (h : Kept W w) (n : Nat) : Kept W (w.drewN n) := h
set_option maxHeartbeats 800000 in
theorem behind_any {X R m most n : Nat} {L : Tb} (a : Nat) (ha : a < m) (h4 : m ≤ 4096) (w : World) (h : Tab w X R m most n L) :
    Calls Tryz.prog 96 #[.pointer (some ⟨X, 0, none⟩), .int .i64 (a : Int)] w fun e w' => e = .returned (.int .i64 ((nxt m a : Nat) : Int)) ∧ w' = w := by
  obtain ⟨c0, c1, c2, fr⟩ := at_cells3 h.1
  have HR := hid (nxt_rem ha)
  clear h
  go_enter Tryz.func96, Tryz.ntmps96
  go_wp2_with fail
  go_ret
  exact ⟨ret_int HR.out, rfl⟩
set_option maxHeartbeats 800000 in
theorem way_any {X R m most n : Nat} {L : Tb} (a b : Nat) (ha : a < m) (hb : b < m) (h4 : m ≤ 4096) (w : World) (h : Tab w X R m most n L) :
    Calls Tryz.prog 122 #[.pointer (some ⟨X, 0, none⟩), .int .i64 (a : Int), .int .i64 (b : Int)] w fun e w' => e = .returned (.int .i64 ((way m a b : Nat) : Int)) ∧ Kept w w' := by
  obtain ⟨c0, c1, c2, fr⟩ := at_cells3 h.1
  have HR := hid (way_rem ha hb)
  clear h
  go_enter Tryz.func122, Tryz.ntmps122
  go_wp2_with fail
  go_quiet (fail)
  go_wp2_with fail
  go_ret
  exact ⟨ret_int HR.out, kept_refl _⟩
set_option maxHeartbeats 800000 in
theorem home_any {X R m most n : Nat} {L : Tb} (k : ByteArray) (hk : k.size ≤ maxLen) (h0 : 0 < m) (h4 : m ≤ 4096) (w : World) (h : Tab w X R m most n L) :
    Calls Tryz.prog 95 #[.pointer (some ⟨X, 0, none⟩), .string k] w fun e w' => e = .returned (.int .i64 ((hm m k : Nat) : Int)) ∧ Kept w w' := by
  obtain ⟨c0, c1, c2, fr⟩ := at_cells3 h.1
  have hT := text_any k hk
  have HR := hid (hm_wrap (m := m) h0 h4 k)
  have hl := hm_lt h0 k
  have hwf := bounds_u64 (wf_textI k.data.toList k.size)
  clear h
  generalize textI k.data.toList k.size = t at *
  go_enter Tryz.func95, Tryz.ntmps95
  go_wp2_with fail
  go_quiet ((go_at_call 90; exact Calls.quiet_of_same (hT _)))
  go_wp2_with fail
  go_ret
  exact ⟨ret_int HR.out, kept_refl _⟩
end Go.Proofs.YthgbdaladngpdaaGreat.Slo
