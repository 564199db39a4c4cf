/- A table in memory: its object of three cells, its row of slots; and the contracts of the functions that tell places in it: home, behind, way. A table has at most 4096 slots, a key at most 2^46 bytes. The contracts of find, Get, Slot and Len: what a table has of a key, where. The table is as it may be, with an empty slot. The contract of Set: it answers what the plain function does and leaves the table so; it turns that table alone. The table is as it may be, the key has at most 1000 bytes. The contract of closeUp: behind a hole it moves what the plain function moves, and answers the last hole; -/
import Derived.Test.YthgbdaladngpdaaGreatP03
import Derived.BigQuiet
import Derived.Deep.RegionHeld3
/- A table in memory: its object of three cells, its row of slots; and the contracts of the functions that tell places in it: home, behind, way. A table has at most 4096 slots, a key at most 2^46 bytes. -/
namespace Go.Proofs.YthgbdaladngpdaaGreat.Slo
open Go.ChangeShapes Go.WideShapes Go.ChangeAt Go.RowKit
set_option linter.unusedVariables false
set_option maxRecDepth 100000
set_option linter.unusedSimpArgs false

theorem ret_int {k : IntKind} {a b : Int} (h : a = b) : Ending.returned (.int k a) = .returned (.int k b) := by rw [h]
theorem ret_bool {a b : Bool} (h : a = b) : Ending.returned (.bool a) = .returned (.bool b) := by rw [h]
def RowT (w : World) (T R m : Nat) (L : Tb) : Prop :=
  ∃ cs, At w R cs T ∧ cs.size = m * 3 ∧ ∀ i, i < m → cs[i * 3]? = some (.bool (L i).taken) ∧ cs[i * 3 + 1]? = some (.string (L i).key) ∧ cs[i * 3 + 2]? = some (.int .i64 (L i).v)
section
variable {w w' : World} {T R m : Nat} {L : Tb}
theorem row_lt (h : RowT w T R m L) : R < w.heap.size := by obtain ⟨cs, h, _⟩ := h; exact at_lt h
theorem row_block (h : RowT w T R m L) (e : w'.heap[R]? = w.heap[R]?) : RowT w' T R m L := by
  obtain ⟨cs, h, g⟩ := h
  exact ⟨cs, e.trans h, g⟩
theorem row_kept (h : RowT w T R m L) (k : Kept w w') : RowT w' T R m L := row_block h (kept_block k (row_lt h))
theorem row_drew (h : RowT w T R m L) : RowT w.drew T R m L := h
theorem row_alloc (h : RowT w T R m L) (o : Obj) : RowT (w.alloc o) T R m L := row_kept h (kept_alloc (kept_refl w) o)
theorem row_other (h : RowT w T R m L) {Y o : Nat} (v : Value) (hn : R ≠ Y) : RowT (w.setCell ⟨Y, o, none⟩ v) T R m L := row_block h (Below.heap_setCell _ _ _ _ hn)
theorem row_cells (h : RowT w T R m L) {i : Nat} (hi : i < m) : w.cell? ⟨R, i * 3, none⟩ = some (.bool (L i).taken) ∧ w.cell? ⟨R, i * 3 + 1, none⟩ = some (.string (L i).key) ∧ w.cell? ⟨R, i * 3 + 2, none⟩ = some (.int .i64 (L i).v) ∧ ∀ j, w.frozen? ⟨R, j, none⟩ = false := by
  obtain ⟨cs, h, _, g⟩ := h
  obtain ⟨g0, g1, g2⟩ := g i hi
  exact ⟨(at_cell h _).trans g0, (at_cell h _).trans g1, (at_cell h _).trans g2, at_frozen h⟩
/- A number stored, a whole slot stored. -/
theorem row_setv (h : RowT w T R m L) {a : Nat} (ha : a < m) (v : Int) : RowT (w.setCell ⟨R, a * 3 + 2, none⟩ (.int .i64 v)) T R m (upd L a ⟨(L a).taken, (L a).key, v⟩) := by
  obtain ⟨cs, h, hs, g⟩ := h
  refine ⟨_, at_set h _ _, by simpa using hs, fun i hi => ?_⟩
  obtain ⟨g0, g1, g2⟩ := g i hi
  by_cases e : i = a
  · subst e
    rw [upd_at]
    refine ⟨?_, ?_, ?_⟩
    · rw [Array.getElem?_setIfInBounds, if_neg (by omega)]; exact g0
    · rw [Array.getElem?_setIfInBounds, if_neg (by omega)]; exact g1
    · rw [Array.getElem?_setIfInBounds, if_pos rfl, if_pos (by omega)]
  · rw [upd_ne _ _ e]
    refine ⟨?_, ?_, ?_⟩ <;> (rw [Array.getElem?_setIfInBounds, if_neg (by omega)]; assumption)
def set3 (w : World) (R o : Nat) (a0 a1 a2 : Value) : World := ((w.setCell ⟨R, o, none⟩ a0).setCell ⟨R, o + 1, none⟩ a1).setCell ⟨R, o + 2, none⟩ a2
theorem row_set3 (h : RowT w T R m L) {a : Nat} (ha : a < m) (s : Sl) : RowT (set3 w R (a * 3) (.bool s.taken) (.string s.key) (.int .i64 s.v)) T R m (upd L a s) := by
  obtain ⟨cs, h, hs, g⟩ := h
  refine ⟨_, at_set (at_set (at_set h _ _) _ _) _ _, by simpa using hs, fun i hi => ?_⟩
  obtain ⟨g0, g1, g2⟩ := g i hi
  by_cases e : i = a
  · subst e
    rw [upd_at]
    refine ⟨?_, ?_, ?_⟩
    · rw [Array.getElem?_setIfInBounds, if_neg (by omega), Array.getElem?_setIfInBounds, if_neg (by omega), Array.getElem?_setIfInBounds, if_pos rfl, if_pos (by omega)]
    · rw [Array.getElem?_setIfInBounds, if_neg (by omega), Array.getElem?_setIfInBounds, if_pos rfl, if_pos (by simp; omega)]
    · rw [Array.getElem?_setIfInBounds, if_pos rfl, if_pos (by simp; omega)]
  · rw [upd_ne _ _ e]
    refine ⟨?_, ?_, ?_⟩ <;> (rw [Array.getElem?_setIfInBounds, if_neg (by omega), Array.getElem?_setIfInBounds, if_neg (by omega), Array.getElem?_setIfInBounds, if_neg (by omega)]; assumption)
end
/- The program's table. -/
def Tab (w : World) (X R m most n : Nat) (L : Tb) : Prop :=
  At w X #[.slice (some ⟨R, 0, none⟩) m m, .int .i64 (most : Int), .int .i64 (n : Int)] 108 ∧ RowT w 105 R m L
section
variable {w w' : World} {X R m most n : Nat} {L : Tb}
theorem tab_kept (h : Tab w X R m most n L) (k : Kept w w') : Tab w' X R m most n L := ⟨at_kept h.1 k, row_kept h.2 k⟩
theorem tab_alloc (h : Tab w X R m most n L) (o : Obj) : Tab (w.alloc o) X R m most n L := tab_kept h (kept_alloc (kept_refl w) o)
theorem tab_ne (h : Tab w X R m most n L) : X ≠ R := by
  obtain ⟨cs, hr, _⟩ := h.2
  exact at_ne h.1 hr (by decide)
end
def hm (m : Nat) (s : ByteArray) : Nat := (textI s.data.toList s.size).toNat % m
theorem hm_lt {m : Nat} (h : 0 < m) (s : ByteArray) : hm m s < m := Nat.mod_lt _ h

theorem nxt_rem {m a : Nat} (ha : a < m) : ((a : Int) + 1) % (m : Int) = ((nxt m a : Nat) : Int) := by
  rw [← nxt_mod ha]; rfl
theorem way_rem {m a b : Nat} (ha : a < m) (hb : b < m) : ((b : Int) - (a : Int) + (m : Int)) % (m : Int) = ((way m a b : Nat) : Int) := by
  rw [← way_mod ha hb, show (b : Int) - (a : Int) + (m : Int) = ((b + m - a : Nat) : Int) by omega]; rfl
theorem hm_rem {m : Nat} (s : ByteArray) : textI s.data.toList s.size % (m : Int) = ((hm m s : Nat) : Int) := by
  have h := (bounds_u64 (wf_textI s.data.toList s.size)).1
  unfold hm
  generalize textI s.data.toList s.size = t at *
  obtain ⟨q, rfl⟩ := Int.eq_ofNat_of_zero_le h
  rfl
theorem hm_wrap {m : Nat} (h0 : 0 < m) (h4 : m ≤ 4096) (s : ByteArray) : wrap64 (textI s.data.toList s.size % (m : Int)) = ((hm m s : Nat) : Int) := by
  rw [hm_rem]
  have := hm_lt h0 s
  unfold wrap64; omega
theorem kept_drewN {W w : World} (h : Kept W w) (n : Nat) : Kept W (w.drewN n) := h
set_option maxHeartbeats 800000 in
theorem behind_any {X R m most n : Nat} {L : Tb} (a : Nat) (ha : a < m) (h4 : m ≤ 4096) (w : World) (h : Tab w X R m most n L) :
    Calls Tryz.prog 96 #[.pointer (some ⟨X, 0, none⟩), .int .i64 (a : Int)] w fun e w' => e = .returned (.int .i64 ((nxt m a : Nat) : Int)) ∧ w' = w := by
  obtain ⟨c0, c1, c2, fr⟩ := at_cells3 h.1
  have HR := hid (nxt_rem ha)
  clear h
  go_enter Tryz.func96, Tryz.ntmps96
  go_wp2_with fail
  go_ret
  exact ⟨ret_int HR.out, rfl⟩
set_option maxHeartbeats 800000 in
theorem way_any {X R m most n : Nat} {L : Tb} (a b : Nat) (ha : a < m) (hb : b < m) (h4 : m ≤ 4096) (w : World) (h : Tab w X R m most n L) :
    Calls Tryz.prog 122 #[.pointer (some ⟨X, 0, none⟩), .int .i64 (a : Int), .int .i64 (b : Int)] w fun e w' => e = .returned (.int .i64 ((way m a b : Nat) : Int)) ∧ Kept w w' := by
  obtain ⟨c0, c1, c2, fr⟩ := at_cells3 h.1
  have HR := hid (way_rem ha hb)
  clear h
  go_enter Tryz.func122, Tryz.ntmps122
  go_wp2_with fail
  go_quiet (fail)
  go_wp2_with fail
  go_ret
  exact ⟨ret_int HR.out, kept_refl _⟩
set_option maxHeartbeats 800000 in
theorem home_any {X R m most n : Nat} {L : Tb} (k : ByteArray) (hk : k.size ≤ maxLen) (h0 : 0 < m) (h4 : m ≤ 4096) (w : World) (h : Tab w X R m most n L) :
    Calls Tryz.prog 95 #[.pointer (some ⟨X, 0, none⟩), .string k] w fun e w' => e = .returned (.int .i64 ((hm m k : Nat) : Int)) ∧ Kept w w' := by
  obtain ⟨c0, c1, c2, fr⟩ := at_cells3 h.1
  have hT := text_any k hk
  have HR := hid (hm_wrap (m := m) h0 h4 k)
  have hl := hm_lt h0 k
  have hwf := bounds_u64 (wf_textI k.data.toList k.size)
  clear h
  generalize textI k.data.toList k.size = t at *
  go_enter Tryz.func95, Tryz.ntmps95
  go_wp2_with fail
  go_quiet ((go_at_call 90; exact Calls.quiet_of_same (hT _)))
  go_wp2_with fail
  go_ret
  exact ⟨ret_int HR.out, kept_refl _⟩
end Go.Proofs.YthgbdaladngpdaaGreat.Slo

/- The contracts of find, Get, Slot and Len: what a table has of a key, where. The table is as it may be, with an empty slot. -/
namespace Go.Proofs.YthgbdaladngpdaaGreat.Slo
open Go.ChangeShapes Go.WideShapes Go.ChangeAt Go.RowKit
set_option linter.unusedVariables false
set_option maxRecDepth 100000
set_option linter.unusedSimpArgs false

theorem bytes_ext {a b : ByteArray} (h : a.data.toList = b.data.toList) : a = b := by
  cases a; cases b; congr; exact Array.toList_inj.1 h
theorem bytes_beq (a b : ByteArray) : (a.toList == b.toList) = decide (a = b) := by
  rw [ByteArray.toList_eq, ByteArray.toList_eq]
  by_cases h : a = b
  · subst h; simp
  · rw [decide_eq_false h, beq_eq_false_iff_ne]
    exact fun e => h (bytes_ext e)
theorem ne_true {a b : ByteArray} (h : a ≠ b) : (!a.toList == b.toList) = true := by rw [bytes_beq, decide_eq_false h]; rfl
theorem ne_false {a b : ByteArray} (h : a = b) : (!a.toList == b.toList) = false := by rw [bytes_beq, decide_eq_true h]; rfl
/- A table in memory, as it may be. -/
structure Good (w : World) (X R m most : Nat) (L : Tb) : Prop where
  tab : Tab w X R m most (cnt L m) L
  ok : Ok (hm m) m L
  some : 1 ≤ most
  fit : 2 * most ≤ m
  full : cnt L m ≤ most
  low : m ≤ 4096
  small : ∀ i, (L i).key.size ≤ 1000
section
variable {w w' : World} {X R m most : Nat} {L : Tb}
theorem Good.free (g : Good w X R m most L) : cnt L m < m := by have := g.some; have := g.fit; have := g.full; omega
theorem Good.pos (g : Good w X R m most L) : 0 < m := g.ok.pos
theorem good_kept (g : Good w X R m most L) (k : Kept w w') : Good w' X R m most L := ⟨tab_kept g.tab k, g.ok, g.some, g.fit, g.full, g.low, g.small⟩
theorem good_alloc (g : Good w X R m most L) (o : Obj) : Good (w.alloc o) X R m most L := good_kept g (kept_alloc (kept_refl w) o)
end
theorem find_nil (k : ByteArray) (w : World) : Calls Tryz.prog 68 #[.pointer none, .string k] w fun e w' => e = .returned (.tuple #[.int .i64 0, .bool false]) ∧ w' = w := by
  go_enter Tryz.func68, Tryz.ntmps68
  go_wp2_with fail
  go_ret2
  exact ⟨rfl, rfl⟩
set_option maxHeartbeats 1600000 in
theorem find_any {X R m most : Nat} {L : Tb} (k : ByteArray) (hk : k.size ≤ maxLen) (w : World) (g : Good w X R m most L) :
    Calls Tryz.prog 68 #[.pointer (some ⟨X, 0, none⟩), .string k] w fun e w' => e = .returned (.tuple #[.int .i64 ((spot (hm m) m L k : Nat) : Int), .bool (L (spot (hm m) m L k)).taken]) ∧ Kept w w' := by
  have HG := hid g
  have hm0 := g.pos
  have h4 := g.low
  clear g
  go_enter Tryz.func68, Tryz.ntmps68
  go_wp2_with fail
  refine (home_any k hk hm0 h4 _ HG.out.tab).mono ?_
  rintro e w1 ⟨rfl, k1⟩
  have HG1 := hid (good_kept HG.out k1)
  have HK1 := hid k1
  clear HG k1
  have HP := hid (past_home (k := k) HG1.out.ok)
  go_wp2_with fail
  go_loop [6] (fun j => ∃ a : Nat, j = .int .i64 (a : Int) ∧ a < m ∧ Hid (Past (hm m) m L k a)) (fun j => m - way m (hm m k) (intOf j).toNat)
  case atStart => exact ⟨_, rfl, HP.out.1, HP⟩
  case round =>
    obtain ⟨a, rfl, ha, HA⟩ := hrel
    clear HP
    obtain ⟨c0, c1, c2, fr⟩ := at_cells3 HG1.out.tab.1
    obtain ⟨r0, r1, r2, rf⟩ := row_cells HG1.out.tab.2 ha
    cases t : (L a).taken with
    | false =>
      have HF := hid (spot_eq (past_found (HG1.out.ok.home k) HA.out (fun t1 => by rw [t] at t1; cases t1)))
      rw [t] at r0
      have HT := hid t
      clear t
      go_wp2_with fail
      go_quiet (fail)
      go_wp2_with fail
      go_ret2
      rw [HF.out, HT.out]
      exact ⟨rfl, HK1.out⟩
    | true =>
      rw [t] at r0
      by_cases e : (L a).key = k
      · have HF := hid (spot_eq (past_found (HG1.out.ok.home k) HA.out (fun _ => e)))
        have hne := ne_false e
        have HT := hid t
        clear t e
        generalize (L a).key = q at *
        go_wp2_with fail
        go_quiet (fail)
        go_wp2_with fail
        go_ret2
        rw [HF.out, HT.out]
        exact ⟨rfl, HK1.out⟩
      · have hne := ne_true e
        have HN := hid (past_next (HG1.out.ok.home k) HA.out HG1.out.free t e)
        clear t e
        generalize (L a).key = q at *
        go_wp2_with fail
        refine (behind_any a ha h4 _ HG1.out.tab).mono ?_
        rintro e w2 ⟨rfl, rfl⟩
        go_wp2_with fail
        go_round
        case rel => exact ⟨nxt m a, rfl, HN.out.1.1, HN.out.1⟩
        case measure =>
          have h1 := HN.out.2
          have h2 := way_lt (HG1.out.ok.home k) HN.out.1.1
          simp [intOf]
          omega
set_option maxHeartbeats 800000 in
theorem get_nil (k : ByteArray) (w : World) : Calls Tryz.prog 38 #[.pointer none, .string k] w fun e w' => e = .returned (.tuple #[.int .i64 0, .bool false]) ∧ w' = w := by
  go_enter Tryz.func38, Tryz.ntmps38
  go_wp2_with (go_at_call 68; refine (find_nil k _).mono ?_; rintro e w1 ⟨rfl, rfl⟩)
  go_ret2
  exact ⟨rfl, rfl⟩

theorem len_nil (w : World) : Calls Tryz.prog 52 #[.pointer none] w fun e w' => e = .returned (.int .i64 0) ∧ w' = w := by
  go_enter Tryz.func52, Tryz.ntmps52
  go_wp2_with fail
  go_ret
  exact ⟨rfl, rfl⟩
theorem set_nil (k : ByteArray) (v : Int) (w : World) : Calls Tryz.prog 79 #[.pointer none, .string k, .int .i64 v] w fun e w' => e = .returned (.int .i64 1) ∧ w' = w := by
  go_enter Tryz.func79, Tryz.ntmps79
  go_wp2_with fail
  go_ret
  exact ⟨rfl, rfl⟩
theorem drop_nil (k : ByteArray) (w : World) : Calls Tryz.prog 74 #[.pointer none, .string k] w fun e w' => e = .returned (.bool false) ∧ w' = w := by
  go_enter Tryz.func74, Tryz.ntmps74
  go_wp2_with (go_at_call 68; refine (find_nil k _).mono ?_; rintro e w1 ⟨rfl, rfl⟩)
  go_ret
  exact ⟨rfl, rfl⟩

def slotI (m : Nat) (L : Tb) (k : ByteArray) : Int := if (L (spot (hm m) m L k)).taken = true then ((spot (hm m) m L k : Nat) : Int) else -1
def valI (m : Nat) (L : Tb) (k : ByteArray) : Int := if (L (spot (hm m) m L k)).taken = true then (L (spot (hm m) m L k)).v else 0
theorem len_any {X R m most n : Nat} {L : Tb} (w : World) (h : Tab w X R m most n L) : Calls Tryz.prog 52 #[.pointer (some ⟨X, 0, none⟩)] w fun e w' => e = .returned (.int .i64 (n : Int)) ∧ w' = w := by
  obtain ⟨c0, c1, c2, fr⟩ := at_cells3 h.1
  clear h
  go_enter Tryz.func52, Tryz.ntmps52
  go_wp2_with fail
  go_ret
  exact ⟨rfl, rfl⟩

set_option maxHeartbeats 800000 in
theorem get_any {X R m most : Nat} {L : Tb} (k : ByteArray) (hk : k.size ≤ maxLen) (w : World) (g : Good w X R m most L) :
    Calls Tryz.prog 38 #[.pointer (some ⟨X, 0, none⟩), .string k] w fun e w' => e = .returned (.tuple #[.int .i64 (valI m L k), .bool (L (spot (hm m) m L k)).taken]) ∧ Kept w w' := by
  have hf := find_any k hk w g
  have HE : Hid (valI m L k = if (L (spot (hm m) m L k)).taken = true then (L (spot (hm m) m L k)).v else 0) := rfl
  have ha := (spot_found (k := k) g.ok g.free).lt
  have HG := hid g
  clear g
  generalize spot (hm m) m L k = a at *
  cases t : (L a).taken with
  | false =>
    have HE2 : Hid (valI m L k = 0) := by show valI m L k = 0; have := HE.out; rw [t] at this; simpa using this
    rw [t] at hf
    clear HE t
    go_enter Tryz.func38, Tryz.ntmps38
    go_wp2_with fail
    refine hf.mono ?_
    rintro e w1 ⟨rfl, k1⟩
    go_wp2_with fail
    go_ret2
    rw [HE2.out]
    exact ⟨rfl, k1⟩
  | true =>
    have HE2 : Hid (valI m L k = (L a).v) := by show valI m L k = (L a).v; have := HE.out; rw [t] at this; simpa using this
    rw [t] at hf
    clear HE t
    go_enter Tryz.func38, Tryz.ntmps38
    go_wp2_with fail
    refine hf.mono ?_
    rintro e w1 ⟨rfl, k1⟩
    have g1 := good_kept HG.out k1
    obtain ⟨c0, c1, c2, fr⟩ := at_cells3 g1.tab.1
    obtain ⟨r0, r1, r2, rf⟩ := row_cells g1.tab.2 ha
    clear g1
    go_wp2_with fail
    go_ret2
    rw [HE2.out]
    exact ⟨rfl, k1⟩
end Go.Proofs.YthgbdaladngpdaaGreat.Slo

/- The contract of Set: it answers what the plain function does and leaves the table so; it turns that table alone. The table is as it may be, the key has at most 1000 bytes. -/
namespace Go.Proofs.YthgbdaladngpdaaGreat.Slo
open Go.ChangeShapes Go.WideShapes Go.ChangeAt Go.RowKit
set_option linter.unusedVariables false
set_option maxRecDepth 100000
set_option linter.unusedSimpArgs false

/- Two blocks may have turned, all else that was there stands. -/
def Turns (X R : Nat) (w w' : World) : Prop :=
  w'.os = w.os ∧ w'.output = w.output ∧ w.heap.size ≤ w'.heap.size ∧ ∀ k, k < w.heap.size → k ≠ X → k ≠ R → w'.heap[k]? = w.heap[k]?
section
variable {X R : Nat} {u v w w' : World}
theorem turns_kept (h : Kept w w') : Turns X R w w' := ⟨kept_os h, kept_output h, h.2, fun k hk _ _ => kept_block h hk⟩
theorem turns_refl : Turns X R w w := turns_kept (kept_refl w)
theorem turns_trans (h : Turns X R u v) (k : Turns X R v w) : Turns X R u w :=
  ⟨k.1.trans h.1, k.2.1.trans h.2.1, Nat.le_trans h.2.2.1 k.2.2.1, fun i hi hn hm => (k.2.2.2 i (Nat.lt_of_lt_of_le hi h.2.2.1) hn hm).trans (h.2.2.2 i hi hn hm)⟩
theorem turns_setX (h : Turns X R u w) (o : Nat) (x : Value) : Turns X R u (w.setCell ⟨X, o, none⟩ x) :=
  ⟨h.1, h.2.1, by simpa [World.setCell] using h.2.2.1, fun k hk hn hm => (Below.heap_setCell _ _ _ _ hn).trans (h.2.2.2 k hk hn hm)⟩
theorem turns_setR (h : Turns X R u w) (o : Nat) (x : Value) : Turns X R u (w.setCell ⟨R, o, none⟩ x) :=
  ⟨h.1, h.2.1, by simpa [World.setCell] using h.2.2.1, fun k hk hn hm => (Below.heap_setCell _ _ _ _ hm).trans (h.2.2.2 k hk hn hm)⟩
theorem turns_set3 (h : Turns X R u w) (o : Nat) (a b c : Value) : Turns X R u (set3 w R o a b c) := turns_setR (turns_setR (turns_setR h _ _) _ _) _ _
theorem turns_drew (h : Turns X R u w) : Turns X R u w.drew := h
theorem kept_turns {W : World} (h : Kept W w) (hX : W.heap.size ≤ X) (hR : W.heap.size ≤ R) (hT : Turns X R w w') : Kept W w' :=
  kept_of (hT.1.trans (kept_os h)) (hT.2.1.trans (kept_output h)) (Nat.le_trans h.2 hT.2.2.1) (fun i hi => (hT.2.2.2 i (Nat.lt_of_lt_of_le hi h.2) (by omega) (by omega)).trans (kept_block h hi))
theorem at_turns {Y T : Nat} {cs : Array Value} (h : At w Y cs T) (hT : Turns X R w w') (h1 : Y ≠ X) (h2 : Y ≠ R) : At w' Y cs T := (hT.2.2.2 Y (at_lt h) h1 h2).trans h
theorem row_turns {Y T m : Nat} {L : Tb} (h : RowT w T Y m L) (hT : Turns X R w w') (h1 : Y ≠ X) (h2 : Y ≠ R) : RowT w' T Y m L := row_block h (hT.2.2.2 Y (row_lt h) h1 h2)
end
section
variable {w w' : World} {X R m most : Nat} {L : Tb}
theorem set3_at {Y T o : Nat} {cs : Array Value} {a b c : Value} (h : At w Y cs T) (hn : Y ≠ R) : At (set3 w R o a b c) Y cs T := at_other (at_other (at_other h hn _ _) hn _ _) hn _ _
theorem set3_cell (g : Good w X R m most L) (o : Nat) (a b c : Value) : (((w.setCell ⟨R, o, none⟩ a).setCell ⟨R, o + 1, none⟩ b).setCell ⟨R, o + 2, none⟩ c).cell? ⟨X, 0, none⟩ = some (.slice (some ⟨R, 0, none⟩) m m) :=
  (at_cells3 (set3_at (o := o) (a := a) (b := b) (c := c) g.tab.1 (tab_ne g.tab))).1
theorem small_put {L : Tb} {k : ByteArray} (h : ∀ i, (L i).key.size ≤ 1000) (hk : k.size ≤ 1000) (a : Nat) (b : Bool) (v : Int) (i : Nat) : (upd L a ⟨b, k, v⟩ i).key.size ≤ 1000 := by
  unfold upd; split
  · exact hk
  · exact h i
/- A key that is there. -/
theorem good_over (g : Good w X R m most L) {k : ByteArray} (hk : k.size ≤ 1000) {a : Nat} (f : Found (hm m) m L k a) (t : (L a).taken = true) (v : Int) :
    Good (w.setCell ⟨R, a * 3 + 2, none⟩ (.int .i64 v)) X R m most (upd L a ⟨true, k, v⟩) := by
  have e : (⟨(L a).taken, (L a).key, v⟩ : Sl) = ⟨true, k, v⟩ := by rw [t, f.mine t]
  have hr := row_setv g.tab.2 f.lt v
  rw [e] at hr
  have hc : cnt (upd L a ⟨true, k, v⟩) m = cnt L m := by
    have := cnt_upd L (i := a) (n := m) ⟨true, k, v⟩ f.lt
    rw [if_pos t] at this
    simpa using this
  refine ⟨⟨?_, hr⟩, ok_put g.ok f v, g.some, g.fit, by rw [hc]; exact g.full, g.low, fun i => small_put g.small hk a true v i⟩
  rw [hc]
  exact at_other g.tab.1 (tab_ne g.tab) _ _
/- A key that is added. -/
theorem good_add (g : Good w X R m most L) {k : ByteArray} (hk : k.size ≤ 1000) {a : Nat} (f : Found (hm m) m L k a) (t : (L a).taken = false) (c : cnt L m < most) (v : Int) :
    Good ((set3 w R (a * 3) (.bool true) (.string k) (.int .i64 v)).setCell ⟨X, 2, none⟩ (.int .i64 ((cnt L m : Int) + 1))) X R m most (upd L a ⟨true, k, v⟩) := by
  have hr := row_set3 g.tab.2 f.lt ⟨true, k, v⟩
  have hc : cnt (upd L a ⟨true, k, v⟩) m = cnt L m + 1 := by
    have := cnt_upd L (i := a) (n := m) ⟨true, k, v⟩ f.lt
    rw [t] at this
    simpa using this
  refine ⟨⟨?_, row_other hr _ (Ne.symm (tab_ne g.tab))⟩, ok_put g.ok f v, g.some, g.fit, by rw [hc]; exact c, g.low, fun i => small_put g.small hk a true v i⟩
  rw [hc]
  exact at_set (set3_at g.tab.1 (tab_ne g.tab)) 2 _
end
set_option maxHeartbeats 1600000 in
theorem set_any {X R m most : Nat} {L : Tb} (k : ByteArray) (hk : k.size ≤ 1000) (v : Int) (w : World) (g : Good w X R m most L) :
    Calls Tryz.prog 79 #[.pointer (some ⟨X, 0, none⟩), .string k, .int .i64 v] w fun e w' => e = .returned (.int .i64 (((setT (hm m) m most L k v).1 : Nat) : Int)) ∧ Turns X R w w' ∧ Good w' X R m most (setT (hm m) m most L k v).2 := by
  have hkm : k.size ≤ maxLen := by unfold maxLen; omega
  have hk47 : k.size ≤ 140737488355328 := by omega
  have hf := find_any k hkm w g
  have HF := hid (spot_found (k := k) g.ok g.free)
  have HE : Hid (setT (hm m) m most L k v = if (L (spot (hm m) m L k)).taken = true then (0, upd L (spot (hm m) m L k) ⟨true, k, v⟩) else if cnt L m = most then (6, L) else (0, upd L (spot (hm m) m L k) ⟨true, k, v⟩)) := rfl
  have HG := hid g
  have HKk := hid hk
  clear g hkm hk
  generalize spot (hm m) m L k = a at *
  have ha := HF.out.lt
  cases t : (L a).taken with
  | true =>
    have HE2 : Hid (setT (hm m) m most L k v = (0, upd L a ⟨true, k, v⟩)) := hid (by rw [HE.out, if_pos t])
    rw [t] at hf
    have HT := hid t
    clear HE t
    go_enter Tryz.func79, Tryz.ntmps79
    go_wp2_with fail
    refine hf.mono ?_
    rintro e w1 ⟨rfl, k1⟩
    have HG1 := hid (good_kept HG.out k1)
    obtain ⟨c0, c1, c2, fr⟩ := at_cells3 HG1.out.tab.1
    obtain ⟨r0, r1, r2, rf⟩ := row_cells HG1.out.tab.2 ha
    go_wp2_with fail
    go_ret
    rw [HE2.out]
    exact ⟨rfl, turns_setR (turns_kept k1) _ _, good_over HG1.out HKk.out HF.out HT.out v⟩
  | false =>
    rw [t] at hf
    have HT := hid t
    by_cases hc : cnt L m = most
    · have HE2 : Hid (setT (hm m) m most L k v = (6, L)) := hid (by rw [HE.out, if_neg (by rw [t]; simp), if_pos hc])
      have hc2 : ((cnt L m : Int) == (most : Int)) = true := by simp; omega
      clear HE t hc
      go_enter Tryz.func79, Tryz.ntmps79
      go_wp2_with fail
      refine hf.mono ?_
      rintro e w1 ⟨rfl, k1⟩
      have HG1 := hid (good_kept HG.out k1)
      obtain ⟨c0, c1, c2, fr⟩ := at_cells3 HG1.out.tab.1
      go_wp2_with fail
      go_quiet (fail)
      go_wp2_with fail
      go_ret
      rw [HE2.out]
      exact ⟨rfl, turns_kept k1, good_kept HG1.out (kept_drewN (kept_refl _) _)⟩
    · have HE2 : Hid (setT (hm m) m most L k v = (0, upd L a ⟨true, k, v⟩)) := hid (by rw [HE.out, if_neg (by rw [t]; simp), if_neg hc])
      have hc2 : ((cnt L m : Int) == (most : Int)) = false := by simp; omega
      have HC : Hid (cnt L m < most) := hid (by have := HG.out.full; omega)
      have hcl : cnt L m ≤ 4096 := by have := HG.out.free; have := HG.out.low; omega
      clear HE t hc
      go_enter Tryz.func79, Tryz.ntmps79
      go_wp2_with fail
      refine hf.mono ?_
      rintro e w1 ⟨rfl, k1⟩
      have HG1 := hid (good_kept HG.out k1)
      have HK1 := hid k1
      obtain ⟨c0, c1, c2, fr⟩ := at_cells3 HG1.out.tab.1
      go_wp2_with fail
      go_quiet (fail)
      clear c0 c1 c2 fr hf k1
      replace HK1 := hid (kept_drewN HK1.out nq)
      replace HG1 := hid (good_kept HG1.out (kept_drewN (kept_refl _) nq))
      generalize w1.drewN nq = w2 at *
      have hS := (at_cells3 HG1.out.tab.1).1
      go_wp2_with fail
      replace HK1 := hid (kept_drew HK1.out)
      replace HG1 := hid (good_kept HG1.out (kept_drew (kept_refl _)))
      refine wp_region_noPanic ?_
      refine wp_region_held_drew (S := (fun w' => w'.cell? ⟨X, 0, none⟩ = some (.slice (some ⟨R, 0, none⟩) m m))) (by kernel_rfl) (by assumption) (fun hHeld => ?_)
      refine wpAnyH_take (i := 0) (v := .pointer (some ⟨X, 0, none⟩)) rfl (by kernel_rfl) (by kernel_rfl) (by kernel_rfl) (fun _ _ _ h => h) (Or.inl ⟨by rfl, fun w hSw => by (try dsimp only at hSw); go_simp⟩) (by assumption) ?_
      try simp only [List.getElem_toArray, List.getElem_cons_zero, List.getElem_cons_succ, Act.put, List.setIfInBounds_toArray, List.set_cons_zero, List.set_cons_succ]
      refine wpAnyH_take (i := 1) (v := .pointer (some ⟨X, 0, none⟩)) rfl (by kernel_rfl) (by kernel_rfl) (by kernel_rfl) (fun _ _ _ h => h) (Or.inl ⟨by rfl, fun w hSw => by (try dsimp only at hSw); go_simp⟩) (by assumption) ?_
      try simp only [List.getElem_toArray, List.getElem_cons_zero, List.getElem_cons_succ, Act.put, List.setIfInBounds_toArray, List.set_cons_zero, List.set_cons_succ]
      refine wpAnyH_take (i := 2) (v := .pointer (some ⟨X, 0, none⟩)) rfl (by kernel_rfl) (by kernel_rfl) (by kernel_rfl) (fun _ _ _ h => h) (Or.inl ⟨by rfl, fun w hSw => by (try dsimp only at hSw); go_simp⟩) (by assumption) ?_
      try simp only [List.getElem_toArray, List.getElem_cons_zero, List.getElem_cons_succ, Act.put, List.setIfInBounds_toArray, List.set_cons_zero, List.set_cons_succ]
      refine wpAnyH_take (i := 3) (v := .slice (some ⟨R, 0, none⟩) m m) rfl (by kernel_rfl) (by kernel_rfl) (by kernel_rfl) (fun _ _ _ h => h) (Or.inl ⟨by rfl, fun w hSw => by (try dsimp only at hSw); go_simp⟩) (by assumption) ?_
      try simp only [List.getElem_toArray, List.getElem_cons_zero, List.getElem_cons_succ, Act.put, List.setIfInBounds_toArray, List.set_cons_zero, List.set_cons_succ]
      refine wpAnyH_take (i := 4) (v := .int .i64 (a : Int)) rfl (by kernel_rfl) (by kernel_rfl) (by kernel_rfl) (fun _ _ _ h => h) (Or.inl ⟨by rfl, fun w hSw => by (try dsimp only at hSw); go_simp⟩) (by assumption) ?_
      try simp only [List.getElem_toArray, List.getElem_cons_zero, List.getElem_cons_succ, Act.put, List.setIfInBounds_toArray, List.set_cons_zero, List.set_cons_succ]
      refine wpAnyH_take (i := 5) (v := .string k) rfl (by kernel_rfl) (by kernel_rfl) (by kernel_rfl) (fun _ _ _ h => h) (Or.inl ⟨by rfl, fun w hSw => by (try dsimp only at hSw); go_simp⟩) (by assumption) ?_
      try simp only [List.getElem_toArray, List.getElem_cons_zero, List.getElem_cons_succ, Act.put, List.setIfInBounds_toArray, List.set_cons_zero, List.set_cons_succ]
      refine wpAnyH_take (i := 7) (v := .int .i64 v) rfl (by kernel_rfl) (by kernel_rfl) (by kernel_rfl) (fun _ _ _ h => h) (Or.inl ⟨by rfl, fun w hSw => by (try dsimp only at hSw); go_simp⟩) (by assumption) ?_
      try simp only [List.getElem_toArray, List.getElem_cons_zero, List.getElem_cons_succ, Act.put, List.setIfInBounds_toArray, List.set_cons_zero, List.set_cons_succ]
      refine wpAnyH_ready (rs := [6]) (by kernel_rfl) (by simp) ?_
      refine AllReadyH.cons (i := 6) rfl (fun K hK => ?_) AllReadyH.nil
      go_simp
      refine (clone_any k hk47 _).mono ?_
      rintro e w3 ⟨rfl, h3⟩
      replace HK1 := hid (kept_trans HK1.out (kept_below h3))
      replace HG1 := hid (good_kept HG1.out (kept_below h3))
      clear h3
      have hS := (at_cells3 HG1.out.tab.1).1
      clear hHeld
      show K _ _
      refine hK.out _ _ (by assumption) (fun hHeld => ?_)
      clear hK K
      try simp only [List.getElem_toArray, List.getElem_cons_zero, List.getElem_cons_succ, Act.put, List.setIfInBounds_toArray, List.set_cons_zero, List.set_cons_succ]
      refine wpAnyH_take (i := 8) (v := .agg #[.bool true, .string k, .int .i64 v]) rfl (by kernel_rfl) (by kernel_rfl) (by kernel_rfl) (fun _ _ _ h => h) (Or.inl ⟨by rfl, fun w hSw => by (try dsimp only at hSw); go_simp⟩) (by assumption) ?_
      try simp only [List.getElem_toArray, List.getElem_cons_zero, List.getElem_cons_succ, Act.put, List.setIfInBounds_toArray, List.set_cons_zero, List.set_cons_succ]
      refine wpAnyH_take (i := 9) (v := .pointer (some ⟨R, a * 3, none⟩)) rfl (by kernel_rfl) (by kernel_rfl) (by kernel_rfl) (fun _ _ _ h => h) (Or.inl ⟨by rfl, fun w hSw => by (try dsimp only at hSw); go_simp⟩) (by assumption) ?_
      try simp only [List.getElem_toArray, List.getElem_cons_zero, List.getElem_cons_succ, Act.put, List.setIfInBounds_toArray, List.set_cons_zero, List.set_cons_succ]
      refine wpAnyH_ready (rs := [10]) (by kernel_rfl) (by simp) ?_
      refine AllReadyH.cons (i := 10) rfl (fun K hK => ?_) AllReadyH.nil
      obtain ⟨r0, r1, r2, rf⟩ := row_cells HG1.out.tab.2 ha
      go_simp
      have hS := set3_cell HG1.out (a * 3) (.bool true) (.string k) (.int .i64 v)
      clear hHeld
      show K _ _
      refine hK.out _ _ (by assumption) (fun hHeld => ?_)
      clear hK K
      try simp only [List.getElem_toArray, List.getElem_cons_zero, List.getElem_cons_succ, Act.put, List.setIfInBounds_toArray, List.set_cons_zero, List.set_cons_succ]
      refine wpAnyH_done (by kernel_rfl) ?_ _
      refine NoPanic.normal ?_
      have HG3 := hid (good_add HG1.out HKk.out HF.out HT.out HC.out v)
      have HK3 := hid (turns_set3 (turns_kept (X := X) (R := R) HK1.out) (a * 3) (.bool true) (.string k) (.int .i64 v))
      obtain ⟨d0, d1, d2, df⟩ := at_cells3 (set3_at (o := a * 3) (a := .bool true) (b := .string k) (c := .int .i64 v) HG1.out.tab.1 (tab_ne HG1.out.tab))
      unfold set3 at *
      generalize ((w3.setCell ⟨R, a * 3, none⟩ (.bool true)).setCell ⟨R, a * 3 + 1, none⟩ (.string k)).setCell ⟨R, a * 3 + 2, none⟩ (.int .i64 v) = w4 at *
      go_wp2_with fail
      go_ret
      rw [HE2.out]
      exact ⟨rfl, turns_setX HK3.out _ _, HG3.out⟩
end Go.Proofs.YthgbdaladngpdaaGreat.Slo

/- The contract of closeUp: behind a hole it moves what the plain function moves, and answers the last hole; it turns the table's row alone. -/
namespace Go.Proofs.YthgbdaladngpdaaGreat.Slo
open Go.ChangeShapes Go.WideShapes Go.ChangeAt Go.RowKit
set_option linter.unusedVariables false
set_option maxRecDepth 100000
set_option linter.unusedSimpArgs false

section
variable {w : World} {X R m most n : Nat} {L : Tb}
theorem tab_set3 (h : Tab w X R m most n L) {o : Nat} (ho : o < m) (s : Sl) : Tab (set3 w R (o * 3) (.bool s.taken) (.string s.key) (.int .i64 s.v)) X R m most n (upd L o s) :=
  ⟨set3_at h.1 (tab_ne h), row_set3 h.2 ho s⟩
theorem small_upd {L : Tb} {s : Sl} (h : ∀ i, (L i).key.size ≤ 1000) (hs : s.key.size ≤ 1000) (a : Nat) (i : Nat) : (upd L a s i).key.size ≤ 1000 := by
  unfold upd; split
  · exact hs
  · exact h i
theorem cells_move {o a : Nat} {b0 b1 b2 : Value} (h : Tab (set3 w R (o * 3) b0 b1 b2) X R m most n (upd L o (L a))) (ha : a < m) (hn : a ≠ o) :
    (set3 w R (o * 3) b0 b1 b2).cell? ⟨X, 0, none⟩ = some (.slice (some ⟨R, 0, none⟩) m m) ∧ (set3 w R (o * 3) b0 b1 b2).cell? ⟨R, a * 3, none⟩ = some (.bool (L a).taken) ∧ (set3 w R (o * 3) b0 b1 b2).cell? ⟨R, a * 3 + 1, none⟩ = some (.string (L a).key) ∧ (set3 w R (o * 3) b0 b1 b2).cell? ⟨R, a * 3 + 2, none⟩ = some (.int .i64 (L a).v) := by
  obtain ⟨g0, g1, g2, _⟩ := row_cells h.2 ha
  rw [upd_ne _ _ hn] at g0 g1 g2
  exact ⟨(at_cells3 h.1).1, g0, g1, g2⟩
end
theorem cl_stop (h : ByteArray → Nat) (m f : Nat) (L : Tb) (o a : Nat) (t : (L a).taken = false) : cl h m f L o a = (L, o) := by
  cases f with
  | zero => rfl
  | succ f => unfold cl; rw [if_neg (by rw [t]; simp)]
theorem cl_on (h : ByteArray → Nat) (m f : Nat) (L : Tb) (o a : Nat) (t : (L a).taken = true) (w : way m o a ≤ way m (h (L a).key) a) : cl h m (f + 1) L o a = cl h m f (upd L o (L a)) a (nxt m a) := by
  rw [cl, if_pos t, if_pos w]
theorem cl_by (h : ByteArray → Nat) (m f : Nat) (L : Tb) (o a : Nat) (t : (L a).taken = true) (w : ¬ way m o a ≤ way m (h (L a).key) a) : cl h m (f + 1) L o a = cl h m f L o (nxt m a) := by
  rw [cl, if_pos t, if_neg w]
set_option maxHeartbeats 3200000 in
theorem close_any {X R m most n : Nat} {L : Tb} (p : Nat) (h4 : m ≤ 4096) (ok : Ok (hm m) m L) (fr : cnt L m < m) (t : (L p).taken = true) (sm : ∀ i, (L i).key.size ≤ 1000) (w : World) (h : Tab w X R m most n L) :
    Calls Tryz.prog 101 #[.pointer (some ⟨X, 0, none⟩), .int .i64 (p : Int)] w fun e w' => e = .returned (.int .i64 (((cl (hm m) m m L p (nxt m p)).2 : Nat) : Int)) ∧ Turns X R w w' ∧ Tab w' X R m most n (cl (hm m) m m L p (nxt m p)).1 ∧ ∀ i, ((cl (hm m) m m L p (nxt m p)).1 i).key.size ≤ 1000 := by
  obtain ⟨e, ce, he⟩ := cl_begin ok fr t
  have hp := ce.ho
  have h0 := ok.pos
  have HH := hid ok.home
  have HC := hid ce
  have HE := hid he
  have HT := hid h
  have HS := hid sm
  clear ok fr t sm h ce he
  generalize hF : cl (hm m) m m L p (nxt m p) = F at *
  have HF := hid hF
  clear hF
  go_enter Tryz.func101, Tryz.ntmps101
  go_wp2_with fail
  refine (behind_any p hp h4 _ HT.out).mono ?_
  rintro e1 w1 ⟨rfl, rfl⟩
  go_wp2_with fail
  go_loopw [1, 5] (fun i j wr => ∃ (f o a : Nat) (L2 : Tb), i = .int .i64 (o : Int) ∧ j = .int .i64 (a : Int) ∧ o < m ∧ a < m ∧ Hid (Cl (hm m) m L2 o a e) ∧ Hid (way m a e ≤ f) ∧ Hid (cl (hm m) m f L2 o a = F) ∧ Hid (Turns X R w1 wr) ∧ Hid (Tab wr X R m most n L2) ∧ Hid (∀ i, (L2 i).key.size ≤ 1000)) (fun _ j _ => way m (intOf j).toNat e)
  case atStart => exact ⟨m, p, nxt m p, L, rfl, rfl, hp, HC.out.ha, HC, HE, HF, turns_refl, HT, HS⟩
  case round =>
    obtain ⟨f, o, a, L2, rfl, rfl, ho, ha, HCl, HW, HFe, HTu, HTb, HSm⟩ := hrel
    clear HC HE HT HS HF
    obtain ⟨c0, c1, c2, fr⟩ := at_cells3 HTb.out.1
    obtain ⟨r0, r1, r2, rf⟩ := row_cells HTb.out.2 ha
    cases t : (L2 a).taken with
    | false =>
      rw [t] at r0
      have HR := hid ((cl_stop (hm m) m f L2 o a t).symm.trans HFe.out)
      clear t
      go_wp2_with fail
      go_ret
      rw [← HR.out]
      exact ⟨rfl, HTu.out, HTb.out, HSm.out⟩
    | true =>
      rw [t] at r0
      have hks : (L2 a).key.size ≤ maxLen := by have := HSm.out a; unfold maxLen; omega
      have HD := hid t
      have hf : ∃ f2, f = f2 + 1 := by
        have h1 := cl_free HCl.out t
        have h2 := HW.out
        cases f with
        | zero => exact absurd (way_inj HCl.out.ha HCl.out.ha HCl.out.he (by rw [way_self]; omega)) h1
        | succ f => exact ⟨f, rfl⟩
      obtain ⟨f2, rfl⟩ := hf
      clear t
      go_wp2_with fail
      refine (home_any (L2 a).key hks h0 h4 _ HTb.out).mono ?_
      rintro e1 w2 ⟨rfl, k2⟩
      go_wp2_with fail
      refine (way_any (hm m (L2 a).key) a (HH.out _) ha h4 _ (tab_kept HTb.out k2)).mono ?_
      rintro e1 w3 ⟨rfl, k3⟩
      go_wp2_with fail
      refine (way_any o a ho ha h4 _ (tab_kept HTb.out (kept_trans k2 k3))).mono ?_
      rintro e1 w4 ⟨rfl, k4⟩
      have HT3 := hid (tab_kept HTb.out (kept_trans (kept_trans k2 k3) k4))
      have HU3 := hid (turns_trans HTu.out (turns_kept (kept_trans (kept_trans k2 k3) k4)))
      clear k2 k3 k4 HTu HTb c0 c1 c2 fr r0 r1 r2 rf
      by_cases hw : way m o a ≤ way m (hm m (L2 a).key) a
      · obtain ⟨c5, hd⟩ := cl_move HH.out HCl.out HD.out hw
        have HC5 := hid c5
        have HD5 := hid hd
        have HF5 := hid ((cl_on (hm m) m f2 L2 o a HD.out hw).symm.trans HFe.out)
        have hw2 : ((way m o a : Nat) : Int) ≤ ((way m (hm m (L2 a).key) a : Nat) : Int) := by omega
        have HN := hid HCl.out.nea
        clear hw c5 hd
        go_wp2_with fail
        have hS : w4.drew.cell? ⟨X, 0, none⟩ = some (.slice (some ⟨R, 0, none⟩) m m) ∧ w4.drew.cell? ⟨R, a * 3, none⟩ = some (.bool (L2 a).taken) ∧ w4.drew.cell? ⟨R, a * 3 + 1, none⟩ = some (.string (L2 a).key) ∧ w4.drew.cell? ⟨R, a * 3 + 2, none⟩ = some (.int .i64 (L2 a).v) := by
          obtain ⟨g0, g1, g2, _⟩ := row_cells HT3.out.2 ha
          exact ⟨(at_cells3 HT3.out.1).1, g0, g1, g2⟩
        replace HT3 := hid (tab_kept HT3.out (kept_drew (kept_refl _)))
        replace HU3 := hid (turns_drew HU3.out)
        have HT5 := hid (tab_set3 HT3.out ho (L2 a))
        have HU5 := hid (turns_set3 HU3.out (o * 3) (.bool (L2 a).taken) (.string (L2 a).key) (.int .i64 (L2 a).v))
        have HS4 := hid (cells_move HT5.out ha HN.out)
        unfold set3 at *
        refine wp_region_noPanic ?_
        refine wp_region_held_drew (S := (fun w' => w'.cell? ⟨X, 0, none⟩ = some (.slice (some ⟨R, 0, none⟩) m m) ∧ w'.cell? ⟨R, a * 3, none⟩ = some (.bool (L2 a).taken) ∧ w'.cell? ⟨R, a * 3 + 1, none⟩ = some (.string (L2 a).key) ∧ w'.cell? ⟨R, a * 3 + 2, none⟩ = some (.int .i64 (L2 a).v))) (by kernel_rfl) (by assumption) (fun hHeld => ?_)
        generalize w4.drew = w5 at *
        refine wpAnyH_take (i := 0) (v := .pointer (some ⟨X, 0, none⟩)) rfl (by kernel_rfl) (by kernel_rfl) (by kernel_rfl) (fun _ _ _ h => h) (Or.inl ⟨by rfl, fun w hSw => by (try dsimp only at hSw); go_simp⟩) (by assumption) ?_
        try simp only [List.getElem_toArray, List.getElem_cons_zero, List.getElem_cons_succ, Act.put, List.setIfInBounds_toArray, List.set_cons_zero, List.set_cons_succ]
        refine wpAnyH_take (i := 1) (v := .pointer (some ⟨X, 0, none⟩)) rfl (by kernel_rfl) (by kernel_rfl) (by kernel_rfl) (fun _ _ _ h => h) (Or.inl ⟨by rfl, fun w hSw => by (try dsimp only at hSw); go_simp⟩) (by assumption) ?_
        try simp only [List.getElem_toArray, List.getElem_cons_zero, List.getElem_cons_succ, Act.put, List.setIfInBounds_toArray, List.set_cons_zero, List.set_cons_succ]
        refine wpAnyH_take (i := 2) (v := .pointer (some ⟨X, 0, none⟩)) rfl (by kernel_rfl) (by kernel_rfl) (by kernel_rfl) (fun _ _ _ h => h) (Or.inl ⟨by rfl, fun w hSw => by (try dsimp only at hSw); go_simp⟩) (by assumption) ?_
        try simp only [List.getElem_toArray, List.getElem_cons_zero, List.getElem_cons_succ, Act.put, List.setIfInBounds_toArray, List.set_cons_zero, List.set_cons_succ]
        refine wpAnyH_take (i := 3) (v := .slice (some ⟨R, 0, none⟩) m m) rfl (by kernel_rfl) (by kernel_rfl) (by kernel_rfl) (fun _ _ _ h => h) (Or.inl ⟨by rfl, fun w hSw => by (try dsimp only at hSw); go_simp⟩) (by assumption) ?_
        try simp only [List.getElem_toArray, List.getElem_cons_zero, List.getElem_cons_succ, Act.put, List.setIfInBounds_toArray, List.set_cons_zero, List.set_cons_succ]
        refine wpAnyH_take (i := 4) (v := .int .i64 (o : Int)) rfl (by kernel_rfl) (by kernel_rfl) (by kernel_rfl) (fun _ _ _ h => h) (Or.inl ⟨by rfl, fun w hSw => by (try dsimp only at hSw); go_simp⟩) (by assumption) ?_
        try simp only [List.getElem_toArray, List.getElem_cons_zero, List.getElem_cons_succ, Act.put, List.setIfInBounds_toArray, List.set_cons_zero, List.set_cons_succ]
        refine wpAnyH_take (i := 5) (v := .pointer (some ⟨X, 0, none⟩)) rfl (by kernel_rfl) (by kernel_rfl) (by kernel_rfl) (fun _ _ _ h => h) (Or.inl ⟨by rfl, fun w hSw => by (try dsimp only at hSw); go_simp⟩) (by assumption) ?_
        try simp only [List.getElem_toArray, List.getElem_cons_zero, List.getElem_cons_succ, Act.put, List.setIfInBounds_toArray, List.set_cons_zero, List.set_cons_succ]
        refine wpAnyH_take (i := 6) (v := .pointer (some ⟨X, 0, none⟩)) rfl (by kernel_rfl) (by kernel_rfl) (by kernel_rfl) (fun _ _ _ h => h) (Or.inl ⟨by rfl, fun w hSw => by (try dsimp only at hSw); go_simp⟩) (by assumption) ?_
        try simp only [List.getElem_toArray, List.getElem_cons_zero, List.getElem_cons_succ, Act.put, List.setIfInBounds_toArray, List.set_cons_zero, List.set_cons_succ]
        refine wpAnyH_take (i := 7) (v := .pointer (some ⟨X, 0, none⟩)) rfl (by kernel_rfl) (by kernel_rfl) (by kernel_rfl) (fun _ _ _ h => h) (Or.inl ⟨by rfl, fun w hSw => by (try dsimp only at hSw); go_simp⟩) (by assumption) ?_
        try simp only [List.getElem_toArray, List.getElem_cons_zero, List.getElem_cons_succ, Act.put, List.setIfInBounds_toArray, List.set_cons_zero, List.set_cons_succ]
        refine wpAnyH_take (i := 8) (v := .slice (some ⟨R, 0, none⟩) m m) rfl (by kernel_rfl) (by kernel_rfl) (by kernel_rfl) (fun _ _ _ h => h) (Or.inl ⟨by rfl, fun w hSw => by (try dsimp only at hSw); go_simp⟩) (by assumption) ?_
        try simp only [List.getElem_toArray, List.getElem_cons_zero, List.getElem_cons_succ, Act.put, List.setIfInBounds_toArray, List.set_cons_zero, List.set_cons_succ]
        refine wpAnyH_take (i := 9) (v := .int .i64 (a : Int)) rfl (by kernel_rfl) (by kernel_rfl) (by kernel_rfl) (fun _ _ _ h => h) (Or.inl ⟨by rfl, fun w hSw => by (try dsimp only at hSw); go_simp⟩) (by assumption) ?_
        try simp only [List.getElem_toArray, List.getElem_cons_zero, List.getElem_cons_succ, Act.put, List.setIfInBounds_toArray, List.set_cons_zero, List.set_cons_succ]
        refine wpAnyH_take (i := 10) (v := .pointer (some ⟨R, a * 3, none⟩)) rfl (by kernel_rfl) (by kernel_rfl) (by kernel_rfl) (fun _ _ _ h => h) (Or.inl ⟨by rfl, fun w hSw => by (try dsimp only at hSw); go_simp⟩) (by assumption) ?_
        try simp only [List.getElem_toArray, List.getElem_cons_zero, List.getElem_cons_succ, Act.put, List.setIfInBounds_toArray, List.set_cons_zero, List.set_cons_succ]
        refine wpAnyH_take (i := 11) (v := .agg #[.bool (L2 a).taken, .string (L2 a).key, .int .i64 (L2 a).v]) rfl (by kernel_rfl) (by kernel_rfl) (by kernel_rfl) (fun _ _ _ h => h) (Or.inl ⟨by rfl, fun w hSw => by (try dsimp only at hSw); go_simp⟩) (by assumption) ?_
        try simp only [List.getElem_toArray, List.getElem_cons_zero, List.getElem_cons_succ, Act.put, List.setIfInBounds_toArray, List.set_cons_zero, List.set_cons_succ]
        refine wpAnyH_take (i := 12) (v := .pointer (some ⟨R, o * 3, none⟩)) rfl (by kernel_rfl) (by kernel_rfl) (by kernel_rfl) (fun _ _ _ h => h) (Or.inl ⟨by rfl, fun w hSw => by (try dsimp only at hSw); go_simp⟩) (by assumption) ?_
        try simp only [List.getElem_toArray, List.getElem_cons_zero, List.getElem_cons_succ, Act.put, List.setIfInBounds_toArray, List.set_cons_zero, List.set_cons_succ]
        refine wpAnyH_ready (rs := [13]) (by kernel_rfl) (by simp) ?_
        refine AllReadyH.cons (i := 13) rfl (fun K hK => ?_) AllReadyH.nil
        obtain ⟨o0, o1, o2, of⟩ := row_cells HT3.out.2 ho
        go_simp
        have hS := HS4.out
        clear hHeld
        show K _ _
        refine hK.out _ _ (by assumption) (fun hHeld => ?_)
        clear hK K
        try simp only [List.getElem_toArray, List.getElem_cons_zero, List.getElem_cons_succ, Act.put, List.setIfInBounds_toArray, List.set_cons_zero, List.set_cons_succ]
        refine wpAnyH_done (by kernel_rfl) ?_ _
        refine NoPanic.normal ?_
        clear hS HS4 o0 o1 o2 of hHeld
        generalize ((w5.setCell ⟨R, o * 3, none⟩ (.bool (L2 a).taken)).setCell ⟨R, o * 3 + 1, none⟩ (.string (L2 a).key)).setCell ⟨R, o * 3 + 2, none⟩ (.int .i64 (L2 a).v) = w6 at *
        go_wp2_with fail
        refine (behind_any a ha h4 _ HT5.out).mono ?_
        rintro e1 w7 ⟨rfl, rfl⟩
        go_wp2_with fail
        go_roundw
        case rel => exact ⟨f2, a, nxt m a, upd L2 o (L2 a), rfl, rfl, ha, HC5.out.ha, HC5, hid (by have := HD5.out; have := HW.out; omega), HF5, HU5, HT5, hid (small_upd HSm.out (HSm.out a) o)⟩
        case measure => have := HD5.out; simp [intOf]; omega
      · obtain ⟨c5, hd⟩ := cl_stay HH.out HCl.out HD.out hw
        have HC5 := hid c5
        have HD5 := hid hd
        have HF5 := hid ((cl_by (hm m) m f2 L2 o a HD.out hw).symm.trans HFe.out)
        have hw2 : ¬ ((way m o a : Nat) : Int) ≤ ((way m (hm m (L2 a).key) a : Nat) : Int) := by omega
        clear hw c5 hd
        go_wp2_with fail
        refine (behind_any a ha h4 _ HT3.out).mono ?_
        rintro e1 w5 ⟨rfl, rfl⟩
        go_wp2_with fail
        go_roundw
        case rel => exact ⟨f2, o, nxt m a, L2, rfl, rfl, ho, HC5.out.ha, HC5, hid (by have := HD5.out; have := HW.out; omega), HF5, HU3, HT3, HSm⟩
        case measure => have := HD5.out; simp [intOf]; omega
end Go.Proofs.YthgbdaladngpdaaGreat.Slo

/- The contract of Drop: it answers what the plain function does and leaves the table so; it turns that table alone. -/
namespace Go.Proofs.YthgbdaladngpdaaGreat.Slo
open Go.ChangeShapes Go.WideShapes Go.ChangeAt Go.RowKit
set_option linter.unusedVariables false
set_option maxRecDepth 100000
set_option linter.unusedSimpArgs false

section
variable {w : World} {X R m most n : Nat} {L : Tb}
theorem set3_cell2 (g : Tab w X R m most n L) (o : Nat) (a b c : Value) : (((w.setCell ⟨R, o, none⟩ a).setCell ⟨R, o + 1, none⟩ b).setCell ⟨R, o + 2, none⟩ c).cell? ⟨X, 0, none⟩ = some (.slice (some ⟨R, 0, none⟩) m m) :=
  (at_cells3 (set3_at (o := o) (a := a) (b := b) (c := c) g.1 (tab_ne g))).1
theorem hole_lt {a : Nat} (ok : Ok (hm m) m L) (c : cnt L m < m) (t : (L a).taken = true) : (cl (hm m) m m L a (nxt m a)).2 < m := by
  obtain ⟨e, ce, he⟩ := cl_begin ok c t
  exact (cl_all ok.home m L a (nxt m a) e ce he).2.1
theorem good_less {F : Tb} {q : Nat} (g : Tab w X R m most n F) (hq : q < m) (s : ∀ i, (F i).key.size ≤ 1000) (hn : cnt (upd F q no) m + 1 = n) (hf : n ≤ most) (h1 : 1 ≤ most) (h2 : 2 * most ≤ m) (h4 : m ≤ 4096) (ok : Ok (hm m) m (upd F q no)) :
    Good ((set3 w R (q * 3) (.bool false) (.string ⟨#[]⟩) (.int .i64 0)).setCell ⟨X, 2, none⟩ (.int .i64 ((n : Int) - 1))) X R m most (upd F q no) := by
  have hr : RowT (set3 w R (q * 3) (.bool false) (.string ⟨#[]⟩) (.int .i64 0)) 105 R m (upd F q no) := row_set3 g.2 hq no
  refine ⟨⟨?_, row_other hr _ (Ne.symm (tab_ne g))⟩, ok, h1, h2, by omega, h4, fun i => small_upd s (by decide) q i⟩
  have := at_set (set3_at (o := q * 3) (a := .bool false) (b := .string ⟨#[]⟩) (c := .int .i64 0) g.1 (tab_ne g)) 2 (.int .i64 ((n : Int) - 1))
  rw [show (n : Int) - 1 = ((cnt (upd F q no) m : Nat) : Int) by omega] at *
  exact this
end
set_option maxHeartbeats 1600000 in
theorem drop_any {X R m most : Nat} {L : Tb} (k : ByteArray) (hk : k.size ≤ maxLen) (w : World) (g : Good w X R m most L) :
    Calls Tryz.prog 74 #[.pointer (some ⟨X, 0, none⟩), .string k] w fun e w' => e = .returned (.bool (dropT (hm m) m L k).1) ∧ Turns X R w w' ∧ Good w' X R m most (dropT (hm m) m L k).2 := by
  have hf := find_any k hk w g
  have HE : Hid (dropT (hm m) m L k = if (L (spot (hm m) m L k)).taken = true then (true, closed (hm m) m L (spot (hm m) m L k)) else (false, L)) := rfl
  have ha := (spot_found (k := k) g.ok g.free).lt
  have HG := hid g
  clear g
  generalize spot (hm m) m L k = a at *
  have h4 := HG.out.low
  cases t : (L a).taken with
  | false =>
    have HE2 : Hid (dropT (hm m) m L k = (false, L)) := hid (by rw [HE.out, if_neg (by rw [t]; simp)])
    rw [t] at hf
    clear HE t
    go_enter Tryz.func74, Tryz.ntmps74
    go_wp2_with fail
    refine hf.mono ?_
    rintro e w1 ⟨rfl, k1⟩
    go_wp2_with fail
    go_ret
    rw [HE2.out]
    exact ⟨rfl, turns_kept k1, good_kept HG.out k1⟩
  | true =>
    have HE2 : Hid (dropT (hm m) m L k = (true, closed (hm m) m L a)) := hid (by rw [HE.out, if_pos t])
    have HC := hid (closed_all HG.out.ok HG.out.free t)
    have hq := hole_lt HG.out.ok HG.out.free t
    unfold closed at HC HE2
    obtain ⟨F, q, hF⟩ : ∃ F q, cl (hm m) m m L a (nxt m a) = (F, q) := ⟨_, _, rfl⟩
    rw [hF] at hq HC HE2
    have HF := hid hF
    have HT := hid t
    rw [t] at hf
    have hcl : cnt L m ≤ 4096 := by have := HG.out.free; omega
    have hc0 : 1 ≤ cnt L m := by have := HC.out.2.1; omega
    clear HE t hF
    go_enter Tryz.func74, Tryz.ntmps74
    go_wp2_with fail
    refine hf.mono ?_
    rintro e w1 ⟨rfl, k1⟩
    go_wp2_with fail
    have HG1 := hid (good_kept HG.out (kept_drew k1))
    have HK1 := hid (turns_kept (X := X) (R := R) (kept_drew k1))
    have hS := (at_cells3 HG1.out.tab.1).1
    clear k1 hf
    refine wp_region_noPanic ?_
    refine wp_region_held_drew (S := (fun w' => w'.cell? ⟨X, 0, none⟩ = some (.slice (some ⟨R, 0, none⟩) m m))) (by kernel_rfl) (by assumption) (fun hHeld => ?_)
    generalize w1.drew = w2 at *
    refine wpAnyH_take (i := 0) (v := .pointer (some ⟨X, 0, none⟩)) rfl (by kernel_rfl) (by kernel_rfl) (by kernel_rfl) (fun _ _ _ h => h) (Or.inl ⟨by rfl, fun w hSw => by (try dsimp only at hSw); go_simp⟩) (by assumption) ?_
    try simp only [List.getElem_toArray, List.getElem_cons_zero, List.getElem_cons_succ, Act.put, List.setIfInBounds_toArray, List.set_cons_zero, List.set_cons_succ]
    refine wpAnyH_take (i := 1) (v := .pointer (some ⟨X, 0, none⟩)) rfl (by kernel_rfl) (by kernel_rfl) (by kernel_rfl) (fun _ _ _ h => h) (Or.inl ⟨by rfl, fun w hSw => by (try dsimp only at hSw); go_simp⟩) (by assumption) ?_
    try simp only [List.getElem_toArray, List.getElem_cons_zero, List.getElem_cons_succ, Act.put, List.setIfInBounds_toArray, List.set_cons_zero, List.set_cons_succ]
    refine wpAnyH_take (i := 2) (v := .pointer (some ⟨X, 0, none⟩)) rfl (by kernel_rfl) (by kernel_rfl) (by kernel_rfl) (fun _ _ _ h => h) (Or.inl ⟨by rfl, fun w hSw => by (try dsimp only at hSw); go_simp⟩) (by assumption) ?_
    try simp only [List.getElem_toArray, List.getElem_cons_zero, List.getElem_cons_succ, Act.put, List.setIfInBounds_toArray, List.set_cons_zero, List.set_cons_succ]
    refine wpAnyH_take (i := 3) (v := .slice (some ⟨R, 0, none⟩) m m) rfl (by kernel_rfl) (by kernel_rfl) (by kernel_rfl) (fun _ _ _ h => h) (Or.inl ⟨by rfl, fun w hSw => by (try dsimp only at hSw); go_simp⟩) (by assumption) ?_
    try simp only [List.getElem_toArray, List.getElem_cons_zero, List.getElem_cons_succ, Act.put, List.setIfInBounds_toArray, List.set_cons_zero, List.set_cons_succ]
    refine wpAnyH_take (i := 4) (v := .pointer (some ⟨X, 0, none⟩)) rfl (by kernel_rfl) (by kernel_rfl) (by kernel_rfl) (fun _ _ _ h => h) (Or.inl ⟨by rfl, fun w hSw => by (try dsimp only at hSw); go_simp⟩) (by assumption) ?_
    try simp only [List.getElem_toArray, List.getElem_cons_zero, List.getElem_cons_succ, Act.put, List.setIfInBounds_toArray, List.set_cons_zero, List.set_cons_succ]
    refine wpAnyH_take (i := 5) (v := .int .i64 (a : Int)) rfl (by kernel_rfl) (by kernel_rfl) (by kernel_rfl) (fun _ _ _ h => h) (Or.inl ⟨by rfl, fun w hSw => by (try dsimp only at hSw); go_simp⟩) (by assumption) ?_
    try simp only [List.getElem_toArray, List.getElem_cons_zero, List.getElem_cons_succ, Act.put, List.setIfInBounds_toArray, List.set_cons_zero, List.set_cons_succ]
    refine wpAnyH_take (i := 7) (v := .agg #[.bool false, .string ⟨#[]⟩, .int .i64 0]) rfl (by kernel_rfl) (by kernel_rfl) (by kernel_rfl) (fun _ _ _ h => h) (Or.inl ⟨by rfl, fun w hSw => by (try dsimp only at hSw); go_simp⟩) (by assumption) ?_
    try simp only [List.getElem_toArray, List.getElem_cons_zero, List.getElem_cons_succ, Act.put, List.setIfInBounds_toArray, List.set_cons_zero, List.set_cons_succ]
    refine wpAnyH_ready (rs := [6]) (by kernel_rfl) (by simp) ?_
    refine AllReadyH.cons (i := 6) rfl (fun K hK => ?_) AllReadyH.nil
    go_simp
    refine (close_any a h4 HG1.out.ok HG1.out.free HT.out HG1.out.small _ HG1.out.tab).mono ?_
    rintro e1 w3 ⟨rfl, hT3, hB3, hs3⟩
    rw [HF.out] at *
    replace HK1 := hid (turns_trans HK1.out hT3)
    have HB := hid hB3
    have HS3 := hid hs3
    clear hT3 hB3 hs3
    have hS := (at_cells3 HB.out.1).1
    clear hHeld
    show K _ _
    refine hK.out _ _ (by assumption) (fun hHeld => ?_)
    clear hK K
    try simp only [List.getElem_toArray, List.getElem_cons_zero, List.getElem_cons_succ, Act.put, List.setIfInBounds_toArray, List.set_cons_zero, List.set_cons_succ]
    refine wpAnyH_take (i := 8) (v := .pointer (some ⟨R, q * 3, none⟩)) rfl (by kernel_rfl) (by kernel_rfl) (by kernel_rfl) (fun _ _ _ h => h) (Or.inl ⟨by rfl, fun w hSw => by (try dsimp only at hSw); go_simp⟩) (by assumption) ?_
    try simp only [List.getElem_toArray, List.getElem_cons_zero, List.getElem_cons_succ, Act.put, List.setIfInBounds_toArray, List.set_cons_zero, List.set_cons_succ]
    refine wpAnyH_ready (rs := [9]) (by kernel_rfl) (by simp) ?_
    refine AllReadyH.cons (i := 9) rfl (fun K hK => ?_) AllReadyH.nil
    obtain ⟨r0, r1, r2, rf⟩ := row_cells HB.out.2 hq
    go_simp
    have hS := set3_cell2 HB.out (q * 3) (.bool false) (.string ⟨#[]⟩) (.int .i64 0)
    clear hHeld
    show K _ _
    refine hK.out _ _ (by assumption) (fun hHeld => ?_)
    clear hK K
    try simp only [List.getElem_toArray, List.getElem_cons_zero, List.getElem_cons_succ, Act.put, List.setIfInBounds_toArray, List.set_cons_zero, List.set_cons_succ]
    refine wpAnyH_done (by kernel_rfl) ?_ _
    refine NoPanic.normal ?_
    have HG3 := hid (good_less HB.out hq HS3.out HC.out.2.1 HG1.out.full HG1.out.some HG1.out.fit h4 HC.out.1)
    have HK3 := hid (turns_set3 HK1.out (q * 3) (.bool false) (.string ⟨#[]⟩) (.int .i64 0))
    obtain ⟨d0, d1, d2, df⟩ := at_cells3 (set3_at (o := q * 3) (a := .bool false) (b := .string ⟨#[]⟩) (c := .int .i64 0) HB.out.1 (tab_ne HB.out))
    unfold set3 at *
    clear r0 r1 r2 rf hS hHeld
    generalize ((w3.setCell ⟨R, q * 3, none⟩ (.bool false)).setCell ⟨R, q * 3 + 1, none⟩ (.string ⟨#[]⟩)).setCell ⟨R, q * 3 + 2, none⟩ (.int .i64 0) = w4 at *
    go_wp2_with fail
    go_ret
    rw [HE2.out]
    exact ⟨rfl, turns_setX HK3.out _ _, HG3.out⟩
end Go.Proofs.YthgbdaladngpdaaGreat.Slo
