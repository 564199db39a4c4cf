/- The contracts of find, Get, Slot and Len: what a table has of a key, where. The table is as it may be, with an empty slot. -/
import Derived.Test.YtibdnhnomjcclaaTab
namespace Go.Proofs.Ytibdnhnomjcclaa
open Go.ChangeShapes Go.WideShapes Go.ChangeAt Go.RowKit
set_option linter.unusedVariables false
set_option linter.unusedSimpArgs false

theorem bytes_ext {a b : ByteArray} (h : a.data.toList = b.data.toList) : a = b := by
  cases a; cases b; congr; exact Array.toList_inj.1 h
theorem bytes_beq (a b : ByteArray) : (a.toList == b.toList) = decide (a = b) := by
  rw [ByteArray.toList_eq, ByteArray.toList_eq]
  by_cases h : a = b
  · subst h; simp
  · rw [decide_eq_false h, beq_eq_false_iff_ne]
    exact fun e => h (bytes_ext e)
theorem ne_true {a b : ByteArray} (h : a ≠ b) : (!a.toList == b.toList) = true := by rw [bytes_beq, decide_eq_false h]; rfl
theorem ne_false {a b : ByteArray} (h : a = b) : (!a.toList == b.toList) = false := by rw [bytes_beq, decide_eq_true h]; rfl
/- A table in memory, as it may be. -/
structure Good (w : World) (X R m most : Nat) (L : Tb) : Prop where
  tab : Tab w X R m most (cnt L m) L
  ok : Ok (hm m) m L
  some : 1 ≤ most
  fit : 2 * most ≤ m
  full : cnt L m ≤ most
  low : m ≤ 4096
  small : ∀ i, (L i).key.size ≤ 1000
section
variable {w w' : World} {X R m most : Nat} {L : Tb}
theorem Good.free (g : Good w X R m most L) : cnt L m < m := by have := g.some; have := g.fit; have := g.full; omega
theorem Good.pos (g : Good w X R m most L) : 0 < m := g.ok.pos
theorem good_kept (g : Good w X R m most L) (k : Kept w w') : Good w' X R m most L := ⟨tab_kept g.tab k, g.ok, g.some, g.fit, g.full, g.low, g.small⟩
theorem good_alloc (g : Good w X R m most L) (o : Obj) : Good (w.alloc o) X R m most L := good_kept g (kept_alloc (kept_refl w) o)
end
theorem find_nil (k : ByteArray) (w : World) : Calls Try.prog 27 #[.pointer none, .string k] w fun e w' => e = .returned (.tuple #[.int .i64 0, .bool false]) ∧ w' = w := by
  go_enter Try.func27, Try.ntmps27
  go_wp2_with fail
  go_ret2
  exact ⟨rfl, rfl⟩
set_option maxHeartbeats 1600000 in
theorem find_any {X R m most : Nat} {L : Tb} (k : ByteArray) (hk : k.size ≤ maxLen) (w : World) (g : Good w X R m most L) :
    Calls Try.prog 27 #[.pointer (some ⟨X, 0, none⟩), .string k] w fun e w' => e = .returned (.tuple #[.int .i64 ((spot (hm m) m L k : Nat) : Int), .bool (L (spot (hm m) m L k)).taken]) ∧ Kept w w' := by
  have HG := hid g
  have hm0 := g.pos
  have h4 := g.low
  clear g
  go_enter Try.func27, Try.ntmps27
  go_wp2_with fail
  refine (home_any k hk hm0 h4 _ HG.out.tab).mono ?_
  rintro e w1 ⟨rfl, k1⟩
  have HG1 := hid (good_kept HG.out k1)
  have HK1 := hid k1
  clear HG k1
  have HP := hid (past_home (k := k) HG1.out.ok)
  go_wp2_with fail
  go_loop [6] (fun j => ∃ a : Nat, j = .int .i64 (a : Int) ∧ a < m ∧ Hid (Past (hm m) m L k a)) (fun j => m - way m (hm m k) (intOf j).toNat)
  case atStart => exact ⟨_, rfl, HP.out.1, HP⟩
  case round =>
    obtain ⟨a, rfl, ha, HA⟩ := hrel
    clear HP
    obtain ⟨c0, c1, c2, fr⟩ := at_cells3 HG1.out.tab.1
    obtain ⟨r0, r1, r2, rf⟩ := row_cells HG1.out.tab.2 ha
    cases t : (L a).taken with
    | false =>
      have HF := hid (spot_eq (past_found (HG1.out.ok.home k) HA.out (fun t1 => by rw [t] at t1; cases t1)))
      rw [t] at r0
      have HT := hid t
      clear t
      go_wp2_with fail
      go_quiet (fail)
      go_wp2_with fail
      go_ret2
      rw [HF.out, HT.out]
      exact ⟨rfl, HK1.out⟩
    | true =>
      rw [t] at r0
      by_cases e : (L a).key = k
      · have HF := hid (spot_eq (past_found (HG1.out.ok.home k) HA.out (fun _ => e)))
        have hne := ne_false e
        have HT := hid t
        clear t e
        generalize (L a).key = q at *
        go_wp2_with fail
        go_quiet (fail)
        go_wp2_with fail
        go_ret2
        rw [HF.out, HT.out]
        exact ⟨rfl, HK1.out⟩
      · have hne := ne_true e
        have HN := hid (past_next (HG1.out.ok.home k) HA.out HG1.out.free t e)
        clear t e
        generalize (L a).key = q at *
        go_wp2_with fail
        refine (behind_any a ha h4 _ HG1.out.tab).mono ?_
        rintro e w2 ⟨rfl, rfl⟩
        go_wp2_with fail
        go_round
        case rel => exact ⟨nxt m a, rfl, HN.out.1.1, HN.out.1⟩
        case measure =>
          have h1 := HN.out.2
          have h2 := way_lt (HG1.out.ok.home k) HN.out.1.1
          simp [intOf]
          omega
set_option maxHeartbeats 800000 in
theorem get_nil (k : ByteArray) (w : World) : Calls Try.prog 16 #[.pointer none, .string k] w fun e w' => e = .returned (.tuple #[.int .i64 0, .bool false]) ∧ w' = w := by
  go_enter Try.func16, Try.ntmps16
  go_wp2_with (go_at_call 27; refine (find_nil k _).mono ?_; rintro e w1 ⟨rfl, rfl⟩)
  go_ret2
  exact ⟨rfl, rfl⟩
theorem slot_nil (k : ByteArray) (w : World) : Calls Try.prog 18 #[.pointer none, .string k] w fun e w' => e = .returned (.int .i64 (-1)) ∧ w' = w := by
  go_enter Try.func18, Try.ntmps18
  go_wp2_with (go_at_call 27; refine (find_nil k _).mono ?_; rintro e w1 ⟨rfl, rfl⟩)
  go_ret
  exact ⟨rfl, rfl⟩
theorem len_nil (w : World) : Calls Try.prog 19 #[.pointer none] w fun e w' => e = .returned (.int .i64 0) ∧ w' = w := by
  go_enter Try.func19, Try.ntmps19
  go_wp2_with fail
  go_ret
  exact ⟨rfl, rfl⟩
theorem set_nil (k : ByteArray) (v : Int) (w : World) : Calls Try.prog 13 #[.pointer none, .string k, .int .i64 v] w fun e w' => e = .returned (.int .i64 1) ∧ w' = w := by
  go_enter Try.func13, Try.ntmps13
  go_wp2_with fail
  go_ret
  exact ⟨rfl, rfl⟩
theorem drop_nil (k : ByteArray) (w : World) : Calls Try.prog 15 #[.pointer none, .string k] w fun e w' => e = .returned (.bool false) ∧ w' = w := by
  go_enter Try.func15, Try.ntmps15
  go_wp2_with (go_at_call 27; refine (find_nil k _).mono ?_; rintro e w1 ⟨rfl, rfl⟩)
  go_ret
  exact ⟨rfl, rfl⟩
theorem keys_nil (w : World) : Calls Try.prog 22 #[.pointer none] w fun e w' => e = .returned (.slice none 0 0) ∧ w' = w := by
  go_enter Try.func22, Try.ntmps22
  go_wp2_with fail
  go_ret
  exact ⟨rfl, rfl⟩
def slotI (m : Nat) (L : Tb) (k : ByteArray) : Int := if (L (spot (hm m) m L k)).taken = true then ((spot (hm m) m L k : Nat) : Int) else -1
def valI (m : Nat) (L : Tb) (k : ByteArray) : Int := if (L (spot (hm m) m L k)).taken = true then (L (spot (hm m) m L k)).v else 0
theorem len_any {X R m most n : Nat} {L : Tb} (w : World) (h : Tab w X R m most n L) : Calls Try.prog 19 #[.pointer (some ⟨X, 0, none⟩)] w fun e w' => e = .returned (.int .i64 (n : Int)) ∧ w' = w := by
  obtain ⟨c0, c1, c2, fr⟩ := at_cells3 h.1
  clear h
  go_enter Try.func19, Try.ntmps19
  go_wp2_with fail
  go_ret
  exact ⟨rfl, rfl⟩
set_option maxHeartbeats 800000 in
theorem slot_any {X R m most : Nat} {L : Tb} (k : ByteArray) (hk : k.size ≤ maxLen) (w : World) (g : Good w X R m most L) :
    Calls Try.prog 18 #[.pointer (some ⟨X, 0, none⟩), .string k] w fun e w' => e = .returned (.int .i64 (slotI m L k)) ∧ Kept w w' := by
  have hf := find_any k hk w g
  have HE : Hid (slotI m L k = if (L (spot (hm m) m L k)).taken = true then ((spot (hm m) m L k : Nat) : Int) else -1) := rfl
  clear g
  generalize spot (hm m) m L k = a at *
  cases t : (L a).taken with
  | false =>
    have HE2 : Hid (-1 = slotI m L k) := by show -1 = slotI m L k; have := HE.out; rw [t] at this; simpa using this.symm
    rw [t] at hf
    clear HE t
    go_enter Try.func18, Try.ntmps18
    go_wp2_with fail
    refine hf.mono ?_
    rintro e w1 ⟨rfl, k1⟩
    go_wp2_with fail
    go_ret
    exact ⟨ret_int HE2.out, k1⟩
  | true =>
    have HE2 : Hid ((a : Int) = slotI m L k) := by show (a : Int) = slotI m L k; have := HE.out; rw [t] at this; simpa using this.symm
    rw [t] at hf
    clear HE t
    go_enter Try.func18, Try.ntmps18
    go_wp2_with fail
    refine hf.mono ?_
    rintro e w1 ⟨rfl, k1⟩
    go_wp2_with fail
    go_ret
    exact ⟨ret_int HE2.out, k1⟩
set_option maxHeartbeats 800000 in
theorem get_any {X R m most : Nat} {L : Tb} (k : ByteArray) (hk : k.size ≤ maxLen) (w : World) (g : Good w X R m most L) :
    Calls Try.prog 16 #[.pointer (some ⟨X, 0, none⟩), .string k] w fun e w' => e = .returned (.tuple #[.int .i64 (valI m L k), .bool (L (spot (hm m) m L k)).taken]) ∧ Kept w w' := by
  have hf := find_any k hk w g
  have HE : Hid (valI m L k = if (L (spot (hm m) m L k)).taken = true then (L (spot (hm m) m L k)).v else 0) := rfl
  have ha := (spot_found (k := k) g.ok g.free).lt
  have HG := hid g
  clear g
  generalize spot (hm m) m L k = a at *
  cases t : (L a).taken with
  | false =>
    have HE2 : Hid (valI m L k = 0) := by show valI m L k = 0; have := HE.out; rw [t] at this; simpa using this
    rw [t] at hf
    clear HE t
    go_enter Try.func16, Try.ntmps16
    go_wp2_with fail
    refine hf.mono ?_
    rintro e w1 ⟨rfl, k1⟩
    go_wp2_with fail
    go_ret2
    rw [HE2.out]
    exact ⟨rfl, k1⟩
  | true =>
    have HE2 : Hid (valI m L k = (L a).v) := by show valI m L k = (L a).v; have := HE.out; rw [t] at this; simpa using this
    rw [t] at hf
    clear HE t
    go_enter Try.func16, Try.ntmps16
    go_wp2_with fail
    refine hf.mono ?_
    rintro e w1 ⟨rfl, k1⟩
    have g1 := good_kept HG.out k1
    obtain ⟨c0, c1, c2, fr⟩ := at_cells3 g1.tab.1
    obtain ⟨r0, r1, r2, rf⟩ := row_cells g1.tab.2 ha
    clear g1
    go_wp2_with fail
    go_ret2
    rw [HE2.out]
    exact ⟨rfl, k1⟩
end Go.Proofs.Ytibdnhnomjcclaa
