/- The contract of New: a table of the least power of two of slots that is at least twice its keys, all of them empty; or none, where there may be none. -/
import Derived.Test.YthgbdaladngpdaaGreatSloDrop
import Derived.Laws.MakeOwn
namespace Go.Proofs.YthgbdaladngpdaaGreat.Slo
open Go.ChangeShapes Go.WideShapes Go.ChangeAt Go.RowKit
set_option linter.unusedVariables false
set_option maxRecDepth 100000
set_option linter.unusedSimpArgs false

/- How many slots there are for n keys. -/
structure Size (n m : Nat) : Prop where
  fit : 2 * n ≤ m
  low : m ≤ 4096
  pow : ∃ j, m = 2 ^ j ∧ ∀ i, i < j → 2 ^ i < 2 * n
theorem size_one {n m m' : Nat} (h : Size n m) (g : Size n m') : m = m' := by
  obtain ⟨j, rfl, hj⟩ := h.pow
  obtain ⟨i, rfl, hi⟩ := g.pow
  have h1 := h.fit
  have g1 := g.fit
  rcases Nat.lt_trichotomy j i with e | e | e
  · have := hi j e; omega
  · rw [e]
  · have := hj i e; omega
theorem info66 : (Tryz.prog.info? 105).map (fun i => (i.zero, i.size, i.bytes)) = some (some (.agg #[.bool false, .string ⟨#[]⟩, .int .i64 0]), 3, 32) := by kernel_rfl
theorem make_slots (w : World) (n : Nat) (hn : n ≤ 4096) :
    (Instr.makeSlice 106 (.int .i64 (n : Int)) (.int .i64 (n : Int))).run Tryz.prog w = .ok (.slice (some ⟨w.heap.size, 0, none⟩) n n) (w.alloc (.cells (madeCells #[.bool false, .string ⟨#[]⟩, .int .i64 0] (n * 3)) 105)) := by
  obtain ⟨i0, hi, hz0, hz1, hz2⟩ := info_parts info66
  have := run_make (P := Tryz.prog) w 106 105 i0 _ Tryz.underlying106 hi hz0 .i64 .i64 (n : Int) (n : Int) (by omega) (by omega) (by rw [hz2]; omega) (by omega)
  rw [this, hz1]
  rfl
theorem made_size (n : Nat) (z : Array Value) : (madeCells z n).size = n := by unfold madeCells; simp
theorem made_cell3 (a b c : Value) (n j : Nat) (hj : j < n) : (madeCells #[a, b, c] (n * 3))[j * 3]? = some a ∧ (madeCells #[a, b, c] (n * 3))[j * 3 + 1]? = some b ∧ (madeCells #[a, b, c] (n * 3))[j * 3 + 2]? = some c := by
  unfold madeCells
  refine ⟨?_, ?_, ?_⟩
  · rw [Array.getElem?_map, Array.getElem?_range, if_pos (by omega)]
    have e : (j * 3) % (#[a, b, c] : Array Value).size = 0 := by show (j * 3) % 3 = 0; omega
    simp only [Option.map_some, e]
    rfl
  · rw [Array.getElem?_map, Array.getElem?_range, if_pos (by omega)]
    have e : (j * 3 + 1) % (#[a, b, c] : Array Value).size = 1 := by show (j * 3 + 1) % 3 = 1; omega
    simp only [Option.map_some, e]
    rfl
  · rw [Array.getElem?_map, Array.getElem?_range, if_pos (by omega)]
    have e : (j * 3 + 2) % (#[a, b, c] : Array Value).size = 2 := by show (j * 3 + 2) % 3 = 2; omega
    simp only [Option.map_some, e]
    rfl
theorem row_made (w : World) (T n : Nat) : RowT (w.alloc (.cells (madeCells #[.bool false, .string ⟨#[]⟩, .int .i64 0] (n * 3)) T)) T w.heap.size n (fun _ => no) :=
  ⟨_, at_new w _ T, made_size _ _, fun i hi => made_cell3 _ _ _ n i hi⟩
theorem ok_fresh {m : Nat} (h : 0 < m) : Ok (hm m) m (fun _ => no) := ok_new (fun k => hm_lt h k)
def mayN (n : Int) : Prop := 1 ≤ n ∧ n ≤ 1024
set_option maxHeartbeats 800000 in
theorem new_bad (n : Int) (h : ¬ mayN n) (w : World) : Calls Tryz.prog 61 #[.int .i64 n] w fun e w' => e = .returned (.tuple #[.pointer none, .int .i64 1]) ∧ w' = w := by
  by_cases h1 : n < 1
  · clear h
    go_enter Tryz.func61, Tryz.ntmps61
    go_wp2_with fail
    go_ret2
    exact ⟨rfl, rfl⟩
  · have h2 : 1024 < n := by unfold mayN at h; omega
    have h1' : decide (n < 1) = false := by simpa using h1
    clear h
    go_enter Tryz.func61, Tryz.ntmps61
    go_wp2_with fail
    go_ret2
    exact ⟨rfl, rfl⟩
/- What New answers and leaves. -/
def NewC (n : Nat) (w : World) (e : Ending) (w' : World) : Prop := ∃ X R m, e = .returned (.tuple #[.pointer (some ⟨X, 0, none⟩), .int .i64 0]) ∧ Size n m ∧ w.heap.size ≤ X ∧ w.heap.size ≤ R ∧ Kept w w' ∧ Good w' X R m n (fun _ => no)
set_option maxHeartbeats 1600000 in
theorem new_any (n : Nat) (h1 : 1 ≤ n) (h2 : n ≤ 1024) (w : World) :
    Calls Tryz.prog 61 #[.int .i64 (n : Int)] w (NewC n w) := by
  have d1 : decide ((n : Int) < 1) = false := by simp; omega
  have d2 : decide ((1024 : Int) < (n : Int)) = false := by simp; omega
  go_enter Tryz.func61, Tryz.ntmps61
  go_wp2_with fail
  go_loop [4] (fun i => ∃ m : Nat, i = .int .i64 (m : Int) ∧ 1 ≤ m ∧ m ≤ 4096 ∧ Hid (∃ j, m = 2 ^ j ∧ ∀ i, i < j → 2 ^ i < 2 * n)) (fun i => 5000 - (intOf i).toNat)
  case atStart => exact ⟨1, rfl, Nat.le_refl _, by omega, hid ⟨0, rfl, fun i hi => absurd hi (by omega)⟩⟩
  case round =>
    obtain ⟨m, rfl, m1, m4, HP⟩ := hrel
    by_cases hlt : m < 2 * n
    · have hl2 : (m : Int) < 2 * (n : Int) := by omega
      have HN : Hid (∃ j, m * 2 = 2 ^ j ∧ ∀ i, i < j → 2 ^ i < 2 * n) := by
        obtain ⟨j, hj, hi⟩ := HP.out
        refine hid ⟨j + 1, by rw [Nat.pow_succ, hj], fun i h => ?_⟩
        rcases (show i < j ∨ i = j by omega) with e | e
        · exact hi i e
        · rw [e, ← hj]; exact hlt
      go_wp2_with fail
      go_round
      case rel => exact ⟨m * 2, by go_num, by omega, by omega, HN⟩
      case measure => simp [intOf]; omega
    · have hl2 : ¬ (m : Int) < 2 * (n : Int) := by omega
      have HZ := hid (Size.mk (n := n) (m := m) (by omega) m4 HP.out)
      have hmk := make_slots w m m4
      have HR := hid (row_made w 105 m)
      have HK := hid (kept_alloc (kept_refl w) (.cells (madeCells #[.bool false, .string ⟨#[]⟩, .int .i64 0] (m * 3)) 105))
      have HS : Hid ((w.alloc (.cells (madeCells #[.bool false, .string ⟨#[]⟩, .int .i64 0] (m * 3)) 105)).heap.size = w.heap.size + 1) := hid (by simp)
      clear HP
      generalize w.alloc (.cells (madeCells #[.bool false, .string ⟨#[]⟩, .int .i64 0] (m * 3)) 105) = w1 at *
      generalize hRr : w.heap.size = R at *
      have HRr := hid hRr
      clear hRr
      go_wp2_with fail
      go_ret2
      refine ⟨w1.heap.size, R, m, rfl, HZ.out, by have := HS.out; have := HRr.out; omega, Nat.le_of_eq HRr.out, kept_alloc HK.out _, ⟨⟨?_, row_alloc HR.out _⟩, ok_fresh (by omega), h1, HZ.out.fit, by rw [cnt_new]; omega, m4, fun _ => by decide⟩⟩
      rw [cnt_new]
      exact at_new w1 _ 108
end Go.Proofs.YthgbdaladngpdaaGreat.Slo
