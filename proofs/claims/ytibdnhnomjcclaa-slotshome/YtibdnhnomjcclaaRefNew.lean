/- The reference's table: a struct of two cells, handed on by value, and its row of slots; the contract of its New. -/
import Derived.Test.YtibdnhnomjcclaaKeys
namespace Go.Proofs.Ytibdnhnomjcclaa
open Go.ChangeShapes Go.WideShapes Go.ChangeAt Go.RowKit
set_option linter.unusedVariables false
set_option linter.unusedSimpArgs false

theorem way_step {m h a s : Nat} (hh : h < m) (ha : a < m) (hs : s < m) (hw : way m h a < way m h s) : way m h (nxt m a) = way m h a + 1 := by
  refine way_nxt hh ha (fun e => ?_)
  have := way_lt hh hs
  unfold way nxt at *
  (repeat' split at e) <;> (repeat' split at hw) <;> (repeat' split at this) <;> omega
theorem way_next {m h a s : Nat} (hh : h < m) (ha : a < m) (hs : s < m) (hw : way m h a ≤ way m h s) (hn : a ≠ s) : way m h a < way m h s ∧ way m h (nxt m a) = way m h a + 1 := by
  have : way m h a ≠ way m h s := fun e => hn (way_inj hh ha hs e)
  have hl : way m h a < way m h s := by omega
  exact ⟨hl, way_step hh ha hs hl⟩
theorem at_cells2 {w : World} {X T : Nat} {a0 a1 : Value} (h : At w X #[a0, a1] T) : w.cell? ⟨X, 0, none⟩ = some a0 ∧ w.cell? ⟨X, 1, none⟩ = some a1 ∧ ∀ j, w.frozen? ⟨X, j, none⟩ = false :=
  ⟨at_cell h 0, at_cell h 1, at_frozen h⟩
theorem zero29 (w : World) : (zeroValue 29).run Try.prog w = .ok (.agg #[.slice none 0 0, .int .i64 0]) w := by kernel_rfl
theorem res1 {fn : Func} {p : Tmp} (h : fn.results = #[.cell p 29]) (tmps : Array Value) {w : World} {X T : Nat} {v0 v1 : Value} (hp : tmps.getD p undef = .pointer (some ⟨X, 0, none⟩)) (hA : At w X #[v0, v1] T) :
    (results fn tmps).run Try.prog w = .ok (.agg #[v0, v1]) w := by
  obtain ⟨c0, c1, -⟩ := at_cells2 hA
  have hp' : tmps[p]?.getD undef = .pointer (some ⟨X, 0, none⟩) := by simpa using hp
  simp [results, h, go_sem, hp', c0, c1]
theorem res2 {fn : Func} {p u : Tmp} (h : fn.results = #[.cell p 29, .tmp u]) (tmps : Array Value) {w : World} {X T : Nat} {v0 v1 r : Value} (hp : tmps.getD p undef = .pointer (some ⟨X, 0, none⟩)) (hu : tmps.getD u undef = r) (hA : At w X #[v0, v1] T) :
    (results fn tmps).run Try.prog w = .ok (.tuple #[.agg #[v0, v1], r]) w := by
  obtain ⟨c0, c1, -⟩ := at_cells2 hA
  have hp' : tmps[p]?.getD undef = .pointer (some ⟨X, 0, none⟩) := by simpa using hp
  have hu' : tmps[u]?.getD undef = r := by simpa using hu
  simp [results, h, go_sem, hp', hu', c0, c1]
theorem res3 {fn : Func} {p u : Tmp} (h : fn.results = #[.tmp u, .cell p 29]) (tmps : Array Value) {w : World} {X T : Nat} {v0 v1 r : Value} (hp : tmps.getD p undef = .pointer (some ⟨X, 0, none⟩)) (hu : tmps.getD u undef = r) (hA : At w X #[v0, v1] T) :
    (results fn tmps).run Try.prog w = .ok (.tuple #[r, .agg #[v0, v1]]) w := by
  obtain ⟨c0, c1, -⟩ := at_cells2 hA
  have hp' : tmps[p]?.getD undef = .pointer (some ⟨X, 0, none⟩) := by simpa using hp
  have hu' : tmps[u]?.getD undef = r := by simpa using hu
  simp [results, h, go_sem, hp', hu', c0, c1]
theorem info46 : (Try.prog.info? 46).map (fun i => (i.zero, i.size, i.bytes)) = some (some (.agg #[.bool false, .string ⟨#[]⟩, .int .i64 0]), 3, 32) := by kernel_rfl
theorem make_ref (w : World) (n : Nat) (hn : n ≤ 8192) :
    (Instr.makeSlice 27 (.int .i64 (n : Int)) (.int .i64 (n : Int))).run Try.prog w = .ok (.slice (some ⟨w.heap.size, 0, none⟩) n n) (w.alloc (.cells (madeCells #[.bool false, .string ⟨#[]⟩, .int .i64 0] (n * 3)) 46)) := by
  obtain ⟨i0, hi, hz0, hz1, hz2⟩ := info_parts info46
  have := run_make (P := Try.prog) w 27 46 i0 _ Try.underlying27 hi hz0 .i64 .i64 (n : Int) (n : Int) (by omega) (by omega) (by rw [hz2]; omega) (by omega)
  rw [this, hz1]
  rfl
/- What the reference's New answers and leaves. -/
def RNewC (n : Nat) (w : World) (e : Ending) (w' : World) : Prop := ∃ Q m, e = .returned (.tuple #[.agg #[.slice (some ⟨Q, 0, none⟩) m m, .int .i64 (n : Int)], .int .i64 0]) ∧ Size n m ∧ w.heap.size ≤ Q ∧ Kept w w' ∧ RowT w' 46 Q m (fun _ => no)
set_option maxHeartbeats 1600000 in
theorem refnew_bad (n : Int) (h : ¬ mayN n) (w : World) : Calls Try.prog 9 #[.int .i64 n] w fun e w' => e = .returned (.tuple #[.agg #[.slice none 0 0, .int .i64 0], .int .i64 1]) ∧ Kept w w' := by
  have hz := zero29
  have HA := hid (at_new w #[.slice none 0 0, .int .i64 0] 29)
  have HK := hid (kept_alloc (kept_refl w) (.cells #[.slice none 0 0, .int .i64 0] 29))
  obtain ⟨c0, c1, fr⟩ := at_cells2 HA.out
  by_cases h1 : n < 1
  · clear h
    go_enter Try.func9, Try.ntmps9
    go_wp2_with fail
    exact bodyPost_ret (res2 rfl _ rfl rfl HA.out) rfl ⟨rfl, HK.out⟩
  · have h2 : 1024 < n := by unfold mayN at h; omega
    have h1' : decide (n < 1) = false := by simpa using h1
    clear h
    go_enter Try.func9, Try.ntmps9
    go_wp2_with fail
    exact bodyPost_ret (res2 rfl _ rfl rfl HA.out) rfl ⟨rfl, HK.out⟩
set_option maxHeartbeats 1600000 in
set_option maxRecDepth 100000 in
theorem refnew_any (n : Nat) (h1 : 1 ≤ n) (h2 : n ≤ 1024) (w : World) : Calls Try.prog 9 #[.int .i64 (n : Int)] w (RNewC n w) := by
  have hz := zero29
  have HA := hid (at_new w #[.slice none 0 0, .int .i64 0] 29)
  have HK := hid (kept_alloc (kept_refl w) (.cells #[.slice none 0 0, .int .i64 0] 29))
  have d1 : decide ((n : Int) < 1) = false := by simp; omega
  have d2 : decide ((1024 : Int) < (n : Int)) = false := by simp; omega
  go_enter Try.func9, Try.ntmps9
  go_wp2_with fail
  go_loop [4] (fun i => ∃ m : Nat, i = .int .i64 (m : Int) ∧ 1 ≤ m ∧ m ≤ 4096 ∧ Hid (∃ j, m = 2 ^ j ∧ ∀ i, i < j → 2 ^ i < 2 * n)) (fun i => 5000 - (intOf i).toNat)
  case atStart => exact ⟨1, rfl, Nat.le_refl _, by omega, hid ⟨0, rfl, fun i hi => absurd hi (by omega)⟩⟩
  case round =>
    obtain ⟨m, rfl, m1, m4, HP⟩ := hrel
    have m5 : (m : Int) < 5000 := by omega
    by_cases hlt : m < 2 * n
    · have hl2 : ¬ (n : Int) + (n : Int) ≤ (m : Int) := by omega
      have HN : Hid (∃ j, m * 2 = 2 ^ j ∧ ∀ i, i < j → 2 ^ i < 2 * n) := by
        obtain ⟨j, hj, hi⟩ := HP.out
        refine hid ⟨j + 1, by rw [Nat.pow_succ, hj], fun i h => ?_⟩
        rcases (show i < j ∨ i = j by omega) with e | e
        · exact hi i e
        · rw [e, ← hj]; exact hlt
      go_wp2_with fail
      go_round
      case rel => exact ⟨m * 2, by go_num, by omega, by omega, HN⟩
      case measure => simp [intOf]; omega
    · have hl2 : (n : Int) + (n : Int) ≤ (m : Int) := by omega
      have HZ := hid (Size.mk (n := n) (m := m) (by omega) m4 HP.out)
      clear HP
      generalize hwa : w.alloc (.cells #[.slice none 0 0, .int .i64 0] 29) = wa at *
      have HSz : Hid (w.heap.size ≤ wa.heap.size ∧ w.heap.size < wa.heap.size) := hid (by rw [← hwa]; simp)
      clear hwa
      generalize hX : w.heap.size = X at *
      have HX := hid hX
      clear hX
      have hmk := make_ref wa m (by omega)
      have HR := hid (row_made wa 46 m)
      have HK2 := hid (kept_alloc HK.out (.cells (madeCells #[.bool false, .string ⟨#[]⟩, .int .i64 0] (m * 3)) 46))
      have HA2 := hid (at_alloc HA.out (.cells (madeCells #[.bool false, .string ⟨#[]⟩, .int .i64 0] (m * 3)) 46))
      generalize wa.alloc (.cells (madeCells #[.bool false, .string ⟨#[]⟩, .int .i64 0] (m * 3)) 46) = w1 at *
      generalize hQ : wa.heap.size = Q at *
      have HQ := hid hQ
      clear hQ
      obtain ⟨c0, c1, fr⟩ := at_cells2 HA2.out
      go_wp2_with fail
      have HA3 := at_set (at_set HA2.out 0 (.slice (some ⟨Q, 0, none⟩) m m)) 1 (.int .i64 (n : Int))
      refine bodyPost_ret (res2 rfl _ rfl rfl HA3) rfl ⟨Q, m, rfl, HZ.out, ?_, ?_, ?_⟩
      · have := HSz.out; have := HX.out; omega
      · exact kept_set (kept_set HK2.out (by have := HX.out; omega) _ _) (by have := HX.out; omega) _ _
      · exact row_other (row_other HR.out _ (by have := HSz.out; omega)) _ (by have := HSz.out; omega)
end Go.Proofs.Ytibdnhnomjcclaa
