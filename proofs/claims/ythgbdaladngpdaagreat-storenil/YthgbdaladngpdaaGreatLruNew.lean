/- The contract of New: a list for so many numbers, without any; or none, where there may be none. -/
import Derived.Test.YthgbdaladngpdaaGreatLruList
namespace Go.Proofs.YthgbdaladngpdaaGreat.Lru
open Go.ChangeShapes Go.WideShapes Go.ChangeAt Go.RowKit
set_option linter.unusedVariables false
set_option maxRecDepth 100000
set_option linter.unusedSimpArgs false

def fz (k i : Nat) : Nat := if i < k then i else 0
theorem fz_next (k : Nat) : upd (fz k) k k = fz (k + 1) := by
  funext i
  unfold upd fz
  split
  · rename_i h; subst h; rw [if_pos (by omega)]
  · by_cases h : i < k
    · rw [if_pos h, if_pos (by omega)]
    · rw [if_neg h, if_neg (by omega)]
theorem row_ext {w : World} {R n : Nat} {A B A' B' : Nat → Nat} (h : RowL w R n A B) (hA : ∀ i, i ≤ n → A i = A' i) (hB : ∀ i, i ≤ n → B i = B' i) : RowL w R n A' B' := by
  obtain ⟨cs, h, hs, g⟩ := h
  refine ⟨cs, h, hs, fun i hi => ?_⟩
  rw [← hA i hi, ← hB i hi]
  exact g i hi
theorem info48 : (Tryz.prog.info? 135).map (fun i => (i.zero, i.size, i.bytes)) = some (some (.agg #[.int .i64 0, .int .i64 0]), 2, 16) := by kernel_rfl
theorem make_links (w : World) (n : Nat) (hn : n ≤ 4096) :
    (Instr.makeSlice 133 (.int .i64 (n : Int)) (.int .i64 (n : Int))).run Tryz.prog w = .ok (.slice (some ⟨w.heap.size, 0, none⟩) n n) (w.alloc (.cells (madeCells #[.int .i64 0, .int .i64 0] (n * 2)) 135)) := by
  obtain ⟨i0, hi, hz0, hz1, hz2⟩ := info_parts info48
  have := run_make (P := Tryz.prog) w 133 135 i0 _ Tryz.underlying133 hi hz0 .i64 .i64 (n : Int) (n : Int) (by omega) (by omega) (by rw [hz2]; omega) (by omega)
  rw [this, hz1]
  rfl
theorem row_made (w : World) (n : Nat) : RowL (w.alloc (.cells (madeCells #[.int .i64 0, .int .i64 0] ((n + 1) * 2)) 135)) w.heap.size n (fz 0) (fz 0) := by
  refine ⟨_, at_new w _ 135, by unfold madeCells; simp, fun i hi => ?_⟩
  have e : ((fz 0 i : Nat) : Int) = 0 := rfl
  rw [e]
  unfold madeCells
  constructor
  · rw [Array.getElem?_map, Array.getElem?_range, if_pos (by omega)]
    have e : (i * 2) % (#[Value.int .i64 0, .int .i64 0] : Array Value).size = 0 := by show (i * 2) % 2 = 0; omega
    simp only [Option.map_some, e]
    rfl
  · rw [Array.getElem?_map, Array.getElem?_range, if_pos (by omega)]
    have e : (i * 2 + 1) % (#[Value.int .i64 0, .int .i64 0] : Array Value).size = 1 := by show (i * 2 + 1) % 2 = 1; omega
    simp only [Option.map_some, e]
    rfl
def mayN (n : Int) : Prop := 1 ≤ n ∧ n ≤ 1024
set_option maxHeartbeats 800000 in
theorem new_bad (n : Int) (h : ¬ mayN n) (w : World) : Calls Tryz.prog 62 #[.int .i64 n] w fun e w' => e = .returned (.tuple #[.pointer none, .int .i64 1]) ∧ w' = w := by
  by_cases h1 : n < 1
  · clear h
    go_enter Tryz.func62, Tryz.ntmps62
    go_wp2_with fail
    go_ret2
    exact ⟨rfl, rfl⟩
  · have h2 : 1024 < n := by unfold mayN at h; omega
    have h1' : decide (n < 1) = false := by simpa using h1
    clear h
    go_enter Tryz.func62, Tryz.ntmps62
    go_wp2_with fail
    go_ret2
    exact ⟨rfl, rfl⟩
/- What New answers and leaves. -/
def NewC (n : Nat) (w : World) (e : Ending) (w' : World) : Prop := ∃ X R, e = .returned (.tuple #[.pointer (some ⟨X, 0, none⟩), .int .i64 0]) ∧ w.heap.size ≤ X ∧ w.heap.size ≤ R ∧ Kept w w' ∧ Good w' X R n []
set_option maxHeartbeats 1600000 in
theorem new_any (n : Nat) (h1 : 1 ≤ n) (h2 : n ≤ 1024) (w : World) : Calls Tryz.prog 62 #[.int .i64 (n : Int)] w (NewC n w) := by
  have d1 : decide ((n : Int) < 1) = false := by simp; omega
  have d2 : decide ((1024 : Int) < (n : Int)) = false := by simp; omega
  have hmk := make_links w (n + 1) (by omega)
  have HR := hid (row_made w n)
  have HK := hid (kept_alloc (kept_refl w) (.cells (madeCells #[.int .i64 0, .int .i64 0] ((n + 1) * 2)) 135))
  have HB := hid (Nat.le_refl w.heap.size)
  have hc : ((n + 1 : Nat) : Int) = (n : Int) + 1 := by omega
  rw [hc] at hmk
  clear hc
  generalize w.alloc (.cells (madeCells #[.int .i64 0, .int .i64 0] ((n + 1) * 2)) 135) = w1 at *
  generalize hRr : w.heap.size = R at HR HB hmk
  have HRr := hid hRr
  clear hRr
  go_enter Tryz.func62, Tryz.ntmps62
  go_wp2_with fail
  clear hmk d1 d2
  go_loopw [17] (fun i wr => ∃ k : Nat, i = .int .i64 (k : Int) ∧ k ≤ n + 1 ∧ Hid (RowL wr R n (fz k) (fz k)) ∧ Hid (Kept w wr)) (fun i _ => n + 1 - (intOf i).toNat)
  case atStart => exact ⟨0, rfl, Nat.zero_le _, HR, HK⟩
  case round =>
    obtain ⟨k, rfl, hk, HRk, HKk⟩ := hrel
    clear HR HK
    by_cases hlt : k < n + 1
    · obtain ⟨w2, hw2⟩ : ∃ w2, wr.setCell ⟨R, k * 2, none⟩ (.int .i64 (k : Int)) = w2 := ⟨_, rfl⟩
      obtain ⟨w3, hw3⟩ : ∃ w3, w2.setCell ⟨R, k * 2 + 1, none⟩ (.int .i64 (k : Int)) = w3 := ⟨_, rfl⟩
      obtain ⟨r0, r1, rf⟩ := row_cells HRk.out (i := k) (by omega)
      have R2 := row_setA HRk.out (a := k) (by omega) k
      rw [hw2] at R2
      obtain ⟨s0, s1, sf⟩ := row_cells R2 (i := k) (by omega)
      have HR3 := hid (row_setB R2 (a := k) (by omega) k)
      rw [hw3, fz_next] at HR3
      have K2 := kept_set HKk.out (X := R) (Nat.le_of_eq HRr.out) (k * 2) (.int .i64 (k : Int))
      rw [hw2] at K2
      have HK3 := hid (kept_set K2 (X := R) (Nat.le_of_eq HRr.out) (k * 2 + 1) (.int .i64 (k : Int)))
      rw [hw3] at HK3
      clear R2 K2
      go_wp2_with fail
      go_roundw
      case rel => exact ⟨k + 1, by go_num, by omega, HR3, HK3⟩
      case measure => simp [intOf]; omega
    · have hke : k = n + 1 := by omega
      subst hke
      have HRe := hid (row_ext (A' := id) (B' := id) HRk.out (fun i hi => by unfold fz; rw [if_pos (by omega)]; rfl) (fun i hi => by unfold fz; rw [if_pos (by omega)]; rfl))
      clear HRk
      have HAt := hid (at_new wr #[.slice (some ⟨R, 0, none⟩) (n + 1) (n + 1)] 137)
      have HKe := hid (kept_alloc HKk.out (.cells #[.slice (some ⟨R, 0, none⟩) (n + 1) (n + 1)] 137))
      have HRf := hid (row_kept HRe.out (kept_alloc (kept_refl wr) (.cells #[.slice (some ⟨R, 0, none⟩) (n + 1) (n + 1)] 137)))
      clear HRe
      go_wp2_with fail
      go_ret2
      exact ⟨wr.heap.size, R, rfl, HKk.out.2, Nat.le_of_eq HRr.out, HKe.out, h1, h2, id, id, ⟨HAt.out, HRf.out⟩, ring_new n⟩
end Go.Proofs.YthgbdaladngpdaaGreat.Lru
