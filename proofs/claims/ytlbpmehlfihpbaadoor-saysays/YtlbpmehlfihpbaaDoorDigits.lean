/- The contract of the function that writes a number in digits: the library's FormatUint at base 10. The table of powers of ten is as the library lays it. -/
import Derived.Test.YtlbpmehlfihpbaaDoorBase
import Derived.Lib.Walk
import Derived.Lib.ItoaMem
import Derived.Lib.ItoaLen
import Derived.Lib.AppendIntMem
import Derived.BigCall
import Derived.BigGuard
namespace Go.Proofs.YtlbpmehlfihpbaaDoor
open Go.ChangeShapes Go.WideShapes Go.ChangeAt Go.RowKit
set_option linter.unusedVariables false
set_option linter.unusedSimpArgs false
open Go.Sort Go.Lib

/-- A byte as it lies in a cell; the world with a block of 24 noughts more, the block's address, and what the digits leave. -/
abbrev cell8 : UInt8 → Value := fun b => Value.int .u8 (b.toNat : Int)
abbrev new24 (w : World) : World := w.alloc (.cells Lib.zeros24 87)
abbrev at24 (w : World) : Addr := ⟨w.heap.size, 0, none⟩
abbrev left24 (w : World) (d : Array UInt8) (k : Nat) : World := (putRow cell8 (new24 w) w.heap.size 0 d).drewN k

theorem put_kept (w : World) (o : Obj) (d : Array UInt8) (k : Nat) : Kept w ((putRow cell8 (w.alloc o) w.heap.size 0 d).drewN k) := by
  obtain ⟨new, e⟩ := Lib.fin_at w o d k 0
  exact e ▸ kept_below (Lib.below_grow w.heap.size w (Nat.le_refl _) k new)

/-- The block's beginning, as many bytes as asked for. -/
theorem front24 (w W : World) (n : Nat) (hn : n ≤ 24) : (Instr.sliceAt 87 (.pointer (some (at24 w))) none (some (.int .i64 (n : Int))) none).run Tryd.prog W = .ok (.slice (some (at24 w)) n 24) W := by
  have len : Tryd.prog.arrayLen 87 = 24 := by kernel_rfl
  have el : Tryd.prog.elem 87 = 5 := by kernel_rfl
  have h := run_sliceAt_array_h (P := Tryd.prog) W 87 (at24 w) (by kernel_rfl) .i64 (n : Int) (Int.natCast_nonneg n) (by rw [len]; exact_mod_cast hn)
  rw [h, len, el]
  go_simp
/-- The digits that lie in the block, as a text. -/
theorem text24 (w : World) (u k v : Nat) (d : Array UInt8) (hd : FmtInv (Lib.nDigits u) u 0 v d) (hn : Lib.nDigits u ≤ 24) :
    (convert 51 9 (.slice (some (at24 w)) (Lib.nDigits u) 24)).run Tryd.prog (left24 w d k) = .ok (.string ⟨(Lib.decDigits u).toArray⟩) (left24 w d k) := by
  have len := Lib.decDigits_length u
  rw [← len]
  refine run_convert_bytes_back (P := Tryd.prog) _ 51 9 5 (at24 w) 24 (Lib.decDigits u) Tryd.underlying51 Tryd.underlying5 Tryd.underlying9 ?_
  intro j hj
  have hjd : j < d.size := by rw [hd.size, ← len]; exact hj
  have hrow := cell?_putRow cell8 (new24 w) w.heap.size 0 _ d (Lib.holds_zero0 w 87 (Lib.nDigits u) hn) (by simp [hd.size]) j hjd
  rw [Lib.add_plain, World.cell?_drewN, hrow, Lib.row_is_numeral hd j hj]

set_option maxHeartbeats 3200000 in
set_option maxRecDepth 100000 in
theorem format_any (u : Nat) (hu64 : u < 18446744073709551616) (w : World) (hB : Base w) :
    Calls Tryd.prog 37 #[.int .u64 u, .int .i64 10] w fun e w' => e = .returned (.string ⟨(Lib.decDigits u).toArray⟩) ∧ Kept w w' := by
  by_cases hs : u < 100
  · have hs' : (u : Int) < 100 := by omega
    go_enter Tryd.func37, Tryd.ntmps37
    go_wp2_with (go_at_call 48; refine (lib_small u hs _).mono ?_; rintro e w' ⟨rfl, rfl⟩)
    go_ret
    exact ⟨rfl, kept_refl _⟩
  · have hs' : ¬ (u : Int) < 100 := by omega
    have h20 := Lib.nDigits_le20 u hu64
    have hcut := fun W => front24 w W (Lib.nDigits u) (by omega)
    have htext := fun k v d hd => text24 w u k v d hd (by omega)
    have hcount := lib_numDigits u (by omega) hu64 (new24 w) (Lib.tabIs_alloc hB.tab _)
    have hlaid := lib_base10 w.heap.size 0 24 u _ (new24 w) (Lib.holds_zero0 w 87 (Lib.nDigits u) (by omega)) (by simpa using Lib.lt_pow_nDigits u) hu64 (by simp; omega)
    simp only [Array.size_replicate] at hlaid
    clear hB
    go_enter Tryd.func37, Tryd.ntmps37
    go_wp2_with (go_at_call 49; refine hcount.mono ?_; rintro e w' ⟨rfl, rfl⟩)
    go_at_call 50
    refine hlaid.mono ?_
    rintro e w' ⟨rfl, k, v', d, rfl, hd⟩
    have htext' := htext k v' d hd
    go_wp2
    go_ret
    exact ⟨rfl, put_kept _ _ _ _⟩
theorem digits_any (u : Nat) (hu64 : u < 18446744073709551616) (w : World) (hB : Base w) :
    Calls Tryd.prog 19 #[.int .u64 u] w fun e w' => e = .returned (.string ⟨(Lib.decDigits u).toArray⟩) ∧ Kept w w' := by
  have h30 : Calls Tryd.prog 30 #[.int .u64 u, .int .i64 10] w fun e w' => e = .returned (.string ⟨(Lib.decDigits u).toArray⟩) ∧ Kept w w' := by
    have h37 := format_any u hu64 w hB
    go_enter Tryd.func30, Tryd.ntmps30
    go_wp2_with (go_at_call 37; refine h37.mono ?_; rintro e w1 ⟨rfl, hk⟩)
    go_ret
    exact ⟨rfl, hk⟩
  go_enter Tryd.func19, Tryd.ntmps19
  go_wp2_with (go_at_call 30; refine h30.mono ?_; rintro e w1 ⟨rfl, hk⟩)
  go_ret
  exact ⟨rfl, hk⟩
theorem clone_any (s : ByteArray) (hlim : s.size ≤ 140737488355328) (w : World) : Calls Tryd.prog 35 #[.string s] w fun e w' => e = .returned (.string s) ∧ Kept w w' := by
  have h46 := lib_clone s w (by omega)
  go_enter Tryd.func35, Tryd.ntmps35
  go_wp2_with (go_at_call 46; refine h46.mono ?_; rintro e w1 ⟨rfl, hb⟩)
  go_ret
  exact ⟨rfl, kept_below hb⟩
end Go.Proofs.YtlbpmehlfihpbaaDoor
