/- The contracts of the landed atomic numbers (one goroutine alone), of sum and of takeAll. -/
import Derived.Test.YtibidhmahjbciaaCtIs
import Derived.Laws.LoneSync
namespace Go.Proofs.Ytibidhmahjbciaa
open Go.ChangeShapes Go.WideShapes Go.ChangeAt Go.RowKit
set_option linter.unusedVariables false
set_option linter.unusedSimpArgs false
set_option maxRecDepth 100000

theorem load_any (G o : Nat) (x : Int) (w : World) (h : w.cell? ⟨G, o, none⟩ = some (.int .u64 x)) : Calls Try.prog 21 #[.pointer (some ⟨G, o, none⟩)] w fun e w' => e = .returned (.int .u64 x) ∧ w' = w := by
  have hl := run_call_load (P := Try.prog) Try.func26 (by kernel_rfl) (by kernel_rfl) (by kernel_rfl) .u64 (by kernel_rfl) h
  go_enter Try.func21, Try.ntmps21
  go_wp2_with fail
  go_ret
  exact ⟨rfl, rfl⟩
theorem cas_any (G o : Nat) (x y : Int) (w : World) (h : w.cell? ⟨G, o, none⟩ = some (.int .u64 x)) (hf : w.frozen? ⟨G, o, none⟩ = false) : Calls Try.prog 22 #[.pointer (some ⟨G, o, none⟩), .int .u64 x, .int .u64 y] w fun e w' => e = .returned (.bool true) ∧ w' = w.setCell ⟨G, o, none⟩ (.int .u64 y) := by
  have hl := run_call_cas_hit (P := Try.prog) Try.func27 (by kernel_rfl) (by kernel_rfl) (by kernel_rfl) .u64 (by kernel_rfl) (y := y) h hf
  go_enter Try.func22, Try.ntmps22
  go_wp2_with fail
  go_ret
  exact ⟨rfl, rfl⟩
/- The library's swap of a number: the elder one is handed back. -/
theorem run_swap {P : Program} {f : FuncId} {fn : Func} (hf : P.funcs[f]? = some fn) (hname : (fn.name == "runtime.NumGoroutine") = false) (hb : fn.body.isNone = true) (hn : Extern.findNext fn = none) (k : IntKind) (he : Extern.find fn = some (Extern.Atomic.swapT (.int k))) {a : Addr} {x y : Int} {w : World} (hc : w.cell? a = some (.int k x)) (hz : w.frozen? a = false) :
    (callFunc f #[.pointer (some a), .int k y]).run P w = .ok (.value (.int k x)) (w.setCell a (.int k y)) := by
  rw [run_callFunc_extern hf hname hb hn he]
  have e : Extern.Atomic.swapT (.int k) #[.pointer (some a), .int k y] = (asAddr (.pointer (some a)) >>= fun b => Extern.Atomic.read (.int k) b >>= fun o => store b (.int k y) .atomic >>= fun _ => pure o) := rfl
  rw [e]
  simp [Extern.Atomic.read, asAddr, hc, hz, run_store P w a (.int k y) .atomic rfl, Result.andThen]
theorem swap_any (G o : Nat) (x y : Int) (w : World) (h : w.cell? ⟨G, o, none⟩ = some (.int .u64 x)) (hf : w.frozen? ⟨G, o, none⟩ = false) : Calls Try.prog 25 #[.pointer (some ⟨G, o, none⟩), .int .u64 y] w fun e w' => e = .returned (.int .u64 x) ∧ w' = w.setCell ⟨G, o, none⟩ (.int .u64 y) := by
  have hl := run_swap (P := Try.prog) Try.func28 (by kernel_rfl) (by kernel_rfl) (by kernel_rfl) .u64 (by kernel_rfl) (y := y) h hf
  go_enter Try.func25, Try.ntmps25
  go_wp2_with fail
  go_ret
  exact ⟨rfl, rfl⟩
theorem takeall_any (G o : Nat) (x : Int) (w : World) (h : w.cell? ⟨G, o, none⟩ = some (.int .u64 x)) (hf : w.frozen? ⟨G, o, none⟩ = false) : Calls Try.prog 19 #[.pointer (some ⟨G, o, none⟩)] w fun e w' => e = .returned (.int .u64 x) ∧ w' = w.setCell ⟨G, o, none⟩ (.int .u64 0) := by
  have hl := swap_any G o x 0 w h hf
  clear h hf
  go_enter Try.func19, Try.ntmps19
  go_wp2_with fail
  refine hl.mono ?_
  rintro e w1 ⟨rfl, rfl⟩
  go_wp2_with fail
  go_ret
  exact ⟨rfl, rfl⟩
theorem sum_any (a b : Int) (ha : inU64 a) (hb : inU64 b) (w : World) : Calls Try.prog 23 #[.int .u64 a, .int .u64 b] w fun e w' => e = .returned (.int .u64 (moreC a b)) ∧ w' = w := by
  unfold inU64 at ha hb
  have e1 : IntKind.u64.wrap (18446744073709551615 - a) = 18446744073709551615 - a := by rw [IntKind.wrap_u64]; omega
  by_cases h : a + b ≤ 18446744073709551615
  · have e2 : decide (18446744073709551615 - a < b) = false := by simp; omega
    have e3 : IntKind.u64.wrap (a + b) = a + b := by rw [IntKind.wrap_u64]; omega
    have HM : Hid (moreC a b = a + b) := hid (by unfold moreC topC; rw [if_pos h])
    clear h ha hb
    go_enter Try.func23, Try.ntmps23
    go_wp2_with fail
    go_ret
    exact ⟨by rw [HM.out]; rfl, rfl⟩
  · have e2 : decide (18446744073709551615 - a < b) = true := by simp; omega
    have HM : Hid (moreC a b = 18446744073709551615) := hid (by unfold moreC topC; rw [if_neg h])
    clear h ha hb
    go_enter Try.func23, Try.ntmps23
    go_wp2_with fail
    go_ret
    exact ⟨by rw [HM.out]; rfl, rfl⟩
end Go.Proofs.Ytibidhmahjbciaa
