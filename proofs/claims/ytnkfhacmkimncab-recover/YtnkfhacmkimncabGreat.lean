/- The contract of the law's own function that tells whether a record is too great, of as many records as there are in a row. It turns nothing that was there. -/
import Derived.Test.YtnkfhacmkimncabBox
namespace Go.Proofs.Ytnkfhacmkimncab
open Go.ChangeShapes Go.WideShapes Go.ChangeAt Go.RowKit
set_option linter.unusedVariables false
set_option linter.unusedSimpArgs false

def greatR (r : R) : Bool := decide (5000 < r.key.size) || decide (5000 < r.body.size)
/- A record's eight cells at a place. -/
def Lies (w : World) (B o : Nat) (r : R) : Prop :=
  w.cell? ⟨B, o, none⟩ = some (.string r.key) ∧ w.cell? ⟨B, o + 1, none⟩ = some (.int .u64 r.s.p) ∧ w.cell? ⟨B, o + 2, none⟩ = some (.int .u32 r.s.l) ∧ w.cell? ⟨B, o + 3, none⟩ = some (.int .u8 r.s.n) ∧ w.cell? ⟨B, o + 4, none⟩ = some (.int .u8 r.kind) ∧ w.cell? ⟨B, o + 5, none⟩ = some (.int .u32 r.flags) ∧ w.cell? ⟨B, o + 6, none⟩ = some (.int .u64 r.exp) ∧ w.cell? ⟨B, o + 7, none⟩ = some (.string r.body)
theorem lies_kept {w w' : World} {B o : Nat} {r : R} (h : Lies w B o r) (hB : B < w.heap.size) (k : Kept w w') : Lies w' B o r := by
  unfold Lies at *
  simp only [kept_cell k hB]
  exact h
set_option maxHeartbeats 1600000 in
set_option maxRecDepth 100000 in
theorem great_any (L : List R) (B : Nat) (w : World) (hn : L.length ≤ 3) (hB : B < w.heap.size) (hc : ∀ i (h : i < L.length), Lies w B (i * 8) L[i]) :
    Calls Try.prog 4 #[.slice (some ⟨B, 0, none⟩) L.length L.length] w fun e w' => e = .returned (.bool (L.any greatR)) ∧ Kept w w' := by
  have hz := zero27
  obtain ⟨n, e⟩ : ∃ n, n = L.length := ⟨_, rfl⟩
  have HL : Hid (L.length = n) := e.symm
  have HC : Hid (∀ i (h : i < L.length), Lies w B (i * 8) L[i]) := hc
  have HB : Hid (B < w.heap.size) := hB
  rw [← e] at hn ⊢
  clear hc hB e
  have K0 : Hid (Kept w w) := kept_refl w
  go_enter Try.func4, Try.ntmps4
  go_wp2
  go_loopw [4, 7] (fun i j wr => ∃ k : Nat, k ≤ n ∧ j = .int .i64 k ∧ Hid (Kept w wr) ∧ Hid (∀ q (hq : q < L.length), q < k → greatR L[q] = false)) (fun _ j _ => n - (intOf j).toNat)
  case atStart => exact ⟨0, Nat.zero_le _, rfl, K0, fun q _ hq => absurd hq (by omega)⟩
  case round =>
    obtain ⟨k, hk, rfl, HK, HG⟩ := hrel
    by_cases hlt : k < n
    · have hk' : k < L.length := by rw [HL.out]; exact hlt
      have hcell := lies_kept (HC.out k hk') HB.out HK.out
      have HGk : Hid (∀ b, greatR L[k] = b → greatR L[k] = b) := fun _ h => h
      have HK2 : Hid (Kept w (wr.alloc (.cells #[.string L[k].key, .int .u64 L[k].s.p, .int .u32 L[k].s.l, .int .u8 L[k].s.n, .int .u8 L[k].kind, .int .u32 L[k].flags, .int .u64 L[k].exp, .string L[k].body] 27))) := kept_alloc HK.out _
      have HA : Hid (greatR L[k] = true → true = L.any greatR) := fun h => (List.any_eq_true.2 ⟨L[k], List.getElem_mem hk', h⟩).symm
      have HN : Hid (greatR L[k] = false → ∀ q (hq : q < L.length), q < k + 1 → greatR L[q] = false) := fun h q hq hl => by
        rcases (show q < k ∨ q = k by omega) with h1 | rfl
        · exact HG.out q hq h1
        · exact h
      generalize L[k] = r at *
      obtain ⟨c0, c1, c2, c3, c4, c5, c6, c7⟩ := hcell
      clear HGk
      by_cases h1 : (5000 : Int) < (r.key.size : Int)
      · have HE : Hid (true = L.any greatR) := HA.out (by unfold greatR; simp; omega)
        go_wp2
        go_ret
        exact ⟨ret_bool HE.out, HK2.out⟩
      · by_cases h2 : (5000 : Int) < (r.body.size : Int)
        · have HE : Hid (true = L.any greatR) := HA.out (by unfold greatR; simp; omega)
          go_wp2
          go_ret
          exact ⟨ret_bool HE.out, HK2.out⟩
        · have HE := HN.out (by unfold greatR; simp; omega)
          have HE2 := hid HE
          clear HE
          go_wp2
          go_roundw
          case rel => exact ⟨k + 1, by omega, by go_num, HK2, HE2⟩
          case measure => simp [intOf]; omega
    · have HE : Hid (false = L.any greatR) := by
        show _ = _
        symm
        rw [List.any_eq_false]
        intro x hx
        obtain ⟨q, hq, rfl⟩ := List.getElem_of_mem hx
        rw [HG.out q hq (by have := HL.out; omega)]
        simp
      go_wp2
      go_ret
      exact ⟨ret_bool HE.out, HK.out⟩
end Go.Proofs.Ytnkfhacmkimncab
