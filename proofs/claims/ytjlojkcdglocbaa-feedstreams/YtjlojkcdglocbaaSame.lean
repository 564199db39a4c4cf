/- The contract of the reference's Same at two commands that are the same: true. It turns nothing that was there. A command has at most 2^32 keys. -/
import Derived.Test.YtjlojkcdglocbaaParse
import Derived.BigQuiet
namespace Go.Proofs.Ytjlojkcdglocbaa
open Go.ChangeShapes Go.WideShapes Go.ChangeAt Go.RowKit
set_option linter.unusedVariables false
set_option linter.unusedSimpArgs false

set_option maxHeartbeats 1600000 in
set_option maxRecDepth 100000 in
theorem same_nil (c : Cm) (bd : ByteArray) (a b : Option Addr) (m n : Nat) (w : World) :
    Calls Try.prog 20 #[.agg #[.int .i64 c.kind, .slice a 0 m, .int .u32 c.flags, .int .i64 c.exp, .string bd, .bool c.quiet, .string c.reply], .agg #[.int .i64 c.kind, .slice b 0 n, .int .u32 c.flags, .int .i64 c.exp, .string bd, .bool c.quiet, .string c.reply]] w fun e w' => e = .returned (.bool true) ∧ Kept w w' := by
  have HK : Hid (Kept w ((w.alloc (.cells #[.int .i64 c.kind, .slice a 0 m, .int .u32 c.flags, .int .i64 c.exp, .string bd, .bool c.quiet, .string c.reply] 38)).alloc (.cells #[.int .i64 c.kind, .slice b 0 n, .int .u32 c.flags, .int .i64 c.exp, .string bd, .bool c.quiet, .string c.reply] 38))) := kept_alloc (kept_alloc (kept_refl w) _) _
  have g1 : (c.kind != c.kind) = false := by simp
  have g2 : (c.flags != c.flags) = false := by simp
  have g3 : (c.exp != c.exp) = false := by simp
  have g5 : (bd.toList != bd.toList) = false := by simp
  go_enter Try.func20, Try.ntmps20
  go_wp2
  generalize (w.alloc (.cells #[.int .i64 c.kind, .slice a 0 m, .int .u32 c.flags, .int .i64 c.exp, .string bd, .bool c.quiet, .string c.reply] 38)).alloc (.cells #[.int .i64 c.kind, .slice b 0 n, .int .u32 c.flags, .int .i64 c.exp, .string bd, .bool c.quiet, .string c.reply] 38) = wa at *
  go_loopw [5, 58] (fun i j wr => j = .int .i64 0 ∧ Hid (Kept w wr)) (fun _ j _ => 0)
  case atStart => exact ⟨rfl, HK⟩
  case round =>
    obtain ⟨rfl, HK2⟩ := hrel
    go_wp2
    go_ret
    exact ⟨rfl, HK2.out⟩
set_option maxHeartbeats 1600000 in
set_option maxRecDepth 100000 in
theorem same_some (c : Cm) (bd : ByteArray) (A B p q : Nat) (K : List ByteArray) (n : Nat) (hn : n = K.length) (h62 : n ≤ 4294967297) (w : World) (hA : A < w.heap.size ∧ ∀ i (h : i < K.length), w.cell? ⟨A, i, none⟩ = some (.string K[i])) (hB : B < w.heap.size ∧ ∀ i (h : i < K.length), w.cell? ⟨B, i, none⟩ = some (.string K[i])) :
    Calls Try.prog 20 #[.agg #[.int .i64 c.kind, .slice (some ⟨A, 0, none⟩) n p, .int .u32 c.flags, .int .i64 c.exp, .string bd, .bool c.quiet, .string c.reply], .agg #[.int .i64 c.kind, .slice (some ⟨B, 0, none⟩) n q, .int .u32 c.flags, .int .i64 c.exp, .string bd, .bool c.quiet, .string c.reply]] w fun e w' => e = .returned (.bool true) ∧ Kept w w' := by
  have HK : Hid (Kept w ((w.alloc (.cells #[.int .i64 c.kind, .slice (some ⟨A, 0, none⟩) n p, .int .u32 c.flags, .int .i64 c.exp, .string bd, .bool c.quiet, .string c.reply] 38)).alloc (.cells #[.int .i64 c.kind, .slice (some ⟨B, 0, none⟩) n q, .int .u32 c.flags, .int .i64 c.exp, .string bd, .bool c.quiet, .string c.reply] 38))) := kept_alloc (kept_alloc (kept_refl w) _) _
  have HX : Hid (At ((w.alloc (.cells #[.int .i64 c.kind, .slice (some ⟨A, 0, none⟩) n p, .int .u32 c.flags, .int .i64 c.exp, .string bd, .bool c.quiet, .string c.reply] 38)).alloc (.cells #[.int .i64 c.kind, .slice (some ⟨B, 0, none⟩) n q, .int .u32 c.flags, .int .i64 c.exp, .string bd, .bool c.quiet, .string c.reply] 38)) w.heap.size #[.int .i64 c.kind, .slice (some ⟨A, 0, none⟩) n p, .int .u32 c.flags, .int .i64 c.exp, .string bd, .bool c.quiet, .string c.reply] 38) := at_alloc (at_new _ _ _) _
  have HZ := hid (at_new (w.alloc (.cells #[.int .i64 c.kind, .slice (some ⟨A, 0, none⟩) n p, .int .u32 c.flags, .int .i64 c.exp, .string bd, .bool c.quiet, .string c.reply] 38)) #[.int .i64 c.kind, .slice (some ⟨B, 0, none⟩) n q, .int .u32 c.flags, .int .i64 c.exp, .string bd, .bool c.quiet, .string c.reply] 38)
  simp only [World.size_alloc] at HZ
  have HA : Hid (∀ u, Kept w u → ∀ i (h : i < K.length), u.cell? ⟨A, i, none⟩ = some (.string K[i])) := fun u hk i hi => (kept_cell hk hA.1).trans (hA.2 i hi)
  have HB : Hid (∀ u, Kept w u → ∀ i (h : i < K.length), u.cell? ⟨B, i, none⟩ = some (.string K[i])) := fun u hk i hi => (kept_cell hk hB.1).trans (hB.2 i hi)
  have HN : Hid (K.length = n) := hn.symm
  have g1 : (c.kind != c.kind) = false := by simp
  have g2 : (c.flags != c.flags) = false := by simp
  have g3 : (c.exp != c.exp) = false := by simp
  have g5 : (bd.toList != bd.toList) = false := by simp
  have g4 : ((n : Int) != (n : Int)) = false := by simp
  have H62 := hid h62
  clear hA hB hn h62
  go_enter Try.func20, Try.ntmps20
  go_wp2
  generalize (w.alloc (.cells #[.int .i64 c.kind, .slice (some ⟨A, 0, none⟩) n p, .int .u32 c.flags, .int .i64 c.exp, .string bd, .bool c.quiet, .string c.reply] 38)).alloc (.cells #[.int .i64 c.kind, .slice (some ⟨B, 0, none⟩) n q, .int .u32 c.flags, .int .i64 c.exp, .string bd, .bool c.quiet, .string c.reply] 38) = wa at *
  generalize w.heap.size + 1 = Z at *
  generalize w.heap.size = X at *
  go_loopw [5, 58] (fun i j wr => ∃ k : Nat, k ≤ n ∧ j = .int .i64 k ∧ Hid (Kept wa wr)) (fun _ j _ => n - (intOf j).toNat)
  case atStart => exact ⟨0, Nat.zero_le _, rfl, kept_refl _⟩
  case round =>
    obtain ⟨k, hk, rfl, HR⟩ := hrel
    by_cases hlt : k < n
    · have hkK : Hid (k < K.length) := by show k < _; rw [HN.out]; exact hlt
      have hc1 := HA.out _ (kept_trans HK.out HR.out) k hkK.out
      have hc2 := HB.out _ (kept_trans HK.out HR.out) k hkK.out
      generalize (K[k]'hkK.out) = x at *
      obtain ⟨-, x1, -, -, -, -, -, -⟩ := at_cells7 (at_kept HX.out HR.out)
      obtain ⟨-, z1, -, -, -, -, -, -⟩ := at_cells7 (at_kept HZ.out HR.out)
      have hxx : (x.toList != x.toList) = false := by simp
      have HR2 : Hid (Kept wa wr.drew) := kept_drew HR.out
      have h62 := H62.out
      go_wp2
      go_quiet (fail)
      go_wp2
      go_roundw
      case rel => exact ⟨k + 1, by omega, by go_num, HR2⟩
      case measure => simp [intOf]; omega
    · have he : k = n := by omega
      subst he
      go_wp2
      go_ret
      exact ⟨rfl, kept_trans HK.out HR.out⟩
theorem same_any (c : Cm) (bd : ByteArray) (h62 : c.keys.length ≤ 4294967297) (v u : Value) (w : World) (hv : Keys w v c.keys) (hu : Keys w u c.keys) :
    Calls Try.prog 20 #[.agg #[.int .i64 c.kind, v, .int .u32 c.flags, .int .i64 c.exp, .string bd, .bool c.quiet, .string c.reply], .agg #[.int .i64 c.kind, u, .int .u32 c.flags, .int .i64 c.exp, .string bd, .bool c.quiet, .string c.reply]] w fun e w' => e = .returned (.bool true) ∧ Kept w w' := by
  rcases hv with ⟨h0, rfl⟩ | ⟨A, p, rfl, hA, hcA⟩
  · rcases hu with ⟨_, rfl⟩ | ⟨B, q, rfl, hB, hcB⟩
    · exact same_nil c bd _ _ _ _ w
    · rw [h0]; exact same_nil c bd _ _ _ _ w
  · rcases hu with ⟨h0, rfl⟩ | ⟨B, q, rfl, hB, hcB⟩
    · rw [h0]; exact same_nil c bd _ _ _ _ w
    · exact same_some c bd A B p q c.keys _ rfl h62 w ⟨hA, hcA⟩ ⟨hB, hcB⟩
end Go.Proofs.Ytjlojkcdglocbaa
