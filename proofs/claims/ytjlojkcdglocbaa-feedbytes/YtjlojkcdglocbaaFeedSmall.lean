/- The contracts of New, Held and Over. -/
import Derived.Test.YtjlojkcdglocbaaFeedRows
namespace Go.Proofs.Ytjlojkcdglocbaa
open Go.ChangeShapes Go.WideShapes Go.ChangeAt Go.RowKit
set_option linter.unusedVariables false
set_option linter.unusedSimpArgs false

def isOver : Pn → Bool
  | (false, false, false) => false
  | (false, false, true) => false
  | (false, true, false) => false
  | (false, true, true) => false
  | (true, false, false) => false
  | (true, false, true) => false
  | (true, true, false) => false
  | (true, true, true) => true
theorem eq_func0 (fn : Fn) (a c : Array Value) (w : World) : (Op.equalIn 10000 46 (.func fn a c) .nilFunc).run Try.prog w = .ok false w := by
  rw [Op.equalIn]
  simp [go_sem, Try.underlying46]
theorem eq_nilf0 (w : World) : (Op.equalIn 10000 46 .nilFunc .nilFunc).run Try.prog w = .ok true w := by
  rw [Op.equalIn]
  simp [go_sem, Try.underlying46]
theorem eq_func (fn : Fn) (a c : Array Value) (w : World) : (binOp .eql 46 (.func fn a c) .nilFunc).run Try.prog w = .ok (.bool false) w := by
  simp [binOp, go_sem, Op.equal, Op.maxDepth, eq_func0]
theorem eq_nilf (w : World) : (binOp .eql 46 .nilFunc .nilFunc).run Try.prog w = .ok (.bool true) w := by
  simp [binOp, go_sem, Op.equal, Op.maxDepth, eq_nilf0]
theorem over_any (B F : Nat) (p : Pn) (hv kv : Value) (st : Cm) (left : Nat) (h : List UInt8) (w : World) (g : FA B F w p hv kv st left h) :
    Calls Try.prog 13 #[.pointer (some ⟨F, 0, none⟩)] w fun e w' => e = .returned (.bool (isOver p)) ∧ w' = w := by
  obtain ⟨c0, c1, c2, c3, c4, c5, c6, c7, c8, c9, cf⟩ := at_cells10 g.2.1
  clear g
  have hE := eq_func
  have hE2 := eq_nilf
  cases p using Pn.each <;> (
    simp only [nextV] at c0
    go_enter Try.func13, Try.ntmps13
    go_wp2_with fail
    go_ret
    exact ⟨rfl, rfl⟩)
theorem over_nil (w : World) : Calls Try.prog 13 #[.pointer none] w fun e w' => e = .returned (.bool true) ∧ w' = w := by
  go_enter Try.func13, Try.ntmps13
  go_wp2_with fail
  go_ret
  exact ⟨rfl, rfl⟩
theorem held_any (B F : Nat) (p : Pn) (hv kv : Value) (st : Cm) (left : Nat) (h : List UInt8) (w : World) (g : FA B F w p hv kv st left h) :
    Calls Try.prog 14 #[.pointer (some ⟨F, 0, none⟩)] w fun e w' => e = .returned (.int .i64 (h.length : Int)) ∧ w' = w := by
  obtain ⟨ha, hc, rfl, -⟩ := held_text g.2.2.1
  obtain ⟨c0, c1, c2, c3, c4, c5, c6, c7, c8, c9, cf⟩ := at_cells10 g.2.1
  clear g
  go_enter Try.func14, Try.ntmps14
  go_wp2_with fail
  go_ret
  exact ⟨rfl, rfl⟩
theorem heldnil_any (w : World) : Calls Try.prog 14 #[.pointer none] w fun e w' => e = .returned (.int .i64 0) ∧ w' = w := by
  go_enter Try.func14, Try.ntmps14
  go_wp2_with fail
  go_ret
  exact ⟨rfl, rfl⟩
def fresh : Fd := ⟨.line, [], zc, 0⟩
theorem fresh_ok : okF fresh := ⟨by simp [fresh, absF, okS], by simp [fresh, bare], by simp [fresh]⟩
theorem fresh_abs : absF fresh = .line [] := rfl
theorem new_any (B : Nat) (w : World) (hB : B ≤ w.heap.size) :
    Calls Try.prog 9 #[] w fun e w' => ∃ F, e = .returned (.pointer (some ⟨F, 0, none⟩)) ∧ w.heap.size ≤ F ∧ FeedAt B w' F fresh ∧ Kept w w' := by
  have hz48 : ∀ w, (zeroValue 48).run Try.prog w = .ok (.agg #[.nilFunc, .slice none 0 0, .int .i64 0, .slice none 0 0, .int .u32 0, .int .i64 0, .string ⟨#[]⟩, .bool false, .string ⟨#[]⟩, .int .i64 0]) w := fun _ => by kernel_rfl
  have HA := hid (at_new w #[nextV w.heap.size .line, .slice none 0 0, .int .i64 0, .slice none 0 0, .int .u32 0, .int .i64 0, .string ⟨#[]⟩, .bool false, .string ⟨#[]⟩, .int .i64 0] 48)
  go_enter Try.func9, Try.ntmps9
  go_wp2_with fail
  go_ret
  exact ⟨w.heap.size, rfl, Nat.le_refl _, ⟨_, _, hB, HA.out, held_nil _ _, keys_nil _⟩, kept_alloc (kept_refl w) _⟩
end Go.Proofs.Ytjlojkcdglocbaa
