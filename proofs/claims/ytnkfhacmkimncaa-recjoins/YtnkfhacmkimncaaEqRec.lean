/- Records held against each other, field by field. -/
import Derived.Test.YtnkfhacmkimncaaRefJoin
namespace Go.Proofs.Ytnkfhacmkimncaa
open Go.ChangeShapes Go.WideShapes Go.ChangeAt Go.RowKit
set_option linter.unusedVariables false
set_option linter.unusedSimpArgs false

def sameT (a b : ByteArray) : Bool := a.toList == b.toList
theorem sameT_iff (a b : ByteArray) : sameT a b = true ↔ a = b := by
  unfold sameT
  rw [ByteArray.toList_eq, ByteArray.toList_eq, beq_iff_eq]
  exact ⟨fun h => bytes_ext _ _ h, fun h => by rw [h]⟩
def sameR (a b : R) : Bool := sameT a.key b.key && (same a.s b.s && (decide (a.kind = b.kind) && (decide (a.flags = b.flags) && (decide (a.exp = b.exp) && sameT a.body b.body))))
theorem sameR_iff (a b : R) : sameR a b = true ↔ a = b := by
  unfold sameR
  simp only [Bool.and_eq_true, sameT_iff, same_iff, decide_eq_true_eq]
  constructor
  · rintro ⟨h1, h2, h3, h4, h5, h6⟩; exact R.ext' h1 h2 h3 h4 h5 h6
  · rintro rfl; simp
set_option maxHeartbeats 800000 in
theorem eq_rec (a b : R) (w : World) : (Op.equalIn 10000 27 (.agg #[.string a.key, .int .u64 a.s.p, .int .u32 a.s.l, .int .u8 a.s.n, .int .u8 a.kind, .int .u32 a.flags, .int .u64 a.exp, .string a.body]) (.agg #[.string b.key, .int .u64 b.s.p, .int .u32 b.s.l, .int .u8 b.s.n, .int .u8 b.kind, .int .u32 b.flags, .int .u64 b.exp, .string b.body])).run Try.prog w = .ok (sameR a b) w := by
  go_simp
  unfold sameR sameT same
  repeat' split
  all_goals simp_all
theorem eq_self (a : R) (w : World) : (Op.equalIn 10000 27 (.agg #[.string a.key, .int .u64 a.s.p, .int .u32 a.s.l, .int .u8 a.s.n, .int .u8 a.kind, .int .u32 a.flags, .int .u64 a.exp, .string a.body]) (.agg #[.string a.key, .int .u64 a.s.p, .int .u32 a.s.l, .int .u8 a.s.n, .int .u8 a.kind, .int .u32 a.flags, .int .u64 a.exp, .string a.body])).run Try.prog w = .ok true w := by
  rw [eq_rec, (sameR_iff a a).2 rfl]
end Go.Proofs.Ytnkfhacmkimncaa
