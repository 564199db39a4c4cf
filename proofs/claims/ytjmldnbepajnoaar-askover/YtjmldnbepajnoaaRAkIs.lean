/- What the landed requests must answer, as the laws' walks take it. -/
import Derived.Test.YtjmldnbepajnoaaRAkRows
namespace Go.Proofs.YtjmldnbepajnoaaR
open Go.ChangeShapes Go.WideShapes Go.ChangeAt Go.RowKit
set_option linter.unusedVariables false
set_option linter.unusedSimpArgs false
set_option maxRecDepth 100000

def OneK (a : Aq) : Prop := ∃ K, Ga K a
def inU64 (x : Int) : Prop := 0 ≤ x ∧ x < 18446744073709551616
structure AskIs (T : Shape Aq) : Prop where
  obj : ObjIs T
  new : ∀ (l : List Int) (u : Int) (v : Value) (w : World), U8 l → l.length ≤ 100 → inU64 u → Rg encU 1 w v l → Calls Try.prog 8 #[v, .int .u64 u] w fun e w' => ∃ X F, e = .returned (.pointer (some ⟨X, 0, none⟩)) ∧ T w' X (newQ l u) F ∧ Kept w w' ∧ ∀ b, F b → w.heap.size ≤ b
  take : ∀ (X : Nat) (a : Aq) (F : Nat → Prop) (n : Int) (x : Rp) (w : World), T w X a F → OneK a → okU n → RpOk x → Calls Try.prog 9 #[.pointer (some ⟨X, 0, none⟩), .int .u8 n, .agg #[.bool x.has, .bool x.past, .string x.r.key, .int .u64 x.r.s.p, .int .u32 x.r.s.l, .int .u8 x.r.s.n, .int .u8 x.r.kind, .int .u32 x.r.flags, .int .u64 x.r.exp, .string x.r.body]] w fun e w' => ∃ F', e = .returned (.bool (mayT a n)) ∧ T w' X (takeQ a n x) F' ∧ Sd F w F' w'
  over : ∀ (X : Nat) (a : Aq) (F : Nat → Prop) (now : Int) (w : World), T w X a F → OneK a → inU64 now → Calls Try.prog 14 #[.pointer (some ⟨X, 0, none⟩), .int .u64 now] w fun e w' => e = .returned (.bool (overQ a now)) ∧ Kept w w'
  yes : ∀ (X : Nat) (a : Aq) (F : Nat → Prop) (w : World), T w X a F → OneK a → Calls Try.prog 11 #[.pointer (some ⟨X, 0, none⟩)] w fun e w' => e = .returned (.int .i64 ((hasL a).length : Int)) ∧ Kept w w'
  best : ∀ (X : Nat) (a : Aq) (F : Nat → Prop) (w : World), T w X a F → OneK a → Calls Try.prog 10 #[.pointer (some ⟨X, 0, none⟩)] w fun e w' => e = .returned (.tuple #[.agg #[.string (bestQ a).key, .int .u64 (bestQ a).s.p, .int .u32 (bestQ a).s.l, .int .u8 (bestQ a).s.n, .int .u8 (bestQ a).kind, .int .u32 (bestQ a).flags, .int .u64 (bestQ a).exp, .string (bestQ a).body], .bool (liveQ a), .bool (someQ a)]) ∧ Kept w w'
  behind : ∀ (X : Nat) (a : Aq) (F : Nat → Prop) (w : World), T w X a F → OneK a → Calls Try.prog 13 #[.pointer (some ⟨X, 0, none⟩)] w fun e w' => ∃ r, e = .returned r ∧ Og encU 1 5 w' w.heap.size r (behQ a) ∧ Kept w w'
  take_nil : ∀ (n : Int) (x : Rp) (w : World), okU n → RpOk x → Calls Try.prog 9 #[.pointer none, .int .u8 n, .agg #[.bool x.has, .bool x.past, .string x.r.key, .int .u64 x.r.s.p, .int .u32 x.r.s.l, .int .u8 x.r.s.n, .int .u8 x.r.kind, .int .u32 x.r.flags, .int .u64 x.r.exp, .string x.r.body]] w fun e w' => e = .returned (.bool false) ∧ Kept w w'
  over_nil : ∀ (now : Int) (w : World), inU64 now → Calls Try.prog 14 #[.pointer none, .int .u64 now] w fun e w' => e = .returned (.bool true) ∧ Kept w w'
  yes_nil : ∀ (w : World), Calls Try.prog 11 #[.pointer none] w fun e w' => e = .returned (.int .i64 0) ∧ Kept w w'
  best_nil : ∀ (w : World), Calls Try.prog 10 #[.pointer none] w fun e w' => ∃ (r : R) (b : Bool), e = .returned (.tuple #[.agg #[.string r.key, .int .u64 r.s.p, .int .u32 r.s.l, .int .u8 r.s.n, .int .u8 r.kind, .int .u32 r.flags, .int .u64 r.exp, .string r.body], .bool b, .bool false]) ∧ Kept w w'
  behind_nil : ∀ (w : World), Calls Try.prog 13 #[.pointer none] w fun e w' => ∃ a cap, e = .returned (.slice a 0 cap) ∧ Kept w w'
section
variable {T : Shape Aq} {W w w' : World} {X : Nat} {a : Aq} {F F' : Nat → Prop}
theorem ak_new (hT : AskIs T) (kw : Kept W w) {l : List Int} {u : Int} {v : Value} (h1 : U8 l) (h2 : l.length ≤ 100) (h3 : inU64 u) (hr : Rg encU 1 w v l) : Calls Try.prog 8 #[v, .int .u64 u] w fun e w' => ∃ X F, e = .returned (.pointer (some ⟨X, 0, none⟩)) ∧ TT T W X (newQ l u) F w' ∧ Kept w w' ∧ ∀ b, F b → w.heap.size ≤ b :=
  (hT.new l u v w h1 h2 h3 hr).mono (by
    rintro e w' ⟨X, F, rfl, ht, kk, hf⟩
    exact ⟨X, F, rfl, ⟨ht, kept_trans kw kk, fun b hb => Nat.le_trans kw.2 (hf b hb)⟩, kk, hf⟩)
theorem ak_take (hT : AskIs T) (h : TT T W X a F w) (g : OneK a) {n : Int} {x : Rp} (hn : okU n) (hx : RpOk x) : Calls Try.prog 9 #[.pointer (some ⟨X, 0, none⟩), .int .u8 n, .agg #[.bool x.has, .bool x.past, .string x.r.key, .int .u64 x.r.s.p, .int .u32 x.r.s.l, .int .u8 x.r.s.n, .int .u8 x.r.kind, .int .u32 x.r.flags, .int .u64 x.r.exp, .string x.r.body]] w fun e w' => ∃ F', e = .returned (.bool (mayT a n)) ∧ TT T W X (takeQ a n x) F' w' ∧ Sd F w F' w' :=
  (hT.take X a F n x w h.t g hn hx).mono (by
    rintro e w' ⟨F', rfl, ht, d⟩
    exact ⟨F', rfl, tt_sd h ht d, d⟩)
end
end Go.Proofs.YtjmldnbepajnoaaR
