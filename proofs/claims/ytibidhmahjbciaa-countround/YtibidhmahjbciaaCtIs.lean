/- What the landed counts must answer, as the laws' walks take it; which closed rows of names may be. -/
import Derived.Test.YtibidhmahjbciaaCtRef
namespace Go.Proofs.Ytibidhmahjbciaa
open Go.ChangeShapes Go.WideShapes Go.ChangeAt Go.RowKit
set_option linter.unusedVariables false
set_option linter.unusedSimpArgs false
set_option maxRecDepth 100000

def LsOk (l : List Ct) : Prop := l.length ≤ 4096 ∧ CtsOk l
/- A text as it may be: at most 2^47 bytes. -/
def QOk (q : ByteArray) : Prop := q.size ≤ 140737488355328
theorem qok_len {q : ByteArray} (h : QOk q) : q.size ≤ maxLen := Nat.le_trans h (by decide)
/- A text as Go takes it: what is looked up alone. -/
def TxOk (q : ByteArray) : Prop := q.size ≤ maxLen
theorem tx_one (b : UInt8) : TxOk ⟨#[b]⟩ := show 1 ≤ maxLen from by decide
theorem qok_one (b : UInt8) : QOk ⟨#[b]⟩ := show 1 ≤ 140737488355328 from by decide
def inU64 (x : Int) : Prop := 0 ≤ x ∧ x ≤ 18446744073709551615
structure CtIs (T : Shape (List Ct)) : Prop where
  obj : ObjIs T
  new : ∀ (l : List ByteArray) (v : Value) (w : World), (∀ x ∈ l, QOk x) → Rg encK 1 w v l → Calls Try.prog 8 #[v] w fun e w' => (MayC l ∧ ∃ X F, e = .returned (.tuple #[.pointer (some ⟨X, 0, none⟩), .int .i64 0]) ∧ T w' X (newC l) F ∧ Kept w w' ∧ ∀ b, F b → w.heap.size ≤ b) ∨ (¬ MayC l ∧ e = .returned (.tuple #[.pointer none, .int .i64 1]) ∧ Kept w w')
  add : ∀ (X : Nat) (l : List Ct) (F : Nat → Prop) (q : ByteArray) (n : Int) (w : World), T w X l F → LsOk l → TxOk q → inU64 n → Calls Try.prog 13 #[.pointer (some ⟨X, 0, none⟩), .string q, .int .u64 n] w fun e w' => ∃ F', e = .returned (.bool (hasC l q)) ∧ T w' X (addC l q n) F' ∧ Sd F w F' w'
  get : ∀ (X : Nat) (l : List Ct) (F : Nat → Prop) (q : ByteArray) (w : World), T w X l F → LsOk l → TxOk q → Calls Try.prog 14 #[.pointer (some ⟨X, 0, none⟩), .string q] w fun e w' => e = .returned (.int .u64 (getC l q)) ∧ Kept w w'
  all : ∀ (X : Nat) (l : List Ct) (F : Nat → Prop) (w : World), T w X l F → LsOk l → Calls Try.prog 16 #[.pointer (some ⟨X, 0, none⟩)] w fun e w' => ∃ r, e = .returned r ∧ Og encC 2 46 w' w.heap.size r l ∧ Kept w w'
  reset : ∀ (X : Nat) (l : List Ct) (F : Nat → Prop) (w : World), T w X l F → LsOk l → Calls Try.prog 11 #[.pointer (some ⟨X, 0, none⟩)] w fun e w' => ∃ r F', e = .returned r ∧ Og encC 2 46 w' w.heap.size r l ∧ (∀ g, r.ownBlock = some g → ¬ F' g) ∧ T w' X (restC l) F' ∧ Sd F w F' w'
  add_nil : ∀ (q : ByteArray) (n : Int) (w : World), inU64 n → Calls Try.prog 13 #[.pointer none, .string q, .int .u64 n] w fun e w' => e = .returned (.bool false) ∧ Kept w w'
  get_nil : ∀ (q : ByteArray) (w : World), Calls Try.prog 14 #[.pointer none, .string q] w fun e w' => e = .returned (.int .u64 0) ∧ Kept w w'
  all_nil : ∀ (w : World), Calls Try.prog 16 #[.pointer none] w fun e w' => ∃ a cap, e = .returned (.slice a 0 cap) ∧ Kept w w'
  reset_nil : ∀ (w : World), Calls Try.prog 11 #[.pointer none] w fun e w' => ∃ a cap, e = .returned (.slice a 0 cap) ∧ Kept w w'
theorem new_lsok {l : List ByteArray} (h : MayC l) : LsOk (newC l) := ⟨by rw [new_len]; exact h.2.1, new_ok l⟩
theorem add_lsok {l : List Ct} (h : LsOk l) (q : ByteArray) {n : Int} (hn : inU64 n) : LsOk (addC l q n) := ⟨by rw [add_len]; exact h.1, add_ok h.2 q hn.1⟩
theorem rest_lsok {l : List Ct} (h : LsOk l) : LsOk (restC l) := ⟨by rw [rest_len]; exact h.1, rest_ok l⟩
section
variable {T : Shape (List Ct)} {W w w' : World} {X : Nat} {l : List Ct} {F F' : Nat → Prop}
theorem ct_new (hT : CtIs T) (kw : Kept W w) {q : List ByteArray} {v : Value} (hm : MayC q) (hs : ∀ x ∈ q, QOk x) (hr : Rg encK 1 w v q) : Calls Try.prog 8 #[v] w fun e w' => ∃ X F, e = .returned (.tuple #[.pointer (some ⟨X, 0, none⟩), .int .i64 0]) ∧ TT T W X (newC q) F w' ∧ Kept w w' ∧ ∀ b, F b → w.heap.size ≤ b :=
  (hT.new q v w hs hr).mono (by
    rintro e w' (⟨-, X, F, rfl, ht, kk, hf⟩ | ⟨hn, -⟩)
    · exact ⟨X, F, rfl, ⟨ht, kept_trans kw kk, fun b hb => Nat.le_trans kw.2 (hf b hb)⟩, kk, hf⟩
    · exact absurd hm hn)
theorem ct_add (hT : CtIs T) (h : TT T W X l F w) (g : LsOk l) (q : ByteArray) (hq : TxOk q) {n : Int} (hn : inU64 n) : Calls Try.prog 13 #[.pointer (some ⟨X, 0, none⟩), .string q, .int .u64 n] w fun e w' => ∃ F', e = .returned (.bool (hasC l q)) ∧ TT T W X (addC l q n) F' w' ∧ Sd F w F' w' :=
  (hT.add X l F q n w h.t g hq hn).mono (by
    rintro e w' ⟨F', rfl, ht, d⟩
    exact ⟨F', rfl, tt_sd h ht d, d⟩)
theorem ct_get (hT : CtIs T) (h : TT T W X l F w) (g : LsOk l) (q : ByteArray) (hq : TxOk q) : Calls Try.prog 14 #[.pointer (some ⟨X, 0, none⟩), .string q] w fun e w' => e = .returned (.int .u64 (getC l q)) ∧ TT T W X l F w' ∧ Kept w w' :=
  (hT.get X l F q w h.t g hq).mono (by
    rintro e w' ⟨rfl, kk⟩
    exact ⟨rfl, tt_kept hT.obj h kk, kk⟩)
theorem ct_all (hT : CtIs T) (h : TT T W X l F w) (g : LsOk l) : Calls Try.prog 16 #[.pointer (some ⟨X, 0, none⟩)] w fun e w' => ∃ r, e = .returned r ∧ Og encC 2 46 w' w.heap.size r l ∧ TT T W X l F w' ∧ Kept w w' :=
  (hT.all X l F w h.t g).mono (by
    rintro e w' ⟨r, rfl, ho, kk⟩
    exact ⟨r, rfl, ho, tt_kept hT.obj h kk, kk⟩)
theorem ct_reset (hT : CtIs T) (h : TT T W X l F w) (g : LsOk l) : Calls Try.prog 11 #[.pointer (some ⟨X, 0, none⟩)] w fun e w' => ∃ r F', e = .returned r ∧ Og encC 2 46 w' w.heap.size r l ∧ (∀ g, r.ownBlock = some g → ¬ F' g) ∧ TT T W X (restC l) F' w' ∧ Sd F w F' w' :=
  (hT.reset X l F w h.t g).mono (by
    rintro e w' ⟨r, F', rfl, ho, ha, ht, d⟩
    exact ⟨r, F', rfl, ho, ha, tt_sd h ht d, d⟩)
end
/- Closed rows of names. -/
theorem sameT_no {a b : ByteArray} (h : a ≠ b) : sameT a b = false := by
  cases e : sameT a b with
  | false => rfl
  | true => exact absurd ((sameT_iff a b).1 e) h
theorem may_of (l : List ByteArray) (h0 : 0 < l.length) (h1 : l.length ≤ 4096) (h : ∀ x ∈ l, x ≠ emptyT) (hd : l.Nodup) : MayC l := by
  refine ⟨h0, h1, fun i hi x hx => ⟨sameT_no (h x (List.mem_iff_getElem?.2 ⟨i, hx⟩)), fun j hj y hy => sameT_no (fun e => ?_)⟩⟩
  subst e
  obtain ⟨a1, a2⟩ := List.getElem?_eq_some_iff.1 hx
  obtain ⟨b1, b2⟩ := List.getElem?_eq_some_iff.1 hy
  have := (List.getElem_inj hd).1 (b2.trans a2.symm)
  omega
theorem place_nil (q : ByteArray) : placeC [] q = 0 := rfl
theorem place_yes (n : Int) (l : List Ct) (q : ByteArray) : placeC (⟨q, n⟩ :: l) q = 0 := by
  unfold placeC
  rw [if_pos (sameT_refl q)]
theorem place_no (c : Ct) (l : List Ct) {q : ByteArray} (h : c.name ≠ q) : placeC (c :: l) q = placeC l q + 1 := by
  rw [placeC, if_neg (by rw [sameT_no h]; decide)]
end Go.Proofs.Ytibidhmahjbciaa
