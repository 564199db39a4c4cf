/- What the landed talk must answer, as the laws' walks take it: T says that a talk lies at a place, with what it holds and the blocks that are its own. And the chapter's example. -/
import Derived.Test.YtalcbahnhiibkaaTkRef
namespace Go.Proofs.Ytalcbahnhiibkaa
open Go.ChangeShapes Go.WideShapes Go.ChangeAt Go.RowKit
set_option linter.unusedVariables false
set_option linter.unusedSimpArgs false
set_option maxRecDepth 100000

/- Only what is one's own may turn. -/
def Tn (F : Nat → Prop) (w w' : World) : Prop := w'.os = w.os ∧ w'.output = w.output ∧ w.heap.size ≤ w'.heap.size ∧ ∀ b, b < w.heap.size → ¬ F b → w'.heap[b]? = w.heap[b]?
/- A call turns what is one's own and new blocks alone. -/
def Sd (F : Nat → Prop) (w : World) (F' : Nat → Prop) (w' : World) : Prop := Tn F w w' ∧ ∀ b, F' b → F b ∨ w.heap.size ≤ b
def Shape := World → Nat → Nat → Nat → List Pc → (Nat → Prop) → Prop
def NewC (T : Shape) (n k : Nat) (w : World) (e : Ending) (w' : World) : Prop := ∃ X F, e = .returned (.tuple #[.pointer (some ⟨X, 0, none⟩), .int .i64 0]) ∧ T w' X n k [] F ∧ Kept w w' ∧ ∀ b, F b → w.heap.size ≤ b
def AddC (T : Shape) (X n k : Nat) (l : List Pc) (F : Nat → Prop) (w : World) (e : Ending) (w' : World) : Prop := ∃ F', e = .returned (.int .i64 0) ∧ T w' X n k l F' ∧ Sd F w F' w'
def TakeC (T : Shape) (X n k : Nat) (l : List Pc) (told : List Nw) (F : Nat → Prop) (w : World) (e : Ending) (w' : World) : Prop := ∃ r F', e = .returned r ∧ Rg encN 3 w' r told ∧ T w' X n k l F' ∧ Sd F w F' w'
structure TalkIs (T : Shape) : Prop where
  lt : ∀ {w X n k l F b}, T w X n k l F → F b → b < w.heap.size
  stay : ∀ {w w' X n k l F}, T w X n k l F → (∀ b, F b → w'.heap[b]? = w.heap[b]?) → T w' X n k l F
  new_ok : ∀ (n k : Nat) (w : World), 1 ≤ n → n ≤ 64 → 1 ≤ k → k ≤ 64 → Calls Try.prog 7 #[.int .i64 (n : Int), .int .i64 (k : Int)] w (NewC T n k w)
  new_bad : ∀ (n k : Int) (w : World), ¬ (1 ≤ n ∧ n ≤ 64 ∧ 1 ≤ k ∧ k ≤ 64) → Calls Try.prog 7 #[.int .i64 n, .int .i64 k] w fun e w' => e = .returned (.tuple #[.pointer none, .int .i64 1]) ∧ Kept w w'
  add_ok : ∀ (X n k : Nat) (l : List Pc) (F : Nat → Prop) (x : Nw) (w : World), T w X n k l F → Gd n l → 1 ≤ n → n ≤ 64 → NwOk x → x.node < 64 → Calls Try.prog 12 #[.pointer (some ⟨X, 0, none⟩), .agg #[.int .u8 x.node, .int .u8 x.st, .int .u32 x.inc]] w (AddC T X n k (addP l x) F w)
  add_bad : ∀ (X n k : Nat) (l : List Pc) (F : Nat → Prop) (x : Nw) (w : World), T w X n k l F → Gd n l → NwOk x → 64 ≤ x.node → Calls Try.prog 12 #[.pointer (some ⟨X, 0, none⟩), .agg #[.int .u8 x.node, .int .u8 x.st, .int .u32 x.inc]] w fun e w' => e = .returned (.int .i64 1) ∧ Kept w w'
  take : ∀ (X n k : Nat) (l : List Pc) (F : Nat → Prop) (w : World), T w X n k l F → Gd n l → 1 ≤ n → n ≤ 64 → 1 ≤ k → k ≤ 64 → Calls Try.prog 11 #[.pointer (some ⟨X, 0, none⟩)] w (TakeC T X n k (takeR l n k) (takeT l k) F w)
  len : ∀ (X n k : Nat) (l : List Pc) (F : Nat → Prop) (w : World), T w X n k l F → Gd n l → Calls Try.prog 14 #[.pointer (some ⟨X, 0, none⟩)] w fun e w' => e = .returned (.int .i64 (l.length : Int)) ∧ Kept w w'
  add_nil : ∀ (x : Nw) (w : World), NwOk x → Calls Try.prog 12 #[.pointer none, .agg #[.int .u8 x.node, .int .u8 x.st, .int .u32 x.inc]] w fun e w' => e = .returned (.int .i64 1) ∧ Kept w w'
  take_nil : ∀ (w : World), Calls Try.prog 11 #[.pointer none] w fun e w' => ∃ a cap, e = .returned (.slice a 0 cap) ∧ Kept w w'
  len_nil : ∀ (w : World), Calls Try.prog 14 #[.pointer none] w fun e w' => e = .returned (.int .i64 0) ∧ Kept w w'
/- A talk as a walk knows it: W is the world ahead of all. -/
structure TT (T : Shape) (W : World) (X n k : Nat) (l : List Pc) (F : Nat → Prop) (w : World) : Prop where
  t : T w X n k l F
  g : Gd n l
  k : Kept W w
  f : ∀ b, F b → W.heap.size ≤ b
def Off (w : World) (F : Nat → Prop) (b : Nat) : Prop := b < w.heap.size ∧ ¬ F b
section
variable {T : Shape} {W w w' : World} {X n k : Nat} {l l' : List Pc} {F F' : Nat → Prop} {b : Nat}
theorem off_kept (h : Off w F b) (k : Kept w w') : Off w' F b := ⟨Nat.lt_of_lt_of_le h.1 k.2, h.2⟩
theorem off_sd (h : Off w F b) (s : Sd F w F' w') : Off w' F' b := ⟨Nat.lt_of_lt_of_le h.1 s.1.2.2.1, fun hf => (s.2 b hf).elim h.2 (fun g => by have := h.1; omega)⟩
theorem off_same (h : Off w F b) (s : Sd F w F' w') : w'.heap[b]? = w.heap[b]? := s.1.2.2.2 b h.1 h.2
theorem off_new (hT : TalkIs T) (h : TT T W X n k l F w) (hb : w.heap.size ≤ b) (hb2 : b < w'.heap.size) : Off w' F b := ⟨hb2, fun hf => by have := hT.lt h.t hf; omega⟩
theorem tt_kept (hT : TalkIs T) (h : TT T W X n k l F w) (kk : Kept w w') : TT T W X n k l F w' := ⟨hT.stay h.t (fun b hb => kept_block kk (hT.lt h.t hb)), h.g, kept_trans h.k kk, h.f⟩
theorem tt_sd (h : TT T W X n k l F w) (ht : T w' X n k l' F') (s : Sd F w F' w') (g : Gd n l') : TT T W X n k l' F' w' :=
  ⟨ht, g, kept_of (s.1.1.trans (kept_os h.k)) (s.1.2.1.trans (kept_output h.k)) (Nat.le_trans h.k.2 s.1.2.2.1) (fun i hi => (s.1.2.2.2 i (Nat.lt_of_lt_of_le hi h.k.2) (fun hf => by have := h.f i hf; omega)).trans (kept_block h.k hi)), fun b hb => (s.2 b hb).elim (h.f b) (fun g => Nat.le_trans h.k.2 g)⟩
theorem tt_turned (hT : TalkIs T) (h : TT T W X n k l F w) {m : Nat} (hm : Off w F m) (hw : W.heap.size ≤ m) (t : w.mapTurned w' m) : TT T W X n k l F w' :=
  ⟨hT.stay h.t (fun b hb => turned_block t (hT.lt h.t hb) (fun e => hm.2 (e ▸ hb))), h.g, kept_turned h.k hw t, h.f⟩
theorem off_turned {m : Nat} (h : Off w F b) (t : w.mapTurned w' m) : Off w' F b := ⟨Nat.lt_of_lt_of_le h.1 t.grown.size, h.2⟩
theorem tt_off (h : TT T W X n k l F w) {b : Nat} (hb : b < W.heap.size) : Off w F b := ⟨Nat.lt_of_lt_of_le hb h.k.2, fun hf => by have := h.f b hf; omega⟩
theorem tt_add (hT : TalkIs T) (h : TT T W X n k l F w) (h1 : 1 ≤ n) (h2 : n ≤ 64) {x : Nw} (hx : NwOk x) (hx2 : x.node < 64) : Calls Try.prog 12 #[.pointer (some ⟨X, 0, none⟩), .agg #[.int .u8 x.node, .int .u8 x.st, .int .u32 x.inc]] w fun e w' => e = .returned (.int .i64 0) ∧ ∃ F', TT T W X n k (addP l x) F' w' ∧ Sd F w F' w' :=
  (hT.add_ok X n k l F x w h.t h.g h1 h2 hx hx2).mono (by
    rintro e w' ⟨F', rfl, ht, s⟩
    exact ⟨rfl, F', tt_sd h ht s (gd_add h.g h1 hx hx2), s⟩)
theorem tt_bad (hT : TalkIs T) (h : TT T W X n k l F w) {x : Nw} (hx : NwOk x) (hx2 : 64 ≤ x.node) : Calls Try.prog 12 #[.pointer (some ⟨X, 0, none⟩), .agg #[.int .u8 x.node, .int .u8 x.st, .int .u32 x.inc]] w fun e w' => e = .returned (.int .i64 1) ∧ TT T W X n k l F w' ∧ Kept w w' :=
  (hT.add_bad X n k l F x w h.t h.g hx hx2).mono (by
    rintro e w' ⟨rfl, kk⟩
    exact ⟨rfl, tt_kept hT h kk, kk⟩)
theorem tt_take (hT : TalkIs T) (h : TT T W X n k l F w) (h1 : 1 ≤ n) (h2 : n ≤ 64) (h3 : 1 ≤ k) (h4 : k ≤ 64) : Calls Try.prog 11 #[.pointer (some ⟨X, 0, none⟩)] w fun e w' => ∃ r F', e = .returned r ∧ Rg encN 3 w' r (takeT l k) ∧ TT T W X n k (takeR l n k) F' w' ∧ Sd F w F' w' :=
  (hT.take X n k l F w h.t h.g h1 h2 h3 h4).mono (by
    rintro e w' ⟨r, F', rfl, hr, ht, s⟩
    exact ⟨r, F', rfl, hr, tt_sd h ht s (gd_take h.g k), s⟩)
theorem tt_len (hT : TalkIs T) (h : TT T W X n k l F w) : Calls Try.prog 14 #[.pointer (some ⟨X, 0, none⟩)] w fun e w' => e = .returned (.int .i64 (l.length : Int)) ∧ TT T W X n k l F w' ∧ Kept w w' :=
  (hT.len X n k l F w h.t h.g).mono (by
    rintro e w' ⟨rfl, kk⟩
    exact ⟨rfl, tt_kept hT h kk, kk⟩)
theorem tt_new (hT : TalkIs T) (kw : Kept W w) (h1 : 1 ≤ n) (h2 : n ≤ 64) (h3 : 1 ≤ k) (h4 : k ≤ 64) : Calls Try.prog 7 #[.int .i64 (n : Int), .int .i64 (k : Int)] w fun e w' => ∃ X F, e = .returned (.tuple #[.pointer (some ⟨X, 0, none⟩), .int .i64 0]) ∧ TT T W X n k [] F w' ∧ Kept w w' :=
  (hT.new_ok n k w h1 h2 h3 h4).mono (by
    rintro e w' ⟨X, F, rfl, ht, kk, hf⟩
    exact ⟨X, F, rfl, ⟨ht, gd_nil n, kept_trans kw kk, fun b hb => Nat.le_trans kw.2 (hf b hb)⟩, kk⟩)
end
/- The example. -/
def fxn : Nat → Int
  | 0 => 7
  | 1 => 5
  | 2 => 7
  | _ => 5
def fxs : Nat → List Pc
  | 0 => [⟨⟨7, 0, 0⟩, 0⟩, ⟨⟨5, 0, 0⟩, 0⟩]
  | 1 => [⟨⟨7, 0, 0⟩, 1⟩, ⟨⟨5, 0, 0⟩, 0⟩]
  | 2 => [⟨⟨7, 0, 0⟩, 1⟩, ⟨⟨5, 0, 0⟩, 1⟩]
  | 3 => [⟨⟨5, 0, 0⟩, 1⟩]
  | _ => []
theorem fx_add : addP (addP [] ⟨5, 0, 0⟩) ⟨7, 0, 0⟩ = fxs 0 := rfl
theorem fx_take : ∀ i, i < 4 → takeT (fxs i) 1 = [⟨fxn i, 0, 0⟩] ∧ takeR (fxs i) 2 1 = fxs (i + 1)
  | 0, _ => ⟨rfl, rfl⟩
  | 1, _ => ⟨rfl, rfl⟩
  | 2, _ => ⟨rfl, rfl⟩
  | 3, _ => ⟨rfl, rfl⟩
  | i + 4, h => by omega
theorem fx_last : takeT (fxs 4) 1 = [] ∧ takeR (fxs 4) 2 1 = [] := ⟨rfl, rfl⟩
theorem cells4 {w : World} {X T : Nat} {a0 a1 a2 a3 : Value} (h : At w X #[a0, a1, a2, a3] T) : w.cell? ⟨X, 0, none⟩ = some a0 ∧ w.cell? ⟨X, 1, none⟩ = some a1 ∧ w.cell? ⟨X, 2, none⟩ = some a2 ∧ w.cell? ⟨X, 3, none⟩ = some a3 := ⟨at_cell h 0, at_cell h 1, at_cell h 2, at_cell h 3⟩
theorem fx_cell {w : World} {Z T : Nat} (h : At w Z #[.int .u8 7, .int .u8 5, .int .u8 7, .int .u8 5] T) : ∀ i, i < 4 → w.cell? ⟨Z, i, none⟩ = some (.int .u8 (fxn i))
  | 0, _ => at_cell h 0
  | 1, _ => at_cell h 1
  | 2, _ => at_cell h 2
  | 3, _ => at_cell h 3
  | i + 4, h => by omega
set_option maxHeartbeats 3200000 in
theorem fixed_any {T : Shape} (hT : TalkIs T) (w : World) : Calls Try.prog 8 #[] w fun e w' => e = .returned (.bool true) ∧ Kept w w' := by
  have HT := hid hT
  have hN := tt_new (T := T) (W := w) (n := 2) (k := 1) hT (kept_refl w) (by decide) (by decide) (by decide) (by decide)
  clear hT
  have hz := zeroN
  go_enter Try.func8, Try.ntmps8
  go_wp2_with fail
  refine hN.mono ?_
  rintro e w1 ⟨X, F, rfl, t1, -⟩
  have hA := tt_add HT.out t1 (by decide) (by decide) (x := ⟨5, 0, 0⟩) (by unfold NwOk; decide) (by decide)
  clear t1 hN
  go_wp2_with fail
  refine hA.mono ?_
  rintro e w2 ⟨rfl, F2, t2, -⟩
  have hA2 := tt_add HT.out t2 (by decide) (by decide) (x := ⟨7, 0, 0⟩) (by unfold NwOk; decide) (by decide)
  rw [fx_add] at hA2
  clear t2 hA
  go_wp2_with fail
  refine hA2.mono ?_
  rintro e w3 ⟨rfl, F3, t3, -⟩
  have HZ := hid (at_new w3 #[.int .u8 7, .int .u8 5, .int .u8 7, .int .u8 5] 5)
  have k4 := kept_alloc (kept_refl w3) (.cells #[.int .u8 7, .int .u8 5, .int .u8 7, .int .u8 5] 5)
  have HT4 := hid (tt_kept HT.out t3 k4)
  have HO4 := hid (off_new HT.out t3 (Nat.le_refl _) (at_lt HZ.out))
  clear hA2 t3 k4
  go_wp2_with fail
  clear hz
  generalize w3.alloc (.cells #[.int .u8 7, .int .u8 5, .int .u8 7, .int .u8 5] 5) = w4 at *
  generalize w3.heap.size = Z at *
  go_loopw [24] (fun iv wr => ∃ (i : Nat) (F' : Nat → Prop), i ≤ 4 ∧ iv = .int .i64 (i : Int) ∧ Hid (TT T w X 2 1 (fxs i) F' wr) ∧ Hid (Off wr F' Z) ∧ Hid (At wr Z #[.int .u8 7, .int .u8 5, .int .u8 7, .int .u8 5] 5)) (fun iv _ => 4 - (intOf iv).toNat)
  case atStart => exact ⟨0, F3, by omega, rfl, HT4, HO4, HZ⟩
  case round =>
    obtain ⟨i, F', hi, rfl, HTr, HOr, HZr⟩ := hrel
    clear HT4 HO4 HZ
    by_cases hlt : i < 4
    · have c0 := fx_cell HZr.out i hlt
      obtain ⟨e1, e2⟩ := fx_take i hlt
      have hK := tt_take HT.out HTr.out (by decide) (by decide) (by decide) (by decide)
      rw [e1, e2] at hK
      have HI := hid hlt
      clear e1 e2
      go_wp2_with fail
      refine hK.mono ?_
      rintro e w5 ⟨r, F5, rfl, r5, t5, s5⟩
      have HT5 := hid t5
      have HO5 := hid (off_sd HOr.out s5)
      have HZ5 : Hid (At w5 Z #[.int .u8 7, .int .u8 5, .int .u8 7, .int .u8 5] 5) := hid ((off_same HOr.out s5).trans HZr.out)
      obtain ⟨g, o, cp, rfl⟩ := rg_pos r5 (by simp)
      obtain ⟨d0, -, -⟩ := rg_N r5 (i := 0) rfl
      rw [Nat.zero_mul, Nat.add_zero] at d0
      clear t5 s5 hK HTr HOr HZr r5 c0
      have hne : (fxn i != fxn i) = false := by simp
      simp only [List.length_singleton]
      go_wp2_with fail
      go_roundw
      case rel => exact ⟨i + 1, F5, by have := HI.out; omega, by go_num, HT5, HO5, HZ5⟩
      case measure => have := HI.out; simp [intOf]; omega
    · have he : i = 4 := by omega
      subst he
      have hK := tt_take HT.out HTr.out (by decide) (by decide) (by decide) (by decide)
      rw [fx_last.1, fx_last.2] at hK
      go_wp2_with fail
      refine hK.mono ?_
      rintro e w5 ⟨r, F5, rfl, r5, t5, s5⟩
      obtain ⟨a, cp, rfl, -, -, -, -⟩ := r5
      have hL := tt_len HT.out t5
      clear hK s5 t5
      simp only [List.length_nil]
      go_wp2_with fail
      refine hL.mono ?_
      rintro e w6 ⟨rfl, t6, k6⟩
      have HK6 := hid t6.k
      clear hL t6 k6
      simp only [List.length_nil]
      go_wp2_with fail
      go_ret
      exact ⟨rfl, HK6.out⟩
end Go.Proofs.Ytalcbahnhiibkaa
