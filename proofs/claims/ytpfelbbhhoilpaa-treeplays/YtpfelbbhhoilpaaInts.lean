/- Rows of numbers in memory: rows that are read (Rw, Ra) and rows of one's own (Own). -/
import Derived.Test.YtpfelbbhhoilpaaFlip
import Derived.Deep.Upon
import Derived.Laws.AppendOwn
import Derived.Maps.AppendAt
import Derived.Deep.DeepMust
import Derived.Laws.CopyRow
import Derived.Deep.MidRow
import Derived.Deep.WholeRow
namespace Go.Proofs.Ytpfelbbhhoilpaa
open Go.ChangeShapes Go.WideShapes Go.ChangeAt Go.RowKit
set_option linter.unusedVariables false
set_option linter.unusedSimpArgs false
set_option maxRecDepth 100000

/- Blocks of one's own may have turned, all else that was there stands. -/
def Tn (F : Nat → Prop) (w w' : World) : Prop :=
  w'.os = w.os ∧ w'.output = w.output ∧ w.heap.size ≤ w'.heap.size ∧ ∀ k, k < w.heap.size → ¬ F k → w'.heap[k]? = w.heap[k]?
section
variable {F : Nat → Prop} {u v w w' : World}
theorem tn_kept (h : Kept w w') : Tn F w w' := ⟨kept_os h, kept_output h, h.2, fun k hk _ => kept_block h hk⟩
theorem tn_refl : Tn F w w := tn_kept (kept_refl w)
theorem tn_trans (h : Tn F u v) (k : Tn F v w) : Tn F u w :=
  ⟨k.1.trans h.1, k.2.1.trans h.2.1, Nat.le_trans h.2.2.1 k.2.2.1, fun i hi hn => (k.2.2.2 i (Nat.lt_of_lt_of_le hi h.2.2.1) hn).trans (h.2.2.2 i hi hn)⟩
theorem tn_set (h : Tn F u w) {X : Nat} (hX : F X ∨ u.heap.size ≤ X) (o : Nat) (x : Value) : Tn F u (w.setCell ⟨X, o, none⟩ x) :=
  ⟨h.1, h.2.1, by simpa [World.setCell] using h.2.2.1, fun k hk hn => (Below.heap_setCell _ _ _ _ (by
    show k ≠ X
    rintro rfl
    rcases hX with hX | hX
    · exact hn hX
    · omega)).trans (h.2.2.2 k hk hn)⟩
theorem tn_alloc (h : Tn F u w) (o : Obj) : Tn F u (w.alloc o) := tn_trans h (tn_kept (kept_alloc (kept_refl w) o))
theorem tn_grown {row : Option Nat} (h : Tn F u w) (g : w.grownBy w' row) (hr : ∀ k, row = some k → F k) : Tn F u w' :=
  tn_trans h ⟨g.os, g.output, g.size, fun k hk hn => g.block k hk (fun e => hn (hr k e.symm))⟩
theorem at_tn {X T : Nat} {cs : Array Value} (h : At w X cs T) (t : Tn F w w') (hX : ¬ F X) : At w' X cs T := (t.2.2.2 X (at_lt h) hX).trans h
theorem kept_tn {W : World} (h : Kept W w) (hF : ∀ k, F k → W.heap.size ≤ k) (t : Tn F w w') : Kept W w' :=
  kept_of (t.1.trans (kept_os h)) (t.2.1.trans (kept_output h)) (Nat.le_trans h.2 t.2.2.1) (fun i hi => (t.2.2.2 i (Nat.lt_of_lt_of_le hi h.2) (fun hf => by have := hF i hf; omega)).trans (kept_block h hi))
end
def rv (kd : IntKind) (xs : List Int) : List Value := xs.map (Value.int kd)
def cs (l : List Nat) : List Int := l.map Int.ofNat
theorem rv_len (kd : IntKind) (xs : List Int) : (rv kd xs).length = xs.length := by unfold rv; simp
theorem rv_get {kd : IntKind} {xs : List Int} {i : Nat} {x : Int} (h : xs[i]? = some x) : (rv kd xs)[i]? = some (.int kd x) := by unfold rv; simp [h]
theorem rv_one (kd : IntKind) (xs : List Int) : ∀ u ∈ rv kd xs, u.oneCell' = true := by
  intro u hu
  unfold rv at hu
  simp at hu
  obtain ⟨y, _, rfl⟩ := hu
  rfl
theorem cs_len (l : List Nat) : (cs l).length = l.length := by unfold cs; simp
theorem cs_app (l m : List Nat) : cs (l ++ m) = cs l ++ cs m := by unfold cs; simp
theorem rv_app (kd : IntKind) (l m : List Int) : rv kd (l ++ m) = rv kd l ++ rv kd m := by unfold rv; simp
/- A row that is read. -/
def Rw (kd : IntKind) (w : World) (v : Value) (xs : List Int) : Prop :=
  ∃ a c, v = .slice a xs.length c ∧ (0 < xs.length → ∃ g o, a = some ⟨g, o, none⟩ ∧ ∀ i x, xs[i]? = some x → w.cell? ⟨g, o + i, none⟩ = some (.int kd x))
/- A row of one's own. -/
def Own (kd : IntKind) (T : Nat) (w : World) (B : Nat) (v : Value) (xs : List Int) : Prop := w.ownsRow B T 1 v xs.length (rv kd xs)
section
variable {kd : IntKind} {T : Nat} {w w' : World} {B : Nat} {v : Value} {xs : List Int}
theorem rw_kept (h : Rw kd w v xs) (k : Kept w w') : Rw kd w' v xs := by
  obtain ⟨a, c, rfl, h⟩ := h
  refine ⟨a, c, rfl, fun hp => ?_⟩
  obtain ⟨g, o, rfl, hc⟩ := h hp
  exact ⟨g, o, rfl, fun i x hx => (kept_cell k (cell_lt (hc i x hx))).trans (hc i x hx)⟩
theorem own_block (h : Own kd T w B v xs) (k : ∀ g cur, v.ownBlock = some g → At w g cur T → w'.heap[g]? = w.heap[g]?) : Own kd T w' B v xs := by
  refine ⟨h.1, ?_⟩
  rcases h.2 with hn | ⟨g, cap, cur, rfl, hb, hg, rest⟩
  · exact .inl hn
  · exact .inr ⟨g, cap, cur, rfl, hb, (k g cur rfl hg).trans hg, rest⟩
theorem own_stays (h : Own kd T w B v xs) (k : Kept w w') : Own kd T w' B v xs := own_block h (fun g cur _ ha => kept_block k (at_lt ha))
theorem own_set (h : Own kd T w B v xs) {P : Nat} (hP : P < B) (o : Nat) (x : Value) : Own kd T (w.setCell ⟨P, o, none⟩ x) B v xs := by
  refine ⟨h.1, ?_⟩
  rcases h.2 with hn | ⟨g, cap, cur, rfl, hb, hg, rest⟩
  · exact .inl hn
  · exact .inr ⟨g, cap, cur, rfl, hb, (Below.heap_setCell _ _ _ _ (by show g ≠ P; omega)).trans hg, rest⟩
theorem own_low {B' : Nat} (h : Own kd T w B v xs) (hb : B' ≤ B) : Own kd T w B' v xs := by
  refine ⟨h.1, ?_⟩
  rcases h.2 with hn | ⟨g, cap, cur, rfl, hg, rest⟩
  · exact .inl hn
  · exact .inr ⟨g, cap, cur, rfl, Nat.le_trans hb hg, rest⟩
theorem rw_own (h : Own kd T w B v xs) : Rw kd w v xs := by
  rcases h.2 with ⟨rfl, hn⟩ | ⟨g, cap, cur, rfl, hb, hg, rest⟩
  · exact ⟨none, 0, by rw [hn], fun hp => absurd hp (by omega)⟩
  · refine ⟨_, cap, rfl, fun _ => ⟨g, 0, rfl, fun i x hx => ?_⟩⟩
    have := World.ownsRow.cells h (g := g) rfl i (.int kd x) (rv_get hx)
    rw [← this]
    rcases Nat.eq_zero_or_pos i with h0 | h0
    · subst h0; simp [Addr.add]
    · rw [show (⟨g, 0, none⟩ : Addr).add i = ⟨g, 0 + i, none⟩ by simp [Addr.add]; omega]
theorem own_nil (kd : IntKind) (T : Nat) (w : World) (B : Nat) : Own kd T w B (.slice none 0 0) [] := World.ownsRow_nil w B T 1
/- A row as it is built. -/
theorem own_built (kd : IntKind) (T : Nat) (w : World) (B : Nat) (hB : B ≤ w.heap.size) (xs : List Int) (hm : xs.length ≤ 4096) : Own kd T (w.alloc (.cells (rv kd xs).toArray T)) B (.slice (some ⟨w.heap.size, 0, none⟩) xs.length xs.length) xs := by
  refine ⟨by rw [rv_len, Nat.mul_one], .inr ⟨w.heap.size, xs.length, _, rfl, hB, at_new w _ T, Nat.le_refl _, by unfold maxLen; omega, by simp [rv_len], ?_⟩⟩
  have h1 : xs.length * 1 = (rv kd xs).length := by rw [rv_len, Nat.mul_one]
  rw [h1]
  simp
theorem own_len {m : Nat} (h : w.ownsRow B T 1 v m (rv kd xs)) (e : xs.length = m) : Own kd T w B v xs := by subst e; exact h
theorem own_lt (h : Own kd T w B v xs) {g : Nat} (hg : v.ownBlock = some g) : B ≤ g := (World.ownsRow.lt h g hg).1
theorem own_is (h : Own kd T w B v xs) : ∃ a c, v = .slice a xs.length c := by
  obtain ⟨a, c, e, _⟩ := rw_own h
  exact ⟨a, c, e⟩
end
theorem info3 : (Try.prog.info? 3).map (fun i => (i.zero, i.size, i.bytes)) = some (some (.int .i64 0), 1, 8) := by kernel_rfl
theorem info26 : (Try.prog.info? 26).map (fun i => (i.zero, i.size, i.bytes)) = some (some (.int .u64 0), 1, 8) := by kernel_rfl
theorem cell_one (w : World) (T : Nat) (x : Value) : ∀ (j : Nat) (u : Value), ([x] : List Value)[j]? = some u → (w.alloc (.cells #[x] T)).cell? ((⟨w.heap.size, 0, none⟩ : Addr).add j) = some u := by
  intro j u hu
  match j, hu with
  | 0, hu =>
    simp at hu
    subst hu
    exact at_cell (at_new w #[x] T) 0
  | j + 1, hu => simp at hu
theorem one_one (kd : IntKind) (x : Int) : ∀ u ∈ ([.int kd x] : List Value), u.oneCell' = true := by intro u hu; simp at hu; subst hu; rfl
theorem kept_grown {W w w' : World} {row : Option Nat} (h : Kept W w) (g : w.grownBy w' row) (hr : ∀ k, row = some k → W.heap.size ≤ k) : Kept W w' :=
  kept_of (g.os.trans (kept_os h)) (g.output.trans (kept_output h)) (Nat.le_trans h.2 g.size) (fun i hi => (g.block i (Nat.lt_of_lt_of_le hi h.2) (fun e => by have := hr i e.symm; omega)).trans (kept_block h hi))
/- What a call answers that makes a row. -/
def RowC (kd : IntKind) (T : Nat) (xs : List Int) (w : World) (e : Ending) (w' : World) : Prop := ∃ v, e = .returned v ∧ Own kd T w' w.heap.size v xs ∧ Kept w w'
/- A row of numbers that is read, as a function. -/
def Ra (w : World) (v : Value) (N : Nat → Int) (n : Nat) : Prop :=
  ∃ a c, v = .slice a n c ∧ (0 < n → ∃ g o, a = some ⟨g, o, none⟩ ∧ ∀ i, i < n → w.cell? ⟨g, o + i, none⟩ = some (.int .u64 (N i)))
theorem ra_kept {w w' : World} {v : Value} {N : Nat → Int} {n : Nat} (h : Ra w v N n) (k : Kept w w') : Ra w' v N n := by
  obtain ⟨a, c, rfl, h⟩ := h
  refine ⟨a, c, rfl, fun hp => ?_⟩
  obtain ⟨g, o, rfl, hc⟩ := h hp
  exact ⟨g, o, rfl, fun i hi => (kept_cell k (cell_lt (hc i hi))).trans (hc i hi)⟩
theorem ra_ext {w : World} {v : Value} {N M : Nat → Int} {n : Nat} (h : Ra w v N n) (e : ∀ i, i < n → N i = M i) : Ra w v M n := by
  obtain ⟨a, c, rfl, h⟩ := h
  refine ⟨a, c, rfl, fun hp => ?_⟩
  obtain ⟨g, o, rfl, hc⟩ := h hp
  exact ⟨g, o, rfl, fun i hi => by rw [← e i hi]; exact hc i hi⟩
theorem ra_at {w : World} {G T n c : Nat} {N : Nat → Int} {m : Nat} (h : At w G (nv N m) T) (hn : n ≤ m) : Ra w (.slice (some ⟨G, 0, none⟩) n c) N n :=
  ⟨_, _, rfl, fun _ => ⟨G, 0, rfl, fun i hi => by rw [Nat.zero_add, at_cell h, nv_get N (by omega)]⟩⟩
set_option maxHeartbeats 1600000 in
theorem same_any (xs : List Int) (hn : xs.length ≤ 4096) (va vb : Value) (w : World) (ha : Rw .i64 w va xs) (hb : Rw .i64 w vb xs) :
    Calls Try.prog 20 #[va, vb] w fun e w' => e = .returned (.bool true) ∧ Kept w w' := by
  obtain ⟨a, c, rfl, h1⟩ := ha
  obtain ⟨b, d, rfl, h2⟩ := hb
  have H1 := hid h1
  have H2 := hid h2
  have HX : Hid (∀ k, k < xs.length → ∃ x, xs[k]? = some x) := hid (fun k h => ⟨xs[k], by simp [h]⟩)
  clear h1 h2
  generalize hm : xs.length = m at *
  have HM := hid hm
  clear hm
  go_enter Try.func20, Try.ntmps20
  go_wp2_with fail
  go_loopw [13] (fun j wr => ∃ k : Nat, k ≤ m ∧ j = .int .i64 k ∧ Hid (Kept w wr)) (fun j _ => m - (intOf j).toNat)
  case atStart => exact ⟨0, Nat.zero_le _, rfl, hid (kept_refl w)⟩
  case round =>
    obtain ⟨k, hk, rfl, HK⟩ := hrel
    by_cases hlt : k < m
    · obtain ⟨g1, o1, rfl, h3⟩ := H1.out (by omega)
      obtain ⟨g2, o2, rfl, h4⟩ := H2.out (by omega)
      obtain ⟨x, hx⟩ := HX.out k hlt
      have e1 := h3 k _ hx
      have e2 := h4 k _ hx
      have c1 := (kept_cell HK.out (cell_lt e1)).trans e1
      have c2 := (kept_cell HK.out (cell_lt e2)).trans e2
      have hne : (x != x) = false := by simp
      clear h3 h4 e1 e2 hx
      go_wp2_with fail
      go_quiet (fail)
      go_wp2_with fail
      go_roundw
      case rel => exact ⟨k + 1, by omega, by go_num, hid (kept_drewN HK.out _)⟩
      case measure => simp [intOf]; omega
    · have he : k = m := by omega
      subst he
      go_wp2_with fail
      go_ret
      exact ⟨rfl, HK.out⟩
set_option maxHeartbeats 1600000 in
theorem sameu_any (N : Nat → Int) (m : Nat) (hn : m ≤ 4096) (va vb : Value) (w : World) (ha : Ra w va N m) (hb : Ra w vb N m) :
    Calls Try.prog 16 #[va, vb] w fun e w' => e = .returned (.bool true) ∧ Kept w w' := by
  obtain ⟨a, c, rfl, h1⟩ := ha
  obtain ⟨b, d, rfl, h2⟩ := hb
  have H1 := hid h1
  have H2 := hid h2
  clear h1 h2
  go_enter Try.func16, Try.ntmps16
  go_wp2_with fail
  go_loopw [13] (fun j wr => ∃ k : Nat, k ≤ m ∧ j = .int .i64 k ∧ Hid (Kept w wr)) (fun j _ => m - (intOf j).toNat)
  case atStart => exact ⟨0, Nat.zero_le _, rfl, hid (kept_refl w)⟩
  case round =>
    obtain ⟨k, hk, rfl, HK⟩ := hrel
    by_cases hlt : k < m
    · obtain ⟨g1, o1, rfl, h3⟩ := H1.out (by omega)
      obtain ⟨g2, o2, rfl, h4⟩ := H2.out (by omega)
      have e1 := h3 k hlt
      have e2 := h4 k hlt
      have c1 := (kept_cell HK.out (cell_lt e1)).trans e1
      have c2 := (kept_cell HK.out (cell_lt e2)).trans e2
      generalize N k = x at *
      have hne : (x != x) = false := by simp
      clear h3 h4 e1 e2
      go_wp2_with fail
      go_quiet (fail)
      go_wp2_with fail
      go_roundw
      case rel => exact ⟨k + 1, by omega, by go_num, hid (kept_drewN HK.out _)⟩
      case measure => simp [intOf]; omega
    · have he : k = m := by omega
      subst he
      go_wp2_with fail
      go_ret
      exact ⟨rfl, HK.out⟩
end Go.Proofs.Ytpfelbbhhoilpaa
