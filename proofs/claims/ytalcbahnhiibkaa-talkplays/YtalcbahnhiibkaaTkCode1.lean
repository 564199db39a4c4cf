/- The landed talk in memory (TkT), and the contracts of its small functions: may, New, Len, and those of a nil talk; of the two closures that say which pieces go, and of the comparison by which the places are sorted. -/
import Derived.Test.YtalcbahnhiibkaaTkIs
import Derived.Test.YtalcbahnhiibkaaGCut
import Derived.Test.YtalcbahnhiibkaaSrtAll
import Derived.Test.YtalcbahnhiibkaaSrtStab
namespace Go.Proofs.Ytalcbahnhiibkaa
open Go.ChangeShapes Go.WideShapes Go.ChangeAt Go.RowKit
set_option linter.unusedVariables false
set_option linter.unusedSimpArgs false
set_option maxRecDepth 100000

def TkT : Shape := fun w X n k l F => ∃ v, At w X #[.int .i64 (n : Int), .int .i64 (k : Int), v] 54 ∧ Og encP 4 62 w 0 v l ∧ ∀ b, F b ↔ (b = X ∨ v.ownBlock = some b)
theorem tk_lt {w : World} {X n k : Nat} {l : List Pc} {F : Nat → Prop} {b : Nat} (h : TkT w X n k l F) (hb : F b) : b < w.heap.size := by
  obtain ⟨v, hA, hO, hF⟩ := h
  rcases (hF b).1 hb with rfl | hb
  · exact at_lt hA
  · exact (World.ownsRow.lt hO b hb).2
theorem tk_stay {w w' : World} {X n k : Nat} {l : List Pc} {F : Nat → Prop} (h : TkT w X n k l F) (hs : ∀ b, F b → w'.heap[b]? = w.heap[b]?) : TkT w' X n k l F := by
  obtain ⟨v, hA, hO, hF⟩ := h
  exact ⟨v, (hs X ((hF X).2 (Or.inl rfl))).trans hA, og_block hO (fun g cur hg _ => hs g ((hF g).2 (Or.inr hg))), hF⟩
theorem may_any (n : Int) (w : World) : Calls Try.prog 15 #[.int .i64 n] w fun e w' => e = .returned (.bool (decide (1 ≤ n ∧ n ≤ 64))) ∧ w' = w := by
  by_cases h1 : 1 ≤ n
  · by_cases h2 : n ≤ 64
    · rw [decide_eq_true (p := 1 ≤ n ∧ n ≤ 64) ⟨h1, h2⟩]
      go_enter Try.func15, Try.ntmps15
      go_wp2
      go_ret
      exact ⟨rfl, rfl⟩
    · rw [decide_eq_false (p := 1 ≤ n ∧ n ≤ 64) (fun hh => h2 hh.2)]
      go_enter Try.func15, Try.ntmps15
      go_wp2
      go_ret
      exact ⟨rfl, rfl⟩
  · rw [decide_eq_false (p := 1 ≤ n ∧ n ≤ 64) (fun hh => h1 hh.1)]
    go_enter Try.func15, Try.ntmps15
    go_wp2
    go_ret
    exact ⟨rfl, rfl⟩
theorem new_is (n k : Nat) (w : World) (h1 : 1 ≤ n) (h2 : n ≤ 64) (h3 : 1 ≤ k) (h4 : k ≤ 64) : Calls Try.prog 7 #[.int .i64 (n : Int), .int .i64 (k : Int)] w (NewC TkT n k w) := by
  have hA := fun u => may_any (n : Int) u
  have hB := fun u => may_any (k : Int) u
  rw [decide_eq_true (p := 1 ≤ (n : Int) ∧ (n : Int) ≤ 64) (by omega)] at hA
  rw [decide_eq_true (p := 1 ≤ (k : Int) ∧ (k : Int) ≤ 64) (by omega)] at hB
  have HN := hid (at_new w #[.int .i64 (n : Int), .int .i64 (k : Int), .slice none 0 0] 54)
  have HK := hid (kept_alloc (kept_refl w) (.cells #[.int .i64 (n : Int), .int .i64 (k : Int), .slice none 0 0] 54))
  clear h1 h2 h3 h4
  go_enter Try.func7, Try.ntmps7
  go_wp2_with fail
  refine (hA _).mono ?_
  rintro e w1 ⟨rfl, rfl⟩
  go_wp2_with fail
  refine (hB _).mono ?_
  rintro e w2 ⟨rfl, rfl⟩
  go_wp2_with fail
  go_ret2
  refine ⟨_, fun b => b = w2.heap.size, rfl, ⟨_, HN.out, og_nil encP 4 62 _ 0, fun b => ?_⟩, HK.out, fun b hb => by rw [hb]; exact Nat.le_refl _⟩
  simp [Value.ownBlock]
theorem new_no (n k : Int) (w : World) (h : ¬ (1 ≤ n ∧ n ≤ 64 ∧ 1 ≤ k ∧ k ≤ 64)) : Calls Try.prog 7 #[.int .i64 n, .int .i64 k] w fun e w' => e = .returned (.tuple #[.pointer none, .int .i64 1]) ∧ Kept w w' := by
  have hA := fun u => may_any n u
  have hB := fun u => may_any k u
  by_cases h1 : 1 ≤ n ∧ n ≤ 64
  · rw [decide_eq_true h1] at hA
    rw [decide_eq_false (p := 1 ≤ k ∧ k ≤ 64) (fun hh => h ⟨h1.1, h1.2, hh.1, hh.2⟩)] at hB
    clear h h1
    go_enter Try.func7, Try.ntmps7
    go_wp2_with fail
    refine (hA _).mono ?_
    rintro e w1 ⟨rfl, rfl⟩
    go_wp2_with fail
    refine (hB _).mono ?_
    rintro e w2 ⟨rfl, rfl⟩
    go_wp2_with fail
    go_ret2
    exact ⟨rfl, kept_refl _⟩
  · rw [decide_eq_false h1] at hA
    clear h h1 hB
    go_enter Try.func7, Try.ntmps7
    go_wp2_with fail
    refine (hA _).mono ?_
    rintro e w1 ⟨rfl, rfl⟩
    go_wp2_with fail
    go_ret2
    exact ⟨rfl, kept_refl _⟩
theorem len_none (w : World) : Calls Try.prog 14 #[.pointer none] w fun e w' => e = .returned (.int .i64 0) ∧ Kept w w' := by
  go_enter Try.func14, Try.ntmps14
  go_wp2
  go_ret
  exact ⟨rfl, kept_refl _⟩
theorem len_is (X n k : Nat) (l : List Pc) (F : Nat → Prop) (w : World) (h : TkT w X n k l F) : Calls Try.prog 14 #[.pointer (some ⟨X, 0, none⟩)] w fun e w' => e = .returned (.int .i64 (l.length : Int)) ∧ Kept w w' := by
  obtain ⟨v, hA, hO, -⟩ := h
  obtain ⟨a, cap, rfl, -, -⟩ := og_is encP_ok hO
  obtain ⟨c0, c1, c2, -⟩ := at_cells3 hA
  clear hO hA
  go_enter Try.func14, Try.ntmps14
  go_wp2
  go_ret
  exact ⟨rfl, kept_refl _⟩
theorem take_none (w : World) : Calls Try.prog 11 #[.pointer none] w fun e w' => ∃ a cap, e = .returned (.slice a 0 cap) ∧ Kept w w' := by
  have HK := hid (kept_alloc (kept_refl w) (.cells #[.pointer none] 23))
  go_enter Try.func11, Try.ntmps11
  go_wp2
  go_ret
  exact ⟨_, _, rfl, HK.out⟩
theorem add_none (x : Nw) (w : World) : Calls Try.prog 12 #[.pointer none, .agg #[.int .u8 x.node, .int .u8 x.st, .int .u32 x.inc]] w fun e w' => e = .returned (.int .i64 1) ∧ Kept w w' := by
  have HK := hid (kept_alloc (kept_refl w) (.cells #[.int .u8 x.node, .int .u8 x.st, .int .u32 x.inc] 33))
  go_enter Try.func12, Try.ntmps12
  go_wp2
  go_ret
  exact ⟨rfl, HK.out⟩
theorem add_no (X : Nat) (x : Nw) (w : World) (h : 64 ≤ x.node) : Calls Try.prog 12 #[.pointer (some ⟨X, 0, none⟩), .agg #[.int .u8 x.node, .int .u8 x.st, .int .u32 x.inc]] w fun e w' => e = .returned (.int .i64 1) ∧ Kept w w' := by
  have HK := hid (kept_alloc (kept_refl w) (.cells #[.int .u8 x.node, .int .u8 x.st, .int .u32 x.inc] 33))
  go_enter Try.func12, Try.ntmps12
  go_wp2
  go_ret
  exact ⟨rfl, HK.out⟩
/- A piece as a value. -/
def pcV (q : Pc) : Value := .agg #[.int .u8 q.x.node, .int .u8 q.x.st, .int .u32 q.x.inc, .int .i64 (q.told : Int)]
theorem adddel_any {Y : Nat} {x : Nw} (q : Pc) (w : World) (h : At w Y #[.int .u8 x.node, .int .u8 x.st, .int .u32 x.inc] 33) : Calls Try.prog 19 #[.agg #[.int .u8 q.x.node, .int .u8 q.x.st, .int .u32 q.x.inc, .int .i64 (q.told : Int)], .pointer (some ⟨Y, 0, none⟩)] w fun e w' => e = .returned (.bool (q.x.node == x.node)) ∧ Kept w w' := by
  have HK := hid (kept_alloc (kept_refl w) (.cells #[.int .u8 q.x.node, .int .u8 q.x.st, .int .u32 q.x.inc, .int .i64 (q.told : Int)] 62))
  obtain ⟨c0, -, -⟩ := at_cells3' (at_alloc h (.cells #[.int .u8 q.x.node, .int .u8 q.x.st, .int .u32 q.x.inc, .int .i64 (q.told : Int)] 62))
  have hne : Y ≠ w.heap.size := Nat.ne_of_lt (at_lt h)
  clear h
  go_enter Try.func19, Try.ntmps19
  go_wp2
  go_ret
  exact ⟨rfl, HK.out⟩
theorem takedel_any {Y X n : Nat} {y z : Value} (q : Pc) (w : World) (h : At w Y #[.pointer (some ⟨X, 0, none⟩)] 23) (hX : At w X #[.int .i64 (n : Int), y, z] 54) : Calls Try.prog 18 #[.agg #[.int .u8 q.x.node, .int .u8 q.x.st, .int .u32 q.x.inc, .int .i64 (q.told : Int)], .pointer (some ⟨Y, 0, none⟩)] w fun e w' => e = .returned (.bool ((q.told : Int) == (n : Int))) ∧ Kept w w' := by
  have HK := hid (kept_alloc (kept_refl w) (.cells #[.int .u8 q.x.node, .int .u8 q.x.st, .int .u32 q.x.inc, .int .i64 (q.told : Int)] 62))
  have c0 : (w.alloc (.cells #[.int .u8 q.x.node, .int .u8 q.x.st, .int .u32 q.x.inc, .int .i64 (q.told : Int)] 62)).cell? ⟨Y, 0, none⟩ = some (.pointer (some ⟨X, 0, none⟩)) := at_cell (at_alloc h _) 0
  have c1 : (w.alloc (.cells #[.int .u8 q.x.node, .int .u8 q.x.st, .int .u32 q.x.inc, .int .i64 (q.told : Int)] 62)).cell? ⟨X, 0, none⟩ = some (.int .i64 (n : Int)) := at_cell (at_alloc hX _) 0
  have hne : Y ≠ w.heap.size := Nat.ne_of_lt (at_lt h)
  have hne2 : X ≠ w.heap.size := Nat.ne_of_lt (at_lt hX)
  clear h hX
  go_enter Try.func18, Try.ntmps18
  go_wp2_with fail
  go_quiet (fail)
  go_wp2
  go_ret
  exact ⟨rfl, HK.out⟩
theorem isnan_any (n : Int) (w : World) : Calls Try.prog 28 #[.int .i64 n] w fun e w' => e = .returned (.bool false) ∧ w' = w := by
  have hb : (n != n) = false := by simp
  go_enter Try.func28, Try.ntmps28
  go_wp2
  go_ret
  exact ⟨rfl, rfl⟩
theorem cmp_any (x y : Nat) (w : World) : Calls Try.prog 23 #[.int .i64 (x : Int), .int .i64 (y : Int)] w fun e w' => e = .returned (.int .i64 (cmpI x y)) ∧ w' = w := by
  have hA := fun n u => isnan_any n u
  unfold cmpI
  by_cases h1 : x < y
  · have h1z : (x : Int) < (y : Int) := by omega
    rw [if_pos h1]
    clear h1
    go_enter Try.func23, Try.ntmps23
    go_wp2_with fail
    refine (hA _ _).mono ?_
    rintro e w1 ⟨rfl, rfl⟩
    go_wp2_with fail
    refine (hA _ _).mono ?_
    rintro e w1 ⟨rfl, rfl⟩
    go_wp2_with fail
    go_ret
    exact ⟨rfl, rfl⟩
  · have h1z : ¬ (x : Int) < (y : Int) := by omega
    rw [if_neg h1]
    clear h1
    by_cases h2 : y < x
    · have h2z : (y : Int) < (x : Int) := by omega
      rw [if_pos h2]
      clear h2
      go_enter Try.func23, Try.ntmps23
      go_wp2_with fail
      refine (hA _ _).mono ?_
      rintro e w1 ⟨rfl, rfl⟩
      go_wp2_with fail
      refine (hA _ _).mono ?_
      rintro e w1 ⟨rfl, rfl⟩
      go_wp2_with fail
      go_ret
      exact ⟨rfl, rfl⟩
    · have h2z : ¬ (y : Int) < (x : Int) := by omega
      rw [if_neg h2]
      clear h2
      go_enter Try.func23, Try.ntmps23
      go_wp2_with fail
      refine (hA _ _).mono ?_
      rintro e w1 ⟨rfl, rfl⟩
      go_wp2_with fail
      refine (hA _ _).mono ?_
      rintro e w1 ⟨rfl, rfl⟩
      go_wp2_with fail
      go_ret
      exact ⟨rfl, rfl⟩
set_option maxHeartbeats 1600000 in
theorem less_any {Y X n cap G a b : Nat} {p k : Value} {l : List Pc} (w : World) (h : At w Y #[.pointer (some ⟨X, 0, none⟩)] 23) (hX : At w X #[p, k, .slice (some ⟨G, 0, none⟩) n cap] 54) (hO : Og encP 4 62 w 0 (.slice (some ⟨G, 0, none⟩) n cap) l) (ha : a < n) (hb : b < n) :
    Calls Try.prog 22 #[.int .i64 (a : Int), .int .i64 (b : Int), .pointer (some ⟨Y, 0, none⟩)] w fun e w' => e = .returned (.int .i64 (cmpI (tol l a) (tol l b))) ∧ ∃ q, w' = w.drewN q := by
  have hl := (og_len encP_ok hO).1
  obtain ⟨x, hx⟩ : ∃ x, l[a]? = some x := ⟨l[a], List.getElem?_eq_getElem (by omega)⟩
  obtain ⟨y, hy⟩ : ∃ y, l[b]? = some y := ⟨l[b], List.getElem?_eq_getElem (by omega)⟩
  obtain ⟨-, -, -, e0⟩ := rg_P (rg_own encP_ok hO) hx
  obtain ⟨-, -, -, e1⟩ := rg_P (rg_own encP_ok hO) hy
  rw [tol_at hx, tol_at hy]
  have c0 : w.cell? ⟨Y, 0, none⟩ = some (.pointer (some ⟨X, 0, none⟩)) := at_cell h 0
  have c1 : w.cell? ⟨X, 2, none⟩ = some (.slice (some ⟨G, 0, none⟩) n cap) := at_cell hX 2
  have az : (a : Int) < (n : Int) := by omega
  have bz : (b : Int) < (n : Int) := by omega
  have hC := cmp_any x.told y.told
  clear h hX hO ha hb hl hx hy
  rw [Nat.zero_add] at e0 e1
  go_enter Try.func22, Try.ntmps22
  go_wp2_with fail
  go_quiet (first | (go_at_call 23; exact Calls.quiet_of_same (hC _)))
  go_wp2
  go_ret
  exact ⟨rfl, nq, rfl⟩
end Go.Proofs.Ytalcbahnhiibkaa
