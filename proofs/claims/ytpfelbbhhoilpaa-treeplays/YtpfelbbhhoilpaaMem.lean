/- A tree in memory: 128 numbers in one block (Nd); the contract of reckon. -/
import Derived.Test.YtpfelbbhhoilpaaTreeMath
import Derived.Test.YtpfelbbhhoilpaaState
import Derived.Deep.RegionHeld3
import Derived.BigQuiet
namespace Go.Proofs.Ytpfelbbhhoilpaa
open Go.ChangeShapes Go.WideShapes Go.ChangeAt Go.RowKit
set_option linter.unusedVariables false
set_option linter.unusedSimpArgs false
set_option maxRecDepth 100000

theorem says_int {x y : Int} (e : x = y) : Ending.returned (.int .i64 x) = Ending.returned (.int .i64 y) := congrArg (fun z => Ending.returned (.int .i64 z)) e
theorem says_u64 {x y : Int} (e : x = y) : Ending.returned (.int .u64 x) = Ending.returned (.int .u64 y) := congrArg (fun z => Ending.returned (.int .u64 z)) e
theorem says_bool {x y : Bool} (e : x = y) : Ending.returned (.bool x) = Ending.returned (.bool y) := congrArg (fun z => Ending.returned (.bool z)) e
theorem kept_drewN {W w : World} (h : Kept W w) (n : Nat) : Kept W (w.drewN n) := h
theorem cell_lt {w : World} {b o : Nat} {v : Value} (h : w.cell? ⟨b, o, none⟩ = some v) : b < w.heap.size := by
  unfold World.cell? at h
  cases hb : w.heap[b]? with
  | none => simp [hb] at h
  | some x => exact (Array.getElem?_eq_some_iff.1 hb).1
/- Numbers as cells. -/
def nv (N : Nat → Int) (n : Nat) : Array Value := (Array.range n).map (fun k => Value.int .u64 (N k))
theorem nv_size (N : Nat → Int) (n : Nat) : (nv N n).size = n := by simp [nv]
theorem nv_get (N : Nat → Int) {n k : Nat} (h : k < n) : (nv N n)[k]? = some (.int .u64 (N k)) := by
  unfold nv
  rw [Array.getElem?_map, Array.getElem?_range, if_pos h]
  rfl
theorem nv_ext {N M : Nat → Int} {n : Nat} (h : ∀ k, k < n → N k = M k) : nv N n = nv M n := by
  apply Array.ext (by simp [nv_size])
  intro i h1 h2
  simp [nv_size] at h1
  have e1 := nv_get N h1
  have e2 := nv_get M h1
  rw [h i h1, ← e2] at e1
  rw [Array.getElem?_eq_getElem (by simpa [nv_size] using h1), Array.getElem?_eq_getElem h2] at e1
  exact Option.some.inj e1
theorem nv_set (N : Nat → Int) {n k : Nat} (h : k < n) (x : Int) : (nv N n).setIfInBounds k (.int .u64 x) = nv (upd N k x) n := by
  apply Array.ext (by simp [nv_size])
  intro i h1 h2
  simp [nv_size] at h1
  have e1 : ((nv N n).setIfInBounds k (.int .u64 x))[i]? = (nv (upd N k x) n)[i]? := by
    rw [Array.getElem?_setIfInBounds, nv_get (upd N k x) h1]
    by_cases e : k = i
    · rw [if_pos e, if_pos (by rw [nv_size]; omega), ← e, upd_at]
    · rw [if_neg e, nv_get N h1, upd_ne _ _ (Ne.symm e)]
  rw [Array.getElem?_eq_getElem (by simpa [nv_size] using h1), Array.getElem?_eq_getElem h2] at e1
  exact Option.some.inj e1
theorem nv_one (N : Nat → Int) (n : Nat) : (nv N n).all (·.oneCell') = true := by
  rw [Array.all_eq_true_iff_forall_mem]
  intro x hx
  unfold nv at hx
  rw [Array.mem_map] at hx
  obtain ⟨k, _, rfl⟩ := hx
  rfl
def Nd (w : World) (X : Nat) (N : Nat → Int) : Prop := At w X (nv N 128) 54
section
variable {w w' : World} {X : Nat} {N M : Nat → Int}
theorem nd_cell (h : Nd w X N) {k : Nat} (hk : k < 128) : w.cell? ⟨X, k, none⟩ = some (.int .u64 (N k)) := (at_cell h k).trans (nv_get N hk)
theorem nd_free (h : Nd w X N) (j : Nat) : w.frozen? ⟨X, j, none⟩ = false := at_frozen h j
theorem nd_set (h : Nd w X N) {k : Nat} (hk : k < 128) (x : Int) : Nd (w.setCell ⟨X, k, none⟩ (.int .u64 x)) X (upd N k x) := by
  have := at_set h k (.int .u64 x)
  rw [nv_set N hk] at this
  exact this
theorem nd_ext (h : Nd w X N) (e : ∀ k, k < 128 → N k = M k) : Nd w X M := by
  unfold Nd at *
  rw [← nv_ext e]
  exact h
theorem nd_kept (h : Nd w X N) (k : Kept w w') : Nd w' X N := at_kept h k
end
set_option maxHeartbeats 800000 in
theorem reckon_any {X : Nat} {N : Nat → Int} (k : Nat) (h0 : 1 ≤ k) (h : k < 64) (w : World) (hN : Nd w X N) :
    Calls Try.prog 24 #[.pointer (some ⟨X, 0, none⟩), .int .i64 (k : Int)] w fun e w' => e = .returned (.tuple #[]) ∧ Turn X w w' ∧ Nd w' X (upd N k (twoI (N (2 * k)) (N (2 * k + 1)))) := by
  obtain ⟨a, ha⟩ : ∃ a, 2 * k = a := ⟨_, rfl⟩
  obtain ⟨b, hb⟩ : ∃ b, 2 * k + 1 = b := ⟨_, rfl⟩
  have hwa : IntKind.i64.wrap (2 * (k : Int)) = (a : Int) := by rw [IntWalk.i64_in _ (by omega)]; omega
  have hwb : IntKind.i64.wrap ((a : Int) + 1) = (b : Int) := by rw [IntWalk.i64_in _ (by omega)]; omega
  have b1 : (a : Int) < 128 := by omega
  have b2 : (b : Int) < 128 := by omega
  have b3 : (k : Int) < 128 := by omega
  have d1 : ¬ (128 : Int) ≤ (a : Int) := by omega
  have d2 : ¬ (128 : Int) ≤ (b : Int) := by omega
  have d3 : ¬ (128 : Int) ≤ (k : Int) := by omega
  rw [hb, ha]
  have HN := hid hN
  have HNE : Hid (a ≠ k ∧ b ≠ k ∧ a < 128 ∧ b < 128 ∧ k < 128) := hid (by omega)
  clear ha hb h0 h hN
  go_enter Try.func24, Try.ntmps24
  go_wp2_with fail
  have hS0 : w.cell? ⟨X, a, none⟩ = some (.int .u64 (N a)) ∧ w.cell? ⟨X, b, none⟩ = some (.int .u64 (N b)) := ⟨nd_cell HN.out HNE.out.2.2.1, nd_cell HN.out HNE.out.2.2.2.1⟩
  replace HN := hid (at_drew HN.out)
  have HN3 := hid (nd_set HN.out HNE.out.2.2.2.2 (twoI (N a) (N b)))
  have HT3 := hid (turn_set (turn_drew (Turn.refl X w)) k (.int .u64 (twoI (N a) (N b))))
  have HS3 : Hid ((w.drew.setCell ⟨X, k, none⟩ (.int .u64 (twoI (N a) (N b)))).cell? ⟨X, a, none⟩ = some (.int .u64 (N a)) ∧ (w.drew.setCell ⟨X, k, none⟩ (.int .u64 (twoI (N a) (N b)))).cell? ⟨X, b, none⟩ = some (.int .u64 (N b))) := hid (by
    have e1 := nd_cell HN3.out HNE.out.2.2.1
    have e2 := nd_cell HN3.out HNE.out.2.2.2.1
    rw [upd_ne _ _ HNE.out.1] at e1
    rw [upd_ne _ _ HNE.out.2.1] at e2
    exact ⟨e1, e2⟩)
  have c0 : w.drew.cell? ⟨X, k, none⟩ = some (.int .u64 (N k)) := nd_cell HN.out HNE.out.2.2.2.2
  have cf : ∀ j, w.drew.frozen? ⟨X, j, none⟩ = false := nd_free HN.out
  refine wp_region_noPanic ?_
  refine wp_region_held_drew (S := (fun w' => (w'.cell? ⟨X, a, none⟩ = some (.int .u64 (N a))) ∧ (w'.cell? ⟨X, b, none⟩ = some (.int .u64 (N b))))) (by kernel_rfl) (by assumption) (fun hHeld => ?_)
  refine wpAnyH_take (i := 0) (v := .pointer (some ⟨X, 0, none⟩)) rfl (by kernel_rfl) (by kernel_rfl) (by kernel_rfl) (fun _ _ _ h => h) (Or.inl ⟨by rfl, fun w hSw => by (try dsimp only at hSw); go_simp⟩) (by assumption) ?_
  try simp only [List.getElem_toArray, List.getElem_cons_zero, List.getElem_cons_succ, Act.put, List.setIfInBounds_toArray, List.set_cons_zero, List.set_cons_succ]
  refine wpAnyH_take (i := 1) (v := .int .i64 (k : Int)) rfl (by kernel_rfl) (by kernel_rfl) (by kernel_rfl) (fun _ _ _ h => h) (Or.inl ⟨by rfl, fun w hSw => by (try dsimp only at hSw); go_simp⟩) (by assumption) ?_
  try simp only [List.getElem_toArray, List.getElem_cons_zero, List.getElem_cons_succ, Act.put, List.setIfInBounds_toArray, List.set_cons_zero, List.set_cons_succ]
  refine wpAnyH_take (i := 2) (v := .pointer (some ⟨X, 0, none⟩)) rfl (by kernel_rfl) (by kernel_rfl) (by kernel_rfl) (fun _ _ _ h => h) (Or.inl ⟨by rfl, fun w hSw => by (try dsimp only at hSw); go_simp⟩) (by assumption) ?_
  try simp only [List.getElem_toArray, List.getElem_cons_zero, List.getElem_cons_succ, Act.put, List.setIfInBounds_toArray, List.set_cons_zero, List.set_cons_succ]
  refine wpAnyH_take (i := 3) (v := .int .i64 (k : Int)) rfl (by kernel_rfl) (by kernel_rfl) (by kernel_rfl) (fun _ _ _ h => h) (Or.inl ⟨by rfl, fun w hSw => by (try dsimp only at hSw); go_simp⟩) (by assumption) ?_
  try simp only [List.getElem_toArray, List.getElem_cons_zero, List.getElem_cons_succ, Act.put, List.setIfInBounds_toArray, List.set_cons_zero, List.set_cons_succ]
  refine wpAnyH_take (i := 4) (v := .int .i64 (a : Int)) rfl (by kernel_rfl) (by kernel_rfl) (by kernel_rfl) (fun _ _ _ h => h) (Or.inl ⟨by rfl, fun w hSw => by (try dsimp only at hSw); go_simp⟩) (by assumption) ?_
  try simp only [List.getElem_toArray, List.getElem_cons_zero, List.getElem_cons_succ, Act.put, List.setIfInBounds_toArray, List.set_cons_zero, List.set_cons_succ]
  refine wpAnyH_take (i := 5) (v := .pointer (some ⟨X, 0, none⟩)) rfl (by kernel_rfl) (by kernel_rfl) (by kernel_rfl) (fun _ _ _ h => h) (Or.inl ⟨by rfl, fun w hSw => by (try dsimp only at hSw); go_simp⟩) (by assumption) ?_
  try simp only [List.getElem_toArray, List.getElem_cons_zero, List.getElem_cons_succ, Act.put, List.setIfInBounds_toArray, List.set_cons_zero, List.set_cons_succ]
  refine wpAnyH_take (i := 6) (v := .pointer (some ⟨X, 0, none⟩)) rfl (by kernel_rfl) (by kernel_rfl) (by kernel_rfl) (fun _ _ _ h => h) (Or.inl ⟨by rfl, fun w hSw => by (try dsimp only at hSw); go_simp⟩) (by assumption) ?_
  try simp only [List.getElem_toArray, List.getElem_cons_zero, List.getElem_cons_succ, Act.put, List.setIfInBounds_toArray, List.set_cons_zero, List.set_cons_succ]
  refine wpAnyH_take (i := 7) (v := .pointer (some ⟨X, a, none⟩)) rfl (by kernel_rfl) (by kernel_rfl) (by kernel_rfl) (fun _ _ _ h => h) (Or.inl ⟨by rfl, fun w hSw => by (try dsimp only at hSw); go_simp⟩) (by assumption) ?_
  try simp only [List.getElem_toArray, List.getElem_cons_zero, List.getElem_cons_succ, Act.put, List.setIfInBounds_toArray, List.set_cons_zero, List.set_cons_succ]
  refine wpAnyH_take (i := 8) (v := .int .u64 (N a)) rfl (by kernel_rfl) (by kernel_rfl) (by kernel_rfl) (fun _ _ _ h => h) (Or.inl ⟨by rfl, fun w hSw => by (try dsimp only at hSw); go_simp⟩) (by assumption) ?_
  try simp only [List.getElem_toArray, List.getElem_cons_zero, List.getElem_cons_succ, Act.put, List.setIfInBounds_toArray, List.set_cons_zero, List.set_cons_succ]
  refine wpAnyH_take (i := 9) (v := .pointer (some ⟨X, 0, none⟩)) rfl (by kernel_rfl) (by kernel_rfl) (by kernel_rfl) (fun _ _ _ h => h) (Or.inl ⟨by rfl, fun w hSw => by (try dsimp only at hSw); go_simp⟩) (by assumption) ?_
  try simp only [List.getElem_toArray, List.getElem_cons_zero, List.getElem_cons_succ, Act.put, List.setIfInBounds_toArray, List.set_cons_zero, List.set_cons_succ]
  refine wpAnyH_take (i := 10) (v := .int .i64 (k : Int)) rfl (by kernel_rfl) (by kernel_rfl) (by kernel_rfl) (fun _ _ _ h => h) (Or.inl ⟨by rfl, fun w hSw => by (try dsimp only at hSw); go_simp⟩) (by assumption) ?_
  try simp only [List.getElem_toArray, List.getElem_cons_zero, List.getElem_cons_succ, Act.put, List.setIfInBounds_toArray, List.set_cons_zero, List.set_cons_succ]
  refine wpAnyH_take (i := 11) (v := .int .i64 (a : Int)) rfl (by kernel_rfl) (by kernel_rfl) (by kernel_rfl) (fun _ _ _ h => h) (Or.inl ⟨by rfl, fun w hSw => by (try dsimp only at hSw); go_simp⟩) (by assumption) ?_
  try simp only [List.getElem_toArray, List.getElem_cons_zero, List.getElem_cons_succ, Act.put, List.setIfInBounds_toArray, List.set_cons_zero, List.set_cons_succ]
  refine wpAnyH_take (i := 12) (v := .int .i64 (b : Int)) rfl (by kernel_rfl) (by kernel_rfl) (by kernel_rfl) (fun _ _ _ h => h) (Or.inl ⟨by rfl, fun w hSw => by (try dsimp only at hSw); go_simp⟩) (by assumption) ?_
  try simp only [List.getElem_toArray, List.getElem_cons_zero, List.getElem_cons_succ, Act.put, List.setIfInBounds_toArray, List.set_cons_zero, List.set_cons_succ]
  refine wpAnyH_take (i := 13) (v := .pointer (some ⟨X, 0, none⟩)) rfl (by kernel_rfl) (by kernel_rfl) (by kernel_rfl) (fun _ _ _ h => h) (Or.inl ⟨by rfl, fun w hSw => by (try dsimp only at hSw); go_simp⟩) (by assumption) ?_
  try simp only [List.getElem_toArray, List.getElem_cons_zero, List.getElem_cons_succ, Act.put, List.setIfInBounds_toArray, List.set_cons_zero, List.set_cons_succ]
  refine wpAnyH_take (i := 14) (v := .pointer (some ⟨X, 0, none⟩)) rfl (by kernel_rfl) (by kernel_rfl) (by kernel_rfl) (fun _ _ _ h => h) (Or.inl ⟨by rfl, fun w hSw => by (try dsimp only at hSw); go_simp⟩) (by assumption) ?_
  try simp only [List.getElem_toArray, List.getElem_cons_zero, List.getElem_cons_succ, Act.put, List.setIfInBounds_toArray, List.set_cons_zero, List.set_cons_succ]
  refine wpAnyH_take (i := 15) (v := .pointer (some ⟨X, b, none⟩)) rfl (by kernel_rfl) (by kernel_rfl) (by kernel_rfl) (fun _ _ _ h => h) (Or.inl ⟨by rfl, fun w hSw => by (try dsimp only at hSw); go_simp⟩) (by assumption) ?_
  try simp only [List.getElem_toArray, List.getElem_cons_zero, List.getElem_cons_succ, Act.put, List.setIfInBounds_toArray, List.set_cons_zero, List.set_cons_succ]
  refine wpAnyH_take (i := 16) (v := .int .u64 (N b)) rfl (by kernel_rfl) (by kernel_rfl) (by kernel_rfl) (fun _ _ _ h => h) (Or.inl ⟨by rfl, fun w hSw => by (try dsimp only at hSw); go_simp⟩) (by assumption) ?_
  try simp only [List.getElem_toArray, List.getElem_cons_zero, List.getElem_cons_succ, Act.put, List.setIfInBounds_toArray, List.set_cons_zero, List.set_cons_succ]
  refine wpAnyH_take (i := 18) (v := .pointer (some ⟨X, 0, none⟩)) rfl (by kernel_rfl) (by kernel_rfl) (by kernel_rfl) (fun _ _ _ h => h) (Or.inl ⟨by rfl, fun w hSw => by (try dsimp only at hSw); go_simp⟩) (by assumption) ?_
  try simp only [List.getElem_toArray, List.getElem_cons_zero, List.getElem_cons_succ, Act.put, List.setIfInBounds_toArray, List.set_cons_zero, List.set_cons_succ]
  refine wpAnyH_take (i := 19) (v := .pointer (some ⟨X, 0, none⟩)) rfl (by kernel_rfl) (by kernel_rfl) (by kernel_rfl) (fun _ _ _ h => h) (Or.inl ⟨by rfl, fun w hSw => by (try dsimp only at hSw); go_simp⟩) (by assumption) ?_
  try simp only [List.getElem_toArray, List.getElem_cons_zero, List.getElem_cons_succ, Act.put, List.setIfInBounds_toArray, List.set_cons_zero, List.set_cons_succ]
  refine wpAnyH_ready (rs := [17]) (by kernel_rfl) (by simp) ?_
  refine AllReadyH.cons (i := 17) rfl (fun K hK => ?_) AllReadyH.nil
  go_simp
  refine (two_any (N a) (N b) _).mono ?_
  rintro e w3 ⟨rfl, rfl⟩
  clear hHeld
  show K _ _
  refine hK.out _ _ (by assumption) (fun hHeld => ?_)
  clear hK K
  try simp only [List.getElem_toArray, List.getElem_cons_zero, List.getElem_cons_succ, Act.put, List.setIfInBounds_toArray, List.set_cons_zero, List.set_cons_succ]
  refine wpAnyH_take (i := 20) (v := .pointer (some ⟨X, k, none⟩)) rfl (by kernel_rfl) (by kernel_rfl) (by kernel_rfl) (fun _ _ _ h => h) (Or.inl ⟨by rfl, fun w hSw => by (try dsimp only at hSw); go_simp⟩) (by assumption) ?_
  try simp only [List.getElem_toArray, List.getElem_cons_zero, List.getElem_cons_succ, Act.put, List.setIfInBounds_toArray, List.set_cons_zero, List.set_cons_succ]
  refine wpAnyH_ready (rs := [21]) (by kernel_rfl) (by simp) ?_
  refine AllReadyH.cons (i := 21) rfl (fun K hK => ?_) AllReadyH.nil
  go_simp
  have hS := HS3.out
  clear hHeld
  show K _ _
  refine hK.out _ _ (by assumption) (fun hHeld => ?_)
  clear hK K
  try simp only [List.getElem_toArray, List.getElem_cons_zero, List.getElem_cons_succ, Act.put, List.setIfInBounds_toArray, List.set_cons_zero, List.set_cons_succ]
  refine wpAnyH_done (by kernel_rfl) ?_ _
  refine NoPanic.normal ?_
  exact bodyPost_end (v := .tuple #[]) (by kernel_rfl) rfl ⟨rfl, HT3.out, HN3.out⟩
end Go.Proofs.Ytpfelbbhhoilpaa
