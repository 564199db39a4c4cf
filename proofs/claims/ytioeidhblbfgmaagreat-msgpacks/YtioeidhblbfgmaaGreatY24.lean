/- The contracts of the landed reader's small parts: what may not be ends it by a panic that bears the error. The bytes are at most 2^47. The contracts of the landed reader's number and key: the reference's answer, or a panic that bears its error. The bytes are at most 2^47. The plain mathematics of the record that stands at a place, step by step. No condition but those that are stated. -/
import Derived.Test.YtioeidhblbfgmaaGreatY14
import Derived.Test.YtioeidhblbfgmaaGreatY23
import Derived.Test.YtioeidhblbfgmaaGreatY3
import Derived.Test.YtioeidhblbfgmaaGreatY15
import Derived.WalkLawsBesides

namespace Go.Proofs.YtioeidhblbfgmaaGreat
open Go.ChangeShapes Go.WideShapes Go.ChangeAt Go.RowKit
set_option linter.unusedVariables false
set_option linter.unusedSimpArgs false
set_option maxRecDepth 100000

theorem trio {α β γ : Type} (x : α × (β × γ)) : ∃ a b c, x = (a, (b, c)) := ⟨x.1, x.2.1, x.2.2, rfl⟩
/- A reader in memory. -/
def In (X : Nat) (s : ByteArray) (p : Int) (w : World) : Prop := At w X #[.string s, .int .i64 p] 131
def fault (f : Nat) : List PanicEntry := [{ v := .iface 32 (.int .i64 (f : Int)), recovered := false }]
theorem in_cells {X : Nat} {s : ByteArray} {p : Int} {w : World} (h : In X s p w) : w.cell? ⟨X, 0, none⟩ = some (.string s) ∧ w.cell? ⟨X, 1, none⟩ = some (.int .i64 p) ∧ ∀ j, w.frozen? ⟨X, j, none⟩ = false := ⟨at_cell h 0, at_cell h 1, at_frozen h⟩
theorem in2 {X : Nat} {s : ByteArray} {p : Int} {w : World} (h : In X s p w) : w.cell? ⟨X, 0, none⟩ = some (.string s) ∧ w.cell? ⟨X, 1, none⟩ = some (.int .i64 p) := ⟨at_cell h 0, at_cell h 1⟩
theorem in_set {X : Nat} {s : ByteArray} {p : Int} {w : World} (h : In X s p w) (q : Int) : In X s q (w.setCell ⟨X, 1, none⟩ (.int .i64 q)) := at_set h 1 (.int .i64 q)
theorem in_kept {X : Nat} {s : ByteArray} {p : Int} {w w' : World} (h : In X s p w) (k : Kept w w') : In X s p w' := at_kept h k
/- What one read answers: the value, and goes on; or the panic. -/
def RdC {α : Type} (enc : α → Value) (s : ByteArray) (X : Nat) (r : α × (Int × Nat)) (w : World) (e : Ending) (w' : World) : Prop :=
  (r.2.2 = 0 ∧ e = .returned (enc r.1) ∧ In X s r.2.1 w' ∧ Turn X w w') ∨ (r.2.2 ≠ 0 ∧ e = .panicked (fault r.2.2) ∧ Turn X w w')
theorem need_yes (v : Value) (w : World) : Calls Tryz.prog 74 #[v, .bool true] w fun e w' => e = .returned (.tuple #[]) ∧ w' = w := by
  go_enter Tryz.func74, Tryz.ntmps74
  go_wp2_with fail
  refine bodyPost_end (v := .tuple #[]) (by kernel_rfl) rfl ?_
  exact ⟨rfl, rfl⟩
theorem need_no (v : Value) (w : World) : Calls Tryz.prog 74 #[v, .bool false] w fun e w' => e = .panicked (fault 3) ∧ w' = w := by
  go_enter Tryz.func74, Tryz.ntmps74
  go_wp2_with fail
  exact ⟨rfl, rfl, rfl⟩
theorem pass_yes (X : Nat) (s : ByteArray) (p q : Int) (w : World) (h : In X s p w) : Calls Tryz.prog 121 #[.pointer (some ⟨X, 0, none⟩), .int .i64 q, .int .i64 0] w fun e w' => e = .returned (.tuple #[]) ∧ w' = w.setCell ⟨X, 1, none⟩ (.int .i64 q) := by
  obtain ⟨c0, c1, cf⟩ := in_cells h
  clear h
  go_enter Tryz.func121, Tryz.ntmps121
  go_wp2_with fail
  refine bodyPost_end (v := .tuple #[]) (by kernel_rfl) rfl ?_
  exact ⟨rfl, rfl⟩
theorem pass_no (v : Value) (q : Int) (f : Nat) (hf : f ≠ 0) (w : World) : Calls Tryz.prog 121 #[v, .int .i64 q, .int .i64 (f : Int)] w fun e w' => e = .panicked (fault f) ∧ w' = w := by
  have hf' : ((f : Int) != 0) = true := by simp; omega
  go_enter Tryz.func121, Tryz.ntmps121
  go_wp2_with fail
  exact ⟨rfl, rfl, rfl⟩
end Go.Proofs.YtioeidhblbfgmaaGreat


namespace Go.Proofs.YtioeidhblbfgmaaGreat
open Go.ChangeShapes Go.WideShapes Go.ChangeAt Go.RowKit
set_option linter.unusedVariables false
set_option linter.unusedSimpArgs false
set_option maxRecDepth 100000

theorem rdc_ok {α : Type} {enc : α → Value} {s : ByteArray} {X : Nat} {r : α × (Int × Nat)} {a : α} {q : Int} {w w' : World} {e : Ending} (hr : r = (a, (q, 0))) (he : e = .returned (enc a)) (hA : In X s q w') (hT : Turn X w w') : RdC enc s X r w e w' := .inl ⟨by rw [hr], by rw [hr]; exact he, by rw [hr]; exact hA, hT⟩
theorem rdc_no {α : Type} {enc : α → Value} {s : ByteArray} {X : Nat} {r : α × (Int × Nat)} {a : α} {q : Int} {f : Nat} {w w' : World} {e : Ending} (hr : r = (a, (q, f))) (hf : f ≠ 0) (he : e = .panicked (fault f)) (hT : Turn X w w') : RdC enc s X r w e w' := .inr ⟨by rw [hr]; exact hf, by rw [hr]; exact he, hT⟩
set_option maxHeartbeats 3200000 in
theorem ldNum_any (s : ByteArray) (hs : s.size ≤ 140737488355328) (lo hi : Nat) (p : Int) (X : Nat) (w : World) (h : In X s p w) :
    Calls Tryz.prog 97 #[.pointer (some ⟨X, 0, none⟩), .int .u64 (lo : Int), .int .u64 (hi : Int)] w (RdC (fun n : Nat => .int .u64 (n : Int)) s X (numM s lo hi (p, 0)) w) := by
  have hG := Get_any s p hs
  obtain ⟨n, t, f, hg⟩ : ∃ a b c, getN s p = (a, (b, c)) := trio _
  rw [hg] at hG
  unfold trip at hG
  obtain ⟨R, hR⟩ : ∃ R, numM s lo hi (p, 0) = R := ⟨_, rfl⟩
  have HR : Hid (R = if f = 0 then (if n < lo ∨ hi < n then (0, (p, 3)) else (n, ((t : Int), 0))) else (0, (p, f))) := hid (by rw [← hR]; unfold numM; simp only [hg, if_true])
  rw [hR]
  have A0 : In X s p w.drew := h
  obtain ⟨c0, c1, cf⟩ := in_cells h
  clear h hg hR hs
  go_enter Tryz.func97, Tryz.ntmps97
  go_wp2_with fail
  clear c0 c1 cf
  refine wp_region_noPanic ?_
  refine wp_region_held_drew (S := (fun w' => (w'.cell? ⟨X, 0, none⟩ = some (.string s)) ∧ (w'.cell? ⟨X, 1, none⟩ = some (.int .i64 p)))) (by kernel_rfl) (in2 A0) (fun hHeld => ?_)
  refine wpAnyH_take (i := 0) (v := .pointer (some ⟨X, 0, none⟩)) rfl (by kernel_rfl) (by kernel_rfl) (by kernel_rfl) (fun _ _ _ h => h) (Or.inl ⟨by rfl, fun w hSw => by (try dsimp only at hSw); go_simp⟩) (by assumption) ?_
  try simp only [List.getElem_toArray, List.getElem_cons_zero, List.getElem_cons_succ, Act.put, List.setIfInBounds_toArray, List.set_cons_zero, List.set_cons_succ]
  refine wpAnyH_take (i := 1) (v := .pointer (some ⟨X, 0, none⟩)) rfl (by kernel_rfl) (by kernel_rfl) (by kernel_rfl) (fun _ _ _ h => h) (Or.inl ⟨by rfl, fun w hSw => by (try dsimp only at hSw); go_simp⟩) (by assumption) ?_
  try simp only [List.getElem_toArray, List.getElem_cons_zero, List.getElem_cons_succ, Act.put, List.setIfInBounds_toArray, List.set_cons_zero, List.set_cons_succ]
  refine wpAnyH_take (i := 2) (v := .pointer (some ⟨X, 0, none⟩)) rfl (by kernel_rfl) (by kernel_rfl) (by kernel_rfl) (fun _ _ _ h => h) (Or.inl ⟨by rfl, fun w hSw => by (try dsimp only at hSw); go_simp⟩) (by assumption) ?_
  try simp only [List.getElem_toArray, List.getElem_cons_zero, List.getElem_cons_succ, Act.put, List.setIfInBounds_toArray, List.set_cons_zero, List.set_cons_succ]
  refine wpAnyH_take (i := 3) (v := .string s) rfl (by kernel_rfl) (by kernel_rfl) (by kernel_rfl) (fun _ _ _ h => h) (Or.inl ⟨by rfl, fun w hSw => by (try dsimp only at hSw); go_simp⟩) (by assumption) ?_
  try simp only [List.getElem_toArray, List.getElem_cons_zero, List.getElem_cons_succ, Act.put, List.setIfInBounds_toArray, List.set_cons_zero, List.set_cons_succ]
  refine wpAnyH_take (i := 4) (v := .pointer (some ⟨X, 0, none⟩)) rfl (by kernel_rfl) (by kernel_rfl) (by kernel_rfl) (fun _ _ _ h => h) (Or.inl ⟨by rfl, fun w hSw => by (try dsimp only at hSw); go_simp⟩) (by assumption) ?_
  try simp only [List.getElem_toArray, List.getElem_cons_zero, List.getElem_cons_succ, Act.put, List.setIfInBounds_toArray, List.set_cons_zero, List.set_cons_succ]
  refine wpAnyH_take (i := 5) (v := .pointer (some ⟨X, 0, none⟩)) rfl (by kernel_rfl) (by kernel_rfl) (by kernel_rfl) (fun _ _ _ h => h) (Or.inl ⟨by rfl, fun w hSw => by (try dsimp only at hSw); go_simp⟩) (by assumption) ?_
  try simp only [List.getElem_toArray, List.getElem_cons_zero, List.getElem_cons_succ, Act.put, List.setIfInBounds_toArray, List.set_cons_zero, List.set_cons_succ]
  refine wpAnyH_take (i := 6) (v := .pointer (some ⟨X, 1, none⟩)) rfl (by kernel_rfl) (by kernel_rfl) (by kernel_rfl) (fun _ _ _ h => h) (Or.inl ⟨by rfl, fun w hSw => by (try dsimp only at hSw); go_simp⟩) (by assumption) ?_
  try simp only [List.getElem_toArray, List.getElem_cons_zero, List.getElem_cons_succ, Act.put, List.setIfInBounds_toArray, List.set_cons_zero, List.set_cons_succ]
  refine wpAnyH_take (i := 7) (v := .int .i64 p) rfl (by kernel_rfl) (by kernel_rfl) (by kernel_rfl) (fun _ _ _ h => h) (Or.inl ⟨by rfl, fun w hSw => by (try dsimp only at hSw); go_simp⟩) (by assumption) ?_
  try simp only [List.getElem_toArray, List.getElem_cons_zero, List.getElem_cons_succ, Act.put, List.setIfInBounds_toArray, List.set_cons_zero, List.set_cons_succ]
  refine wpAnyH_ready (rs := [8]) (by kernel_rfl) (by simp) ?_
  refine AllReadyH.cons (i := 8) rfl (fun K hK => ?_) AllReadyH.nil
  go_simp
  refine (hG _).mono ?_
  rintro e w3 ⟨rfl, rfl⟩
  clear hHeld
  show K _ _
  refine hK.out _ _ (in2 A0) (fun hHeld => ?_)
  clear hK K
  try simp only [List.getElem_toArray, List.getElem_cons_zero, List.getElem_cons_succ, Act.put, List.setIfInBounds_toArray, List.set_cons_zero, List.set_cons_succ]
  refine wpAnyH_take (i := 9) (v := .tuple #[.int .u64 (n : Int), .int .i64 (t : Int), .int .i64 (f : Int)]) rfl (by kernel_rfl) (by kernel_rfl) (by kernel_rfl) (fun _ _ _ h => h) (Or.inl ⟨by rfl, fun w hSw => by (try dsimp only at hSw); go_simp⟩) (by assumption) ?_
  try simp only [List.getElem_toArray, List.getElem_cons_zero, List.getElem_cons_succ, Act.put, List.setIfInBounds_toArray, List.set_cons_zero, List.set_cons_succ]
  refine wpAnyH_take (i := 10) (v := .int .u64 (n : Int)) rfl (by kernel_rfl) (by kernel_rfl) (by kernel_rfl) (fun _ _ _ h => h) (Or.inl ⟨by rfl, fun w hSw => by (try dsimp only at hSw); go_simp⟩) (by assumption) ?_
  try simp only [List.getElem_toArray, List.getElem_cons_zero, List.getElem_cons_succ, Act.put, List.setIfInBounds_toArray, List.set_cons_zero, List.set_cons_succ]
  refine wpAnyH_take (i := 11) (v := .int .i64 (t : Int)) rfl (by kernel_rfl) (by kernel_rfl) (by kernel_rfl) (fun _ _ _ h => h) (Or.inl ⟨by rfl, fun w hSw => by (try dsimp only at hSw); go_simp⟩) (by assumption) ?_
  try simp only [List.getElem_toArray, List.getElem_cons_zero, List.getElem_cons_succ, Act.put, List.setIfInBounds_toArray, List.set_cons_zero, List.set_cons_succ]
  refine wpAnyH_take (i := 12) (v := .int .i64 (f : Int)) rfl (by kernel_rfl) (by kernel_rfl) (by kernel_rfl) (fun _ _ _ h => h) (Or.inl ⟨by rfl, fun w hSw => by (try dsimp only at hSw); go_simp⟩) (by assumption) ?_
  try simp only [List.getElem_toArray, List.getElem_cons_zero, List.getElem_cons_succ, Act.put, List.setIfInBounds_toArray, List.set_cons_zero, List.set_cons_succ]
  refine wpAnyH_take (i := 13) (v := .int .u64 (n : Int)) rfl (by kernel_rfl) (by kernel_rfl) (by kernel_rfl) (fun _ _ _ h => h) (Or.inl ⟨by rfl, fun w hSw => by (try dsimp only at hSw); go_simp⟩) (by assumption) ?_
  try simp only [List.getElem_toArray, List.getElem_cons_zero, List.getElem_cons_succ, Act.put, List.setIfInBounds_toArray, List.set_cons_zero, List.set_cons_succ]
  refine wpAnyH_take (i := 14) (v := .int .i64 (t : Int)) rfl (by kernel_rfl) (by kernel_rfl) (by kernel_rfl) (fun _ _ _ h => h) (Or.inl ⟨by rfl, fun w hSw => by (try dsimp only at hSw); go_simp⟩) (by assumption) ?_
  try simp only [List.getElem_toArray, List.getElem_cons_zero, List.getElem_cons_succ, Act.put, List.setIfInBounds_toArray, List.set_cons_zero, List.set_cons_succ]
  refine wpAnyH_take (i := 15) (v := .int .i64 (f : Int)) rfl (by kernel_rfl) (by kernel_rfl) (by kernel_rfl) (fun _ _ _ h => h) (Or.inl ⟨by rfl, fun w hSw => by (try dsimp only at hSw); go_simp⟩) (by assumption) ?_
  try simp only [List.getElem_toArray, List.getElem_cons_zero, List.getElem_cons_succ, Act.put, List.setIfInBounds_toArray, List.set_cons_zero, List.set_cons_succ]
  refine wpAnyH_done (by kernel_rfl) ?_ _
  refine NoPanic.normal ?_
  clear hHeld
  have T0 : Turn X w w.drew := turn_drew (Turn.refl X w)
  by_cases hf : f = 0
  · subst hf
    have HA := hid (in_set A0 (t : Int))
    have HT := hid (turn_set T0 1 (.int .i64 (t : Int)))
    clear T0
    go_wp2_with fail
    refine (pass_yes X s p (t : Int) _ A0).mono ?_
    rintro e w4 ⟨rfl, rfl⟩
    obtain ⟨w5, hw5⟩ : ∃ u, w.drew.setCell ⟨X, 1, none⟩ (.int .i64 (t : Int)) = u := ⟨_, rfl⟩
    rw [hw5] at HA HT ⊢
    clear hw5 A0 hG
    by_cases h1 : n < lo
    · have HE : Hid (R = (0, (p, 3))) := hid (by rw [HR.out, if_pos trivial, if_pos (.inl h1)])
      have hz1 : ¬ (lo : Int) ≤ (n : Int) := by omega
      have hn1 : ¬ lo ≤ n := by omega
      clear HR h1
      go_wp2_with fail
      refine (need_no _ _).mono ?_
      rintro e w6 ⟨rfl, rfl⟩
      go_wp2_with fail
      exact ⟨rfl, rdc_no HE.out (by decide) rfl HT.out⟩
    · by_cases h2 : hi < n
      · have HE : Hid (R = (0, (p, 3))) := hid (by rw [HR.out, if_pos trivial, if_pos (.inr h2)])
        have hz1 : (lo : Int) ≤ (n : Int) := by omega
        have hn1 : lo ≤ n := by omega
        have hz2 : ¬ (n : Int) ≤ (hi : Int) := by omega
        have hn2 : ¬ n ≤ hi := by omega
        clear HR h1 h2
        go_wp2_with fail
        refine (need_no _ _).mono ?_
        rintro e w6 ⟨rfl, rfl⟩
        go_wp2_with fail
        exact ⟨rfl, rdc_no HE.out (by decide) rfl HT.out⟩
      · have HE : Hid (R = (n, ((t : Int), 0))) := hid (by rw [HR.out, if_pos trivial, if_neg (by omega)])
        have hz1 : (lo : Int) ≤ (n : Int) := by omega
        have hn1 : lo ≤ n := by omega
        have hz2 : (n : Int) ≤ (hi : Int) := by omega
        have hn2 : n ≤ hi := by omega
        clear HR h1 h2
        go_wp2_with fail
        refine (need_yes _ _).mono ?_
        rintro e w6 ⟨rfl, rfl⟩
        go_wp2_with fail
        go_ret
        exact rdc_ok HE.out rfl HA.out HT.out
  · have HE : Hid (R = (0, (p, f))) := hid (by rw [HR.out, if_neg hf])
    have HT := hid T0
    clear HR T0 hG
    go_wp2_with fail
    refine (pass_no _ _ f hf _).mono ?_
    rintro e w4 ⟨rfl, rfl⟩
    go_wp2_with fail
    exact ⟨rfl, rdc_no HE.out hf rfl HT.out⟩
set_option maxHeartbeats 3200000 in
theorem ldKey_any (s : ByteArray) (hs : s.size ≤ 140737488355328) (p : Int) (X : Nat) (w : World) (h : In X s p w) :
    Calls Tryz.prog 102 #[.pointer (some ⟨X, 0, none⟩)] w (RdC (fun b : ByteArray => .string b) s X (keyM s (p, 0)) w) := by
  have hG : ∀ u, Calls Tryz.prog 122 #[.string s, .int .i64 p, .int .i64 250] u fun e w' => e = .returned (tripT (getT s p 250)) ∧ Kept u w' := fun u => (GetText_any s p 250 hs (by omega) u).mono (by
    rintro e w' ⟨he, hb⟩
    exact ⟨he, kept_below hb⟩)
  obtain ⟨D, t, f, hg⟩ : ∃ a b c, getT s p 250 = (a, (b, c)) := trio _
  have hD : D.size ≤ maxLen := by
    have h9 := getT_size s p 250
    rw [hg] at h9
    have h8 : D.size ≤ s.size := h9
    unfold maxLen
    omega
  rw [hg] at hG
  unfold tripT at hG
  have hK := fun u => KeyMay_any D hD u
  obtain ⟨R, hR⟩ : ∃ R, keyM s (p, 0) = R := ⟨_, rfl⟩
  have HR : Hid (R = if f = 0 then (if keyMay D then (D, ((t : Int), 0)) else (⟨#[]⟩, (p, 3))) else (⟨#[]⟩, (p, f))) := hid (by rw [← hR]; unfold keyM; simp only [hg, if_true])
  rw [hR]
  have A0 : In X s p w.drew := h
  obtain ⟨c0, c1, cf⟩ := in_cells h
  clear h hg hR hs hD
  go_enter Tryz.func102, Tryz.ntmps102
  go_wp2_with fail
  clear c0 c1 cf
  have k0 : Kept w.drew w.drew := kept_refl _
  refine wp_region_noPanic ?_
  refine wp_region_held_drew (S := (fun w' => (w'.cell? ⟨X, 0, none⟩ = some (.string s)) ∧ (w'.cell? ⟨X, 1, none⟩ = some (.int .i64 p)))) (by kernel_rfl) (in2 (in_kept A0 (by assumption))) (fun hHeld => ?_)
  refine wpAnyH_take (i := 0) (v := .pointer (some ⟨X, 0, none⟩)) rfl (by kernel_rfl) (by kernel_rfl) (by kernel_rfl) (fun _ _ _ h => h) (Or.inl ⟨by rfl, fun w hSw => by (try dsimp only at hSw); go_simp⟩) (by assumption) ?_
  try simp only [List.getElem_toArray, List.getElem_cons_zero, List.getElem_cons_succ, Act.put, List.setIfInBounds_toArray, List.set_cons_zero, List.set_cons_succ]
  refine wpAnyH_take (i := 1) (v := .pointer (some ⟨X, 0, none⟩)) rfl (by kernel_rfl) (by kernel_rfl) (by kernel_rfl) (fun _ _ _ h => h) (Or.inl ⟨by rfl, fun w hSw => by (try dsimp only at hSw); go_simp⟩) (by assumption) ?_
  try simp only [List.getElem_toArray, List.getElem_cons_zero, List.getElem_cons_succ, Act.put, List.setIfInBounds_toArray, List.set_cons_zero, List.set_cons_succ]
  refine wpAnyH_take (i := 2) (v := .pointer (some ⟨X, 0, none⟩)) rfl (by kernel_rfl) (by kernel_rfl) (by kernel_rfl) (fun _ _ _ h => h) (Or.inl ⟨by rfl, fun w hSw => by (try dsimp only at hSw); go_simp⟩) (by assumption) ?_
  try simp only [List.getElem_toArray, List.getElem_cons_zero, List.getElem_cons_succ, Act.put, List.setIfInBounds_toArray, List.set_cons_zero, List.set_cons_succ]
  refine wpAnyH_take (i := 3) (v := .string s) rfl (by kernel_rfl) (by kernel_rfl) (by kernel_rfl) (fun _ _ _ h => h) (Or.inl ⟨by rfl, fun w hSw => by (try dsimp only at hSw); go_simp⟩) (by assumption) ?_
  try simp only [List.getElem_toArray, List.getElem_cons_zero, List.getElem_cons_succ, Act.put, List.setIfInBounds_toArray, List.set_cons_zero, List.set_cons_succ]
  refine wpAnyH_take (i := 4) (v := .pointer (some ⟨X, 0, none⟩)) rfl (by kernel_rfl) (by kernel_rfl) (by kernel_rfl) (fun _ _ _ h => h) (Or.inl ⟨by rfl, fun w hSw => by (try dsimp only at hSw); go_simp⟩) (by assumption) ?_
  try simp only [List.getElem_toArray, List.getElem_cons_zero, List.getElem_cons_succ, Act.put, List.setIfInBounds_toArray, List.set_cons_zero, List.set_cons_succ]
  refine wpAnyH_take (i := 5) (v := .pointer (some ⟨X, 0, none⟩)) rfl (by kernel_rfl) (by kernel_rfl) (by kernel_rfl) (fun _ _ _ h => h) (Or.inl ⟨by rfl, fun w hSw => by (try dsimp only at hSw); go_simp⟩) (by assumption) ?_
  try simp only [List.getElem_toArray, List.getElem_cons_zero, List.getElem_cons_succ, Act.put, List.setIfInBounds_toArray, List.set_cons_zero, List.set_cons_succ]
  refine wpAnyH_take (i := 6) (v := .pointer (some ⟨X, 1, none⟩)) rfl (by kernel_rfl) (by kernel_rfl) (by kernel_rfl) (fun _ _ _ h => h) (Or.inl ⟨by rfl, fun w hSw => by (try dsimp only at hSw); go_simp⟩) (by assumption) ?_
  try simp only [List.getElem_toArray, List.getElem_cons_zero, List.getElem_cons_succ, Act.put, List.setIfInBounds_toArray, List.set_cons_zero, List.set_cons_succ]
  refine wpAnyH_take (i := 7) (v := .int .i64 p) rfl (by kernel_rfl) (by kernel_rfl) (by kernel_rfl) (fun _ _ _ h => h) (Or.inl ⟨by rfl, fun w hSw => by (try dsimp only at hSw); go_simp⟩) (by assumption) ?_
  try simp only [List.getElem_toArray, List.getElem_cons_zero, List.getElem_cons_succ, Act.put, List.setIfInBounds_toArray, List.set_cons_zero, List.set_cons_succ]
  refine wpAnyH_ready (rs := [8]) (by kernel_rfl) (by simp) ?_
  refine AllReadyH.cons (i := 8) rfl (fun K hK => ?_) AllReadyH.nil
  go_simp
  refine (hG _).mono ?_
  rintro e w3 ⟨rfl, h3⟩
  replace k0 := kept_trans k0 h3
  clear h3
  clear hHeld
  show K _ _
  refine hK.out _ _ (in2 (in_kept A0 (by assumption))) (fun hHeld => ?_)
  clear hK K
  try simp only [List.getElem_toArray, List.getElem_cons_zero, List.getElem_cons_succ, Act.put, List.setIfInBounds_toArray, List.set_cons_zero, List.set_cons_succ]
  refine wpAnyH_take (i := 9) (v := .tuple #[.string D, .int .i64 (t : Int), .int .i64 (f : Int)]) rfl (by kernel_rfl) (by kernel_rfl) (by kernel_rfl) (fun _ _ _ h => h) (Or.inl ⟨by rfl, fun w hSw => by (try dsimp only at hSw); go_simp⟩) (by assumption) ?_
  try simp only [List.getElem_toArray, List.getElem_cons_zero, List.getElem_cons_succ, Act.put, List.setIfInBounds_toArray, List.set_cons_zero, List.set_cons_succ]
  refine wpAnyH_take (i := 10) (v := .string D) rfl (by kernel_rfl) (by kernel_rfl) (by kernel_rfl) (fun _ _ _ h => h) (Or.inl ⟨by rfl, fun w hSw => by (try dsimp only at hSw); go_simp⟩) (by assumption) ?_
  try simp only [List.getElem_toArray, List.getElem_cons_zero, List.getElem_cons_succ, Act.put, List.setIfInBounds_toArray, List.set_cons_zero, List.set_cons_succ]
  refine wpAnyH_take (i := 11) (v := .int .i64 (t : Int)) rfl (by kernel_rfl) (by kernel_rfl) (by kernel_rfl) (fun _ _ _ h => h) (Or.inl ⟨by rfl, fun w hSw => by (try dsimp only at hSw); go_simp⟩) (by assumption) ?_
  try simp only [List.getElem_toArray, List.getElem_cons_zero, List.getElem_cons_succ, Act.put, List.setIfInBounds_toArray, List.set_cons_zero, List.set_cons_succ]
  refine wpAnyH_take (i := 12) (v := .int .i64 (f : Int)) rfl (by kernel_rfl) (by kernel_rfl) (by kernel_rfl) (fun _ _ _ h => h) (Or.inl ⟨by rfl, fun w hSw => by (try dsimp only at hSw); go_simp⟩) (by assumption) ?_
  try simp only [List.getElem_toArray, List.getElem_cons_zero, List.getElem_cons_succ, Act.put, List.setIfInBounds_toArray, List.set_cons_zero, List.set_cons_succ]
  refine wpAnyH_take (i := 13) (v := .string D) rfl (by kernel_rfl) (by kernel_rfl) (by kernel_rfl) (fun _ _ _ h => h) (Or.inl ⟨by rfl, fun w hSw => by (try dsimp only at hSw); go_simp⟩) (by assumption) ?_
  try simp only [List.getElem_toArray, List.getElem_cons_zero, List.getElem_cons_succ, Act.put, List.setIfInBounds_toArray, List.set_cons_zero, List.set_cons_succ]
  refine wpAnyH_take (i := 14) (v := .int .i64 (t : Int)) rfl (by kernel_rfl) (by kernel_rfl) (by kernel_rfl) (fun _ _ _ h => h) (Or.inl ⟨by rfl, fun w hSw => by (try dsimp only at hSw); go_simp⟩) (by assumption) ?_
  try simp only [List.getElem_toArray, List.getElem_cons_zero, List.getElem_cons_succ, Act.put, List.setIfInBounds_toArray, List.set_cons_zero, List.set_cons_succ]
  refine wpAnyH_take (i := 15) (v := .int .i64 (f : Int)) rfl (by kernel_rfl) (by kernel_rfl) (by kernel_rfl) (fun _ _ _ h => h) (Or.inl ⟨by rfl, fun w hSw => by (try dsimp only at hSw); go_simp⟩) (by assumption) ?_
  try simp only [List.getElem_toArray, List.getElem_cons_zero, List.getElem_cons_succ, Act.put, List.setIfInBounds_toArray, List.set_cons_zero, List.set_cons_succ]
  refine wpAnyH_done (by kernel_rfl) ?_ _
  refine NoPanic.normal ?_
  clear hHeld
  have A1 := in_kept A0 k0
  have T0 := turn_kept (c := X) (kept_trans (kept_drew (kept_refl w)) k0)
  clear A0 k0
  rename_i wx
  by_cases hf : f = 0
  · subst hf
    have HA := hid (in_set A1 (t : Int))
    have HT := hid (turn_set T0 1 (.int .i64 (t : Int)))
    clear T0
    go_wp2_with fail
    refine (pass_yes X s p (t : Int) _ A1).mono ?_
    rintro e w4 ⟨rfl, rfl⟩
    clear A1 hG
    generalize World.setCell _ ⟨X, 1, none⟩ (.int .i64 (t : Int)) = w5 at *
    cases hk : keyMay D with
    | false =>
      have HE : Hid (R = (⟨#[]⟩, (p, 3))) := hid (by rw [HR.out, if_pos trivial, hk]; rfl)
      rw [hk] at hK
      clear HR hk
      go_wp2_with fail
      refine (hK _).mono ?_
      rintro e w6 ⟨rfl, rfl⟩
      go_wp2_with fail
      refine (need_no _ _).mono ?_
      rintro e w7 ⟨rfl, rfl⟩
      go_wp2_with fail
      exact ⟨rfl, rdc_no HE.out (by decide) rfl HT.out⟩
    | true =>
      have HE : Hid (R = (D, ((t : Int), 0))) := hid (by rw [HR.out, if_pos trivial, hk]; rfl)
      rw [hk] at hK
      clear HR hk
      go_wp2_with fail
      refine (hK _).mono ?_
      rintro e w6 ⟨rfl, rfl⟩
      go_wp2_with fail
      refine (need_yes _ _).mono ?_
      rintro e w7 ⟨rfl, rfl⟩
      go_wp2_with fail
      go_ret
      exact rdc_ok HE.out rfl HA.out HT.out
  · have HE : Hid (R = (⟨#[]⟩, (p, f))) := hid (by rw [HR.out, if_neg hf])
    have HT := hid T0
    clear HR T0 hG
    go_wp2_with fail
    refine (pass_no _ _ f hf _).mono ?_
    rintro e w4 ⟨rfl, rfl⟩
    go_wp2_with fail
    exact ⟨rfl, rdc_no HE.out hf rfl HT.out⟩
end Go.Proofs.YtioeidhblbfgmaaGreat


namespace Go.Proofs.YtioeidhblbfgmaaGreat
set_option linter.unusedVariables false
set_option maxRecDepth 100000
set_option linter.unusedSimpArgs false

theorem getR_of {s : ByteArray} {p : Int} {T : ByteArray} {q : Int} {e : Nat} (hT : stepT s 250 p 0 = (T, q, e)) : getR s p = outR (recP s (T, q, e)) := by
  unfold getR; rw [hT]
theorem rec_six {s T : ByteArray} {q : Int} {e : Nat} (hv : valN s q e 3 = 3) : recP s (T, q, e) = (⟨T, ⟨valN s q e 0, valN s q e 1, valN s q e 2⟩, valN s q e 3, valN s q e 4, valN s q e 5, (stepT s 1024 (runN s q e 6).1 (runN s q e 6).2).1⟩, (stepT s 1024 (runN s q e 6).1 (runN s q e 6).2).2) := by
  unfold recP; rw [if_pos hv]
theorem rec_four {s T : ByteArray} {q : Int} {e : Nat} (hv : valN s q e 3 ≠ 3) : recP s (T, q, e) = (⟨T, ⟨valN s q e 0, valN s q e 1, valN s q e 2⟩, valN s q e 3, 0, 0, ⟨#[]⟩⟩, runN s q e 4) := by
  unfold recP; rw [if_neg hv]
theorem out_fault {r : R} {x : Int × Nat} {f : Nat} (h : x.2 = f) (hf : f ≠ 0) : outR (r, x) = (zeroR, 0, f) := by
  unfold outR
  rw [if_neg (by show x.2 ≠ 0; omega)]
  show (zeroR, (0 : Int), x.2) = _
  rw [h]
theorem out_may {r : R} {i : Int} : outR (r, i, 0) = if mayR r = true then (r, i, 0) else (zeroR, 0, 3) := by
  unfold outR; rw [if_pos rfl]
theorem get_fault {s : ByteArray} {p : Int} {T : ByteArray} {q : Int} (hT : stepT s 250 p 0 = (T, q, 0)) {k f : Nat} (h : (runN s q 0 (k + 1)).2 = f) (hf : f ≠ 0) (hk : k + 1 ≤ 4 ∨ (k + 1 ≤ 6 ∧ valN s q 0 3 = 3)) : getR s p = (zeroR, 0, f) := by
  rw [getR_of hT]
  have st := run_stays s q 0 (k + 1) (by omega)
  by_cases hv : valN s q 0 3 = 3
  · rw [rec_six hv]
    have h6 : (runN s q 0 6).2 = f := by
      have := st (6 - (k + 1))
      rw [show k + 1 + (6 - (k + 1)) = 6 by omega] at this
      rw [this, h]
    refine out_fault ?_ hf
    unfold stepT
    rw [if_neg (by omega)]
    exact h6
  · rw [rec_four hv]
    have h4 : (runN s q 0 4).2 = f := by
      have := st (4 - (k + 1))
      rw [show k + 1 + (4 - (k + 1)) = 4 by omega] at this
      rw [this, h]
    exact out_fault h4 hf
theorem get_four {s : ByteArray} {p : Int} {T : ByteArray} {q : Int} (hT : stepT s 250 p 0 = (T, q, 0)) (hv : valN s q 0 3 ≠ 3) {i : Int} (h : runN s q 0 4 = (i, 0)) :
    getR s p = if mayR ⟨T, ⟨valN s q 0 0, valN s q 0 1, valN s q 0 2⟩, valN s q 0 3, 0, 0, ⟨#[]⟩⟩ = true then (⟨T, ⟨valN s q 0 0, valN s q 0 1, valN s q 0 2⟩, valN s q 0 3, 0, 0, ⟨#[]⟩⟩, i, 0) else (zeroR, 0, 3) := by
  rw [getR_of hT, rec_four hv, h, out_may]
theorem get_six_bad {s : ByteArray} {p : Int} {T : ByteArray} {q : Int} (hT : stepT s 250 p 0 = (T, q, 0)) (hv : valN s q 0 3 = 3) {i : Int} (h : runN s q 0 6 = (i, 0)) {D : ByteArray} {t f : Nat} (hg : getT s i 1024 = (D, t, f)) (hf : f ≠ 0) :
    getR s p = (zeroR, 0, f) := by
  rw [getR_of hT, rec_six hv, h]
  refine out_fault ?_ hf
  unfold stepT
  rw [if_pos rfl, hg]
theorem get_six {s : ByteArray} {p : Int} {T : ByteArray} {q : Int} (hT : stepT s 250 p 0 = (T, q, 0)) (hv : valN s q 0 3 = 3) {i : Int} (h : runN s q 0 6 = (i, 0)) {D : ByteArray} {t : Nat} (hg : getT s i 1024 = (D, t, 0)) :
    getR s p = if mayR ⟨T, ⟨valN s q 0 0, valN s q 0 1, valN s q 0 2⟩, valN s q 0 3, valN s q 0 4, valN s q 0 5, D⟩ = true then (⟨T, ⟨valN s q 0 0, valN s q 0 1, valN s q 0 2⟩, valN s q 0 3, valN s q 0 4, valN s q 0 5, D⟩, (t : Int), 0) else (zeroR, 0, 3) := by
  have e : stepT s 1024 i 0 = (D, (t : Int), 0) := by unfold stepT; rw [if_pos rfl, hg]
  rw [getR_of hT, rec_six hv, h, e, out_may]
theorem get_text {s : ByteArray} {p : Int} {T : ByteArray} {q : Int} {e : Nat} (hT : stepT s 250 p 0 = (T, q, e)) (he : e ≠ 0) : getR s p = (zeroR, 0, e) := by
  rw [getR_of hT]
  have h3 : (runN s q e 3).2 = e := run_stays s q e 0 he 3
  have h4 : (runN s q e 4).2 = e := run_stays s q e 0 he 4
  have hv : valN s q e 3 ≠ 3 := by
    unfold valN
    rw [stepN_fault _ _ _ _ (by rw [h3]; exact he)]
    show (0 : Nat) ≠ 3
    omega
  rw [rec_four hv]
  exact out_fault h4 he
/- One step. -/
theorem step_bad {s : ByteArray} {q : Int} {k : Nat} {i : Int} (h : runN s q 0 k = (i, 0)) {v t f : Nat} (hg : getN s i = (v, t, f)) (hf : f ≠ 0) : (runN s q 0 (k + 1)).2 = f := by
  show (stepN s (mostOf k) (runN s q 0 k).1 (runN s q 0 k).2).2.2 = f
  rw [h]
  unfold stepN
  simp only [hg]
  rw [if_pos trivial, if_neg hf]
theorem step_big {s : ByteArray} {q : Int} {k : Nat} {i : Int} (h : runN s q 0 k = (i, 0)) {v t : Nat} (hg : getN s i = (v, t, 0)) (hm : mostOf k < v) : (runN s q 0 (k + 1)).2 = 3 := by
  show (stepN s (mostOf k) (runN s q 0 k).1 (runN s q 0 k).2).2.2 = 3
  rw [h]
  unfold stepN
  simp only [hg]
  rw [if_pos trivial, if_pos trivial, if_pos hm]
theorem step_good {s : ByteArray} {q : Int} {k : Nat} {i : Int} (h : runN s q 0 k = (i, 0)) {v t : Nat} (hg : getN s i = (v, t, 0)) (hm : ¬ mostOf k < v) : runN s q 0 (k + 1) = ((t : Int), 0) ∧ valN s q 0 k = v := by
  have e : stepN s (mostOf k) i 0 = (v, (t : Int), 0) := by
    unfold stepN
    simp only [hg]
    rw [if_pos trivial, if_pos trivial, if_neg hm]
  exact run_next h e
/- The row of the numbers that are read. -/
def arrN (V : Nat → Nat) (k : Nat) : Array Value := #[.int .u64 ((if 0 < k then V 0 else 0 : Nat) : Int), .int .u64 ((if 1 < k then V 1 else 0 : Nat) : Int), .int .u64 ((if 2 < k then V 2 else 0 : Nat) : Int), .int .u64 ((if 3 < k then V 3 else 0 : Nat) : Int), .int .u64 ((if 4 < k then V 4 else 0 : Nat) : Int), .int .u64 ((if 5 < k then V 5 else 0 : Nat) : Int)]
def arrM : Array Value := #[.int .u64 18446744073709551615, .int .u64 4294967295, .int .u64 255, .int .u64 255, .int .u64 4294967295, .int .u64 18446744073709551615]
theorem arrM_cell {k : Nat} (h : k < 6) : arrM[k]? = some (.int .u64 (mostOf k : Int)) := by
  match k, h with
  | 0, _ => rfl
  | 1, _ => rfl
  | 2, _ => rfl
  | 3, _ => rfl
  | 4, _ => rfl
  | 5, _ => rfl
theorem arrN_cell {V : Nat → Nat} {k : Nat} (h : k < 6) : (arrN V k)[k]? = some (.int .u64 0) := by
  match k, h with
  | 0, _ => rfl
  | 1, _ => rfl
  | 2, _ => rfl
  | 3, _ => rfl
  | 4, _ => rfl
  | 5, _ => rfl
theorem arrN_next {V : Nat → Nat} {k : Nat} (h : k < 6) : (arrN V k).setIfInBounds k (.int .u64 (V k : Int)) = arrN V (k + 1) := by
  match k, h with
  | 0, _ => rfl
  | 1, _ => rfl
  | 2, _ => rfl
  | 3, _ => rfl
  | 4, _ => rfl
  | 5, _ => rfl
theorem rec_okay {s T : ByteArray} {q : Int} (h : T.size ≤ maxLen) {a b : Nat} {D : ByteArray} (hD : D.size ≤ maxLen) (ha : a ≤ 4294967295) (hb : b ≤ 18446744073709551615) : R.ok ⟨T, ⟨valN s q 0 0, valN s q 0 1, valN s q 0 2⟩, valN s q 0 3, a, b, D⟩ := by
  have b0 : valN s q 0 0 ≤ 18446744073709551615 := val_le s q 0 0
  have b1 : valN s q 0 1 ≤ 4294967295 := val_le s q 0 1
  have b2 : valN s q 0 2 ≤ 255 := val_le s q 0 2
  have b3 : valN s q 0 3 ≤ 255 := val_le s q 0 3
  refine ⟨h, ?_, ?_, ?_, ?_, hD⟩
  · unfold Stp.ok; simp only; omega
  · simp only; omega
  · simp only; omega
  · simp only; omega
end Go.Proofs.YtioeidhblbfgmaaGreat
