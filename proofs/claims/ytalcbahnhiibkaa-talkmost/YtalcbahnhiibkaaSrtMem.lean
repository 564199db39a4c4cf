/- A row of places in memory, and the library's exchange of two ranges of it. The row has at most 64 members. -/
import Derived.Test.YtalcbahnhiibkaaSrtMath
import Derived.Test.YtalcbahnhiibkaaTkRows
import Derived.BigQuiet
import Derived.BigRegion
namespace Go.Proofs.Ytalcbahnhiibkaa
open Go.ChangeShapes Go.WideShapes Go.ChangeAt Go.RowKit
set_option linter.unusedVariables false
set_option linter.unusedSimpArgs false
set_option maxRecDepth 100000

def nv (D : Nat → Nat) (n : Nat) : Array Value := (Array.range n).map (fun k => Value.int .i64 ((D k : Nat) : Int))
theorem nv_size (D : Nat → Nat) (n : Nat) : (nv D n).size = n := by simp [nv]
theorem nv_get (D : Nat → Nat) {n k : Nat} (h : k < n) : (nv D n)[k]? = some (.int .i64 ((D k : Nat) : Int)) := by
  unfold nv
  rw [Array.getElem?_map, Array.getElem?_range, if_pos h]
  rfl
theorem nv_all {cs : Array Value} {D : Nat → Nat} {n : Nat} (hs : cs.size = n) (h : ∀ k, k < n → cs[k]? = some (.int .i64 ((D k : Nat) : Int))) : cs = nv D n := by
  apply Array.ext (by rw [nv_size, hs])
  intro i h1 h2
  have e1 := h i (by omega)
  have e2 := nv_get D (n := n) (k := i) (by omega)
  rw [← e2, Array.getElem?_eq_getElem h1, Array.getElem?_eq_getElem h2] at e1
  exact Option.some.inj e1
def Pl (w : World) (R n : Nat) (D : Nat → Nat) : Prop := At w R (nv D n) 3
section
variable {w w' : World} {R n : Nat} {D E : Nat → Nat}
theorem pl_cell (h : Pl w R n D) {k : Nat} (hk : k < n) : w.cell? ⟨R, k, none⟩ = some (.int .i64 ((D k : Nat) : Int)) := (at_cell h k).trans (nv_get D hk)
theorem pl_free (h : Pl w R n D) (j : Nat) : w.frozen? ⟨R, j, none⟩ = false := at_frozen h j
theorem pl_ext (h : Pl w R n D) (e : ∀ k, k < n → E k = D k) : Pl w R n E := by
  unfold Pl at *
  rw [show nv E n = nv D n from (nv_all (nv_size E n) (fun k hk => by rw [nv_get E hk, e k hk]))]
  exact h
theorem pl_kept (h : Pl w R n D) (k : Kept w w') : Pl w' R n D := at_kept h k
theorem pl_drewN (h : Pl w R n D) (q : Nat) : Pl (w.drewN q) R n D := h
theorem pl_sw (h : Pl w R n D) {i j : Nat} (hi : i < n) (hj : j < n) : Pl ((w.setCell ⟨R, i, none⟩ (.int .i64 ((D j : Nat) : Int))).setCell ⟨R, j, none⟩ (.int .i64 ((D i : Nat) : Int))) R n (sw D i j) := by
  have h2 := at_set (at_set h i (.int .i64 ((D j : Nat) : Int))) j (.int .i64 ((D i : Nat) : Int))
  unfold Pl
  rw [← nv_all (cs := ((nv D n).setIfInBounds i (.int .i64 ((D j : Nat) : Int))).setIfInBounds j (.int .i64 ((D i : Nat) : Int))) (by simp [nv_size]) (fun k hk => ?_)]
  · exact h2
  · rw [Array.getElem?_setIfInBounds, Array.getElem?_setIfInBounds]
    simp only [Array.size_setIfInBounds, nv_size]
    unfold sw
    by_cases e1 : j = k
    · subst e1
      rw [if_pos rfl, if_pos hj]
      by_cases e2 : j = i
      · subst e2; rw [if_pos rfl]
      · rw [if_neg e2, if_pos rfl]
    · rw [if_neg e1]
      by_cases e2 : i = k
      · subst e2
        rw [if_pos rfl, if_pos hi, if_pos rfl]
      · rw [if_neg e2, nv_get D hk, if_neg (Ne.symm e2), if_neg (Ne.symm e1)]
theorem turn_sw {w0 : World} (h : Turn R w0 w) (i j : Nat) (x y : Value) : Turn R w0 ((w.setCell ⟨R, i, none⟩ x).setCell ⟨R, j, none⟩ y) := turn_set (turn_set h i x) j y
theorem turn_drewN (h : Turn R w w') (q : Nat) : Turn R w (w'.drewN q) := h
end
def intOf : Value → Int
  | .int _ q => q
  | _ => 0
set_option maxHeartbeats 1600000 in
theorem swr_any {R n cap a b c : Nat} {D : Nat → Nat} {f : Value} (w0 w : World) (h : Pl w R n D) (ht : Turn R w0 w) (hn : n ≤ 64) (h1 : a + c ≤ b) (h2 : b + c ≤ n) :
    Calls Try.prog 34 #[.slice (some ⟨R, 0, none⟩) n cap, .int .i64 (a : Int), .int .i64 (b : Int), .int .i64 (c : Int), f] w fun e w' => e = .returned (.tuple #[]) ∧ Pl w' R n (swr D a b c) ∧ Turn R w0 w' := by
  have HP := hid h
  have HT := hid ht
  clear h ht
  go_enter Try.func34, Try.ntmps34
  go_wp2
  go_loopw [10] (fun vi wr => ∃ k : Nat, k ≤ c ∧ vi = .int .i64 (k : Int) ∧ Hid (Pl wr R n (swr D a b k)) ∧ Hid (Turn R w0 wr)) (fun vi _ => c - (intOf vi).toNat)
  case atStart => exact ⟨0, Nat.zero_le _, rfl, hid (pl_ext HP.out (fun p _ => swr_zero D a b p)), HT⟩
  case round =>
    obtain ⟨k, hk, rfl, HPr, HTr⟩ := hrel
    by_cases hlt : k < c
    · have hltz : (k : Int) < (c : Int) := by omega
      obtain ⟨i, hi⟩ : ∃ i, a + k = i := ⟨_, rfl⟩
      obtain ⟨j, hj⟩ : ∃ j, b + k = j := ⟨_, rfl⟩
      have hwi : IntKind.i64.wrap ((a : Int) + (k : Int)) = (i : Int) := by rw [IntWalk.i64_in _ (by omega)]; omega
      have hwj : IntKind.i64.wrap ((b : Int) + (k : Int)) = (j : Int) := by rw [IntWalk.i64_in _ (by omega)]; omega
      have bi : (i : Int) < (n : Int) := by omega
      have bj : (j : Int) < (n : Int) := by omega
      obtain ⟨x, hx⟩ : ∃ x, ((swr D a b k i : Nat) : Int) = x := ⟨_, rfl⟩
      obtain ⟨y, hy⟩ : ∃ y, ((swr D a b k j : Nat) : Int) = y := ⟨_, rfl⟩
      have ci := pl_cell HPr.out (k := i) (by omega)
      have cj := pl_cell HPr.out (k := j) (by omega)
      rw [hx] at ci
      rw [hy] at cj
      have fi := pl_free HPr.out i
      have fj := pl_free HPr.out j
      have hne : i ≠ j := by omega
      have hne2 : j ≠ i := by omega
      have HI : Hid (a + k = i ∧ b + k = j ∧ ((swr D a b k i : Nat) : Int) = x ∧ ((swr D a b k j : Nat) : Int) = y) := hid ⟨hi, hj, hx, hy⟩
      clear hi hj hx hy
      go_wp2
      go_region
      all_goals go_wp2
      go_roundw
      case rel =>
        refine ⟨k + 1, by omega, by go_num, hid ?_, hid (turn_sw HTr.out i j _ _)⟩
        obtain ⟨e1, e2, e3, e4⟩ := HI.out
        rw [← e3, ← e4, ← e1, ← e2]
        exact pl_ext (pl_sw HPr.out (by omega) (by omega)) (fun p _ => (swr_next (by omega) p).symm)
      case measure => simp [intOf]; omega
    · have hltz : ¬ (k : Int) < (c : Int) := by omega
      obtain rfl : k = c := by omega
      go_wp2
      go_end0
      exact ⟨rfl, HPr.out, HTr.out⟩
set_option maxHeartbeats 1600000 in
theorem rot_any {R n cap a m b : Nat} {D : Nat → Nat} {f : Value} (w0 w : World) (h : Pl w R n D) (ht : Turn R w0 w) (hn : n ≤ 64) (h1 : a < m) (h2 : m < b) (h3 : b ≤ n) :
    Calls Try.prog 33 #[.slice (some ⟨R, 0, none⟩) n cap, .int .i64 (a : Int), .int .i64 (m : Int), .int .i64 (b : Int), f] w fun e w' => e = .returned (.tuple #[]) ∧ Pl w' R n (rot D a m b) ∧ Turn R w0 w' := by
  have HP := hid h
  have HT := hid ht
  clear h ht
  obtain ⟨i0, hi0⟩ : ∃ i0, m - a = i0 := ⟨_, rfl⟩
  obtain ⟨j0, hj0⟩ : ∃ j0, b - m = j0 := ⟨_, rfl⟩
  have hwi : IntKind.i64.wrap ((m : Int) - (a : Int)) = (i0 : Int) := by rw [IntWalk.i64_in _ (by omega)]; omega
  have hwj : IntKind.i64.wrap ((b : Int) - (m : Int)) = (j0 : Int) := by rw [IntWalk.i64_in _ (by omega)]; omega
  have HI : Hid (m - a = i0 ∧ b - m = j0) := hid ⟨hi0, hj0⟩
  clear hi0 hj0
  have hS : ∀ (x y c : Nat) (E : Nat → Nat) (u : World), Pl u R n E → Turn R w0 u → x + c ≤ y → y + c ≤ n → Calls Try.prog 34 #[.slice (some ⟨R, 0, none⟩) n cap, .int .i64 (x : Int), .int .i64 (y : Int), .int .i64 (c : Int), f] u fun e w' => e = .returned (.tuple #[]) ∧ Pl w' R n (swr E x y c) ∧ Turn R w0 w' := fun x y c E u hp ht g1 g2 => swr_any w0 u hp ht hn g1 g2
  have HS := hid hS
  clear hS
  go_enter Try.func33, Try.ntmps33
  go_wp2
  go_loopw [10, 11] (fun vi vj wr => ∃ i j : Nat, 1 ≤ i ∧ 1 ≤ j ∧ i ≤ m - a ∧ j ≤ b - m ∧ vi = .int .i64 (i : Int) ∧ vj = .int .i64 (j : Int) ∧ (∃ E, Hid (Pl wr R n E) ∧ Hid (∀ p, rot E (m - i) m (m + j) p = rot D a m b p)) ∧ Hid (Turn R w0 wr)) (fun vi vj _ => (intOf vi).toNat + (intOf vj).toNat)
  case atStart =>
    obtain ⟨e1, e2⟩ := HI.out
    exact ⟨i0, j0, by omega, by omega, by omega, by omega, rfl, rfl, ⟨D, HP, hid (fun p => by rw [show m - i0 = a by omega, show m + j0 = b by omega])⟩, HT⟩
  case round =>
    obtain ⟨i, j, hi1, hj1, hi2, hj2, rfl, rfl, ⟨E, HE, HR⟩, HTr⟩ := hrel
    clear HI hwi hwj HP HT
    rcases Nat.lt_trichotomy i j with hlt | heq | hgt
    · have t1 : ((i : Int) != (j : Int)) = true := by simp; omega
      have t2 : ¬ (j : Int) < (i : Int) := by omega
      obtain ⟨x, hx⟩ : ∃ x, m - i = x := ⟨_, rfl⟩
      obtain ⟨y, hy⟩ : ∃ y, m + j - i = y := ⟨_, rfl⟩
      obtain ⟨z, hz⟩ : ∃ z, j - i = z := ⟨_, rfl⟩
      have w1 : IntKind.i64.wrap ((m : Int) - (i : Int)) = (x : Int) := by rw [IntWalk.i64_in _ (by omega)]; omega
      have w2 : IntKind.i64.wrap ((m : Int) + (j : Int)) = (m : Int) + (j : Int) := by rw [IntWalk.i64_in _ (by omega)]
      have w3 : IntKind.i64.wrap ((m : Int) + (j : Int) - (i : Int)) = (y : Int) := by rw [IntWalk.i64_in _ (by omega)]; omega
      have w4 : IntKind.i64.wrap ((j : Int) - (i : Int)) = (z : Int) := by rw [IntWalk.i64_in _ (by omega)]; omega
      have hC := HS.out x y i E wr HE.out HTr.out (by omega) (by omega)
      have HX : Hid (m - i = x ∧ m + j - i = y ∧ j - i = z) := hid ⟨hx, hy, hz⟩
      clear hx hy hz
      go_wp2_with fail
      refine hC.mono ?_
      rintro e w3 ⟨rfl, p3, t3⟩
      have HP3 := hid p3
      have HT3 := hid t3
      clear p3 t3 hC
      go_wp2_with fail
      go_roundw
      case rel =>
        obtain ⟨e1, e2, e3⟩ := HX.out
        refine ⟨i, z, hi1, by omega, hi2, by omega, rfl, by go_num, ⟨_, HP3, hid (fun p => ?_)⟩, HT3⟩
        rw [← HR.out p, ← e1, ← e2, ← e3]
        exact rot_lt (by omega) hlt p
      case measure =>
        have hz := HX.out
        clear w1
        simp [intOf]
        omega
    · subst heq
      have t1 : ((i : Int) != (i : Int)) = false := by simp
      obtain ⟨x, hx⟩ : ∃ x, m - i = x := ⟨_, rfl⟩
      have w1 : IntKind.i64.wrap ((m : Int) - (i : Int)) = (x : Int) := by rw [IntWalk.i64_in _ (by omega)]; omega
      have hC := HS.out x m i E wr HE.out HTr.out (by omega) (by omega)
      have HX : Hid (m - i = x) := hid hx
      clear hx
      go_wp2_with fail
      refine hC.mono ?_
      rintro e w3 ⟨rfl, p3, t3⟩
      have HP3 := hid p3
      have HT3 := hid t3
      clear p3 t3 hC
      go_wp2_with fail
      go_end0
      refine ⟨rfl, pl_ext HP3.out (fun p _ => ?_), HT3.out⟩
      rw [← HR.out p, ← HX.out]
      exact (rot_eq (by omega) p).symm
    · have t1 : ((i : Int) != (j : Int)) = true := by simp; omega
      have t2 : (j : Int) < (i : Int) := by omega
      obtain ⟨x, hx⟩ : ∃ x, m - i = x := ⟨_, rfl⟩
      obtain ⟨z, hz⟩ : ∃ z, i - j = z := ⟨_, rfl⟩
      have w1 : IntKind.i64.wrap ((m : Int) - (i : Int)) = (x : Int) := by rw [IntWalk.i64_in _ (by omega)]; omega
      have w4 : IntKind.i64.wrap ((i : Int) - (j : Int)) = (z : Int) := by rw [IntWalk.i64_in _ (by omega)]; omega
      have hC := HS.out x m j E wr HE.out HTr.out (by omega) (by omega)
      have HX : Hid (m - i = x ∧ i - j = z) := hid ⟨hx, hz⟩
      clear hx hz
      go_wp2_with fail
      refine hC.mono ?_
      rintro e w3 ⟨rfl, p3, t3⟩
      have HP3 := hid p3
      have HT3 := hid t3
      clear p3 t3 hC
      go_wp2_with fail
      go_roundw
      case rel =>
        obtain ⟨e1, e2⟩ := HX.out
        refine ⟨z, j, by omega, hj1, by omega, hj2, by go_num, rfl, ⟨_, HP3, hid (fun p => ?_)⟩, HT3⟩
        rw [← HR.out p, ← e1, ← e2]
        exact rot_gt (by omega) hgt p
      case measure =>
        have hz := HX.out
        clear w1
        simp [intOf]
        omega
end Go.Proofs.Ytalcbahnhiibkaa
