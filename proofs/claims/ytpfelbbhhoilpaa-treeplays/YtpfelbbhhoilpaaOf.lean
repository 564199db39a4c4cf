/- The contract of Of. -/
import Derived.Test.YtpfelbbhhoilpaaFlips
namespace Go.Proofs.Ytpfelbbhhoilpaa
open Go.ChangeShapes Go.WideShapes Go.ChangeAt Go.RowKit
set_option linter.unusedVariables false
set_option linter.unusedSimpArgs false
set_option maxRecDepth 100000

theorem of_bad (a : Option Addr) (len cap : Nat) (h : len ≠ 64) (w : World) : Calls Try.prog 23 #[.slice a len cap] w fun e w' => e = .returned (.tuple #[.pointer none, .int .i64 1]) ∧ w' = w := by
  have e1 : ((len : Int) != 64) = true := by simp; omega
  go_enter Try.func23, Try.ntmps23
  go_wp2_with fail
  go_ret2
  exact ⟨rfl, rfl⟩
/- Leaves laid into a tree. -/
def lay (L : Nat → Int) (k : Nat) : Int := if 64 ≤ k then L (k - 64) else 0
theorem copy_in {w : World} {X : Nat} {v : Value} {L : Nat → Int} (hX : Tr w X (fun _ => 0)) (hv : Ra w v L 64) (ty : TypeId) :
    (Builtin.copy_ #[37, 37] ty #[.slice (some ⟨X, 64, none⟩) 64 64, v]).run Try.prog w = .ok (.int .i64 64) (w.setRow X (nv (lay L) 128)) := by
  obtain ⟨a, c, rfl, h⟩ := hv
  obtain ⟨g, o, rfl, hc⟩ := h (by omega)
  have hx := run_copy_row (P := Try.prog) w 37 37 ty 26 X 64 64 64 ⟨g, o, none⟩ 64 c _ 54 (nv L 64).toList Try.underlying37 (by kernel_rfl) hX.1 (by rw [nv_list]; rfl)
    (fun j v hv => by
      have hj : j < 64 := by
        have := (List.getElem?_eq_some_iff.1 hv).1
        rw [nv_list] at this
        exact this
      rw [Array.getElem?_toList, nv_get L hj] at hv
      rw [addr_off, hc j hj]
      exact hv) (by rw [nv_list, nv_size]; omega) (fun v hv => by
      have := nv_one L 64
      rw [Array.all_eq_true_iff_forall_mem] at this
      exact this v (by simpa using hv))
  rw [hx]
  congr 1
  · rw [nv_list]; rfl
  · congr 1
    apply Array.ext
    · simp [nv_list, nv_size]
    · intro i h1 h2
      have h2' : i < 128 := by simpa [nv_size] using h2
      have e : ((List.take 64 (nv (nod fun _ => 0) 128).toList ++ (nv L 64).toList ++ List.drop (64 + (nv L 64).toList.length) (nv (nod fun _ => 0) 128).toList).toArray)[i]? = (nv (lay L) 128)[i]? := by
        rw [nv_get _ h2', nv_list, List.drop_eq_nil_of_le (by rw [nv_list]; omega), List.append_nil, List.getElem?_toArray]
        unfold lay
        by_cases g : 64 ≤ i
        · rw [if_pos g, List.getElem?_append_right (by rw [List.length_take, nv_list]; omega)]
          simp only [List.length_take, nv_list, Array.getElem?_toList]
          rw [show i - min 64 128 = i - 64 by omega, nv_get L (by omega)]
        · rw [if_neg g, List.getElem?_append_left (by rw [List.length_take, nv_list]; omega), List.getElem?_take, if_pos (by omega), Array.getElem?_toList, nv_get _ h2', nod_nought]
      rw [Array.getElem?_eq_getElem h1, Array.getElem?_eq_getElem h2] at e
      exact Option.some.inj e
def OfC (L : Nat → Int) (w : World) (e : Ending) (w' : World) : Prop := e = .returned (.tuple #[.pointer (some ⟨w.heap.size, 0, none⟩), .int .i64 0]) ∧ Kept w w' ∧ Tr w' w.heap.size L
set_option maxHeartbeats 3200000 in
theorem of_any {v : Value} {L : Nat → Int} (hL : Wl L) (w : World) (hv : Ra w v L 64) : Calls Try.prog 23 #[v] w (OfC L w) := by
  have hi := hv
  obtain ⟨oa, oc, rfl, -⟩ := hi
  have HV := hid hv
  have HC := hid (fun w1 (h : Tr w1 w.heap.size (fun _ => 0)) (k : Kept w w1) => copy_in h (ra_kept hv k) 3)
  have HEnd : Hid (∀ u, Nd u w.heap.size (nod L) → Kept w u → OfC L w (.returned (.tuple #[.pointer (some ⟨w.heap.size, 0, none⟩), .int .i64 0])) u) := hid (fun u h k => ⟨rfl, k, h, hL⟩)
  clear hv
  go_enter Try.func23, Try.ntmps23
  go_wp2_with fail
  refine (new_any w).mono ?_
  rintro e w1 ⟨rfl, k1, t1, s1⟩
  have HCp := HC.out w1 t1 k1
  have HN2 : Hid (Nd (w1.setRow w.heap.size (nv (lay L) 128)) w.heap.size (lay L)) := hid (at_setRow t1.1)
  have HK2 := hid (kept_setRow k1 (Nat.le_refl _) (nv (lay L) 128))
  clear k1 t1 s1 HC
  generalize w1.setRow w.heap.size (nv (lay L) 128) = w2 at *
  have HB := hid (Nat.le_refl w.heap.size)
  obtain ⟨X, hX⟩ : ∃ X, w.heap.size = X := ⟨_, rfl⟩
  have HX := hid hX
  rw [hX] at HCp HEnd HN2
  rw [hX]
  clear hX
  go_wp2_with fail
  clear HCp
  go_loopw [5] (fun i wr => ∃ (k : Nat) (N : Nat → Int), k ≤ 63 ∧ i = .int .i64 (k : Int) ∧ Hid (Nd wr X N) ∧ Hid (Kept w wr) ∧ Hid (N 0 = 0 ∧ ∀ j, k < j → j < 128 → N j = nod L j)) (fun i _ => (intOf i).toNat)
  case atStart => exact ⟨63, lay L, by omega, rfl, HN2, HK2, hid ⟨rfl, fun j h1 h2 => by unfold lay; rw [if_pos (by omega), nod_leaf _ (by omega)]⟩⟩
  case round =>
    obtain ⟨k, N, hk, rfl, HN, HK, HM⟩ := hrel
    clear HN2 HK2
    by_cases hlt : 1 ≤ k
    · have HMn : Hid (upd N k (twoI (N (2 * k)) (N (2 * k + 1))) 0 = 0 ∧ ∀ j, k - 1 < j → j < 128 → upd N k (twoI (N (2 * k)) (N (2 * k + 1))) j = nod L j) := hid ⟨by rw [upd_ne _ _ (by omega)]; exact HM.out.1, fun j h1 h2 => by
        by_cases e : j = k
        · rw [e, upd_at, nod_up L hlt (by omega), HM.out.2 (2 * k) (by omega) (by omega), HM.out.2 (2 * k + 1) (by omega) (by omega)]
        · rw [upd_ne _ _ e]
          exact HM.out.2 j (by omega) h2⟩
      have HR := hid (reckon_any (N := N) k hlt (by omega) wr HN.out)
      obtain ⟨q, hq⟩ : ∃ q, k - 1 = q := ⟨_, rfl⟩
      have hqi : (k : Int) - 1 = (q : Int) := by omega
      rw [hq] at HMn
      have hqk : q < k := by omega
      clear hq
      go_wp2_with fail
      refine HR.out.mono ?_
      rintro e w4 ⟨rfl, t4, n4⟩
      have HN4 := hid n4
      have HK4 := hid (kept_turn HK.out (by have := HX.out; omega) t4)
      clear t4 n4
      go_wp2_with fail
      go_roundw
      case rel => exact ⟨q, _, by omega, rfl, HN4, HK4, HMn⟩
      case measure => simp [intOf]; omega
    · have hk0 : k = 0 := by omega
      subst hk0
      have HNf := hid (nd_ext (M := nod L) HN.out (fun j hj => by
        rcases Nat.eq_zero_or_pos j with e | e
        · rw [e, HM.out.1, nod_zero]
        · exact HM.out.2 j e hj))
      go_wp2_with fail
      go_ret2
      exact HEnd.out _ HNf.out HK.out
end Go.Proofs.Ytpfelbbhhoilpaa
