/- The contracts of slices.Clone at members, and of the program's Fresh, All and Up. Views have at most 256 members. -/
import Derived.Test.YtdcokccfannfmaaVwRef
import Derived.Test.YtdcokccfannfmaaGCopy
import Derived.Deep.CutBlock
import Derived.Lib.SliceRun
namespace Go.Proofs.Ytdcokccfannfmaa
open Go.ChangeShapes Go.WideShapes Go.ChangeAt Go.RowKit
set_option linter.unusedVariables false
set_option linter.unusedSimpArgs false
set_option maxRecDepth 100000

set_option maxHeartbeats 1600000 in
theorem clone_is (l : List M) (hn : l.length ≤ 256) (v : Value) (w : World) (h : Rg encM 2 w v l) : Calls Try.prog 24 #[v] w (GRowC encM 2 33 l w) := by
  have HR := hid h
  obtain ⟨a, cap, rfl, h1, h2, h3, -⟩ := h
  cases a with
  | none =>
    have hc := h3 rfl
    have hl : l = [] := List.eq_nil_of_length_eq_zero (by omega)
    subst hl hc
    clear h1 h2 h3 HR
    have hq := Lib.run_eql_slice_nil (P := Try.prog) w 22 33 none 0 0 0 0 Try.underlying22
    go_enter Try.func24, Try.ntmps24
    go_wp2_with fail
    go_ret
    exact ⟨_, rfl, og_nil encM 2 33 w _, kept_refl w⟩
  | some a =>
    have HO0 := hid (builtM w)
    have HK0 := hid (kept_alloc (kept_refl w) (.cells #[] 33))
    have HR0 := hid (rg_kept encM_ok HR.out HK0.out)
    have HBw : Hid (w.heap.size ≤ (w.alloc (.cells #[] 33)).heap.size) := hid HK0.out.2
    have HVl := hid hn
    clear h1 h2 h3 hn
    have hq := Lib.run_eql_slice_nil (P := Try.prog) w 22 33 (some a) l.length cap 0 0 Try.underlying22
    go_enter Try.func24, Try.ntmps24
    go_wp2_with (at_builtin; go_must (refine wpList_gapp rfl (.tmp 5) (.tmp 6) rfl encM_ok tyM (by decide) w.heap.size _ _ _ _ rfl HO0.out rfl HR0.out (by have := HVl.out; simp; omega) HBw.out ?_; intro v3 w3 hown3 hgrow3 hnil3))
    rw [List.nil_append] at hown3
    have HK3 := hid (kept_gr HK0.out hgrow3 (fun j hj => og_lt HO0.out hj))
    have HO3 := hid hown3
    clear hown3 hgrow3 hnil3
    go_wp2_with fail
    go_ret
    exact ⟨_, rfl, HO3.out, HK3.out⟩
theorem fresh_bad (n : Int) (h : n < 1 ∨ 64 < n) : fresh n = [] := by
  unfold fresh
  split
  · rfl
  · have : n.toNat = 0 := by omega
    rw [this]
    rfl
theorem rep_set {α : Type} (a b : α) (k n : Nat) (h : k < n) : (List.replicate k b ++ List.replicate (n - k) a).set k b = List.replicate (k + 1) b ++ List.replicate (n - (k + 1)) a := by
  obtain ⟨d, hd⟩ : ∃ d, n - k = d + 1 := ⟨n - k - 1, by omega⟩
  rw [hd, show n - (k + 1) = d by omega, List.replicate_succ, List.set_append_right _ _ (by simp), List.length_replicate, Nat.sub_self, List.set_cons_zero, List.replicate_succ', List.append_assoc]
  rfl
set_option maxHeartbeats 1600000 in
theorem fresh_is : FreshIs := by
  intro n w wf
  have hb := bounds_i64 wf
  clear wf
  by_cases h1 : n < 1
  · have d1 : decide (n < 1) = true := by simpa using h1
    have HE : Hid (fresh n = []) := hid (fresh_bad n (.inl h1))
    clear hb
    go_enter Try.func17, Try.ntmps17
    go_wp2_with fail
    go_ret
    exact ⟨_, rfl, by rw [HE.out]; exact rg_nil _ _ _, kept_refl w⟩
  · have d1 : decide (n < 1) = false := by simpa using h1
    by_cases h2 : (64 : Int) < n
    · have d2 : decide ((64 : Int) < n) = true := by simpa using h2
      have HE : Hid (fresh n = []) := hid (fresh_bad n (.inr h2))
      clear hb
      go_enter Try.func17, Try.ntmps17
      go_wp2_with fail
      go_ret
      exact ⟨_, rfl, by rw [HE.out]; exact rg_nil _ _ _, kept_refl w⟩
    · have d2 : decide ((64 : Int) < n) = false := by simpa using h2
      obtain ⟨m, rfl⟩ : ∃ m : Nat, n = (m : Int) := ⟨n.toNat, by omega⟩
      have HE : Hid (fresh (m : Int) = List.replicate m ⟨1, 0⟩) := hid (by unfold fresh; rw [if_neg h2, Int.toNat_natCast])
      have HM : Hid (m ≤ 64 ∧ 1 ≤ m) := hid ⟨by omega, by omega⟩
      obtain ⟨i0, hi, hz0, hz1, hz2⟩ := info_parts infoM
      obtain ⟨cs, hmk, hog⟩ := og_full encM_ok Try.underlying22 hi hz0 hz1 (by omega) (z := ⟨0, 0⟩) rfl m (by omega) w
      have HO := hid hog
      have HK0 := hid (kept_alloc (kept_refl w) (.cells cs 33))
      clear hb h1 h2 hi hz0 hz1 hz2 hog
      go_enter Try.func17, Try.ntmps17
      go_wp2_with fail
      generalize w.alloc (.cells cs 33) = w0 at *
      generalize hB0 : w.heap.size = B0 at *
      have HB0 := hid hB0
      clear hB0 hmk
      go_loopw [15] (fun j wr => ∃ k : Nat, k ≤ m ∧ j = .int .i64 (k : Int) ∧ Hid (Og encM 2 33 wr B0 (.slice (some ⟨B0, 0, none⟩) m m) (List.replicate k ⟨1, 0⟩ ++ List.replicate (m - k) ⟨0, 0⟩)) ∧ Hid (Kept w wr)) (fun j _ => m - (intOf j).toNat)
      case atStart => exact ⟨0, Nat.zero_le _, rfl, hid (by rw [List.replicate_zero, List.nil_append, Nat.sub_zero]; exact HO.out), HK0⟩
      case round =>
        obtain ⟨k, hk, rfl, HO1, HKr⟩ := hrel
        clear HO HK0
        by_cases hlt : k < m
        · have hx : (List.replicate k (⟨1, 0⟩ : M) ++ List.replicate (m - k) ⟨0, 0⟩)[k]? = some ⟨0, 0⟩ := by
            rw [List.getElem?_append_right (by simp), List.length_replicate, Nat.sub_self, List.getElem?_replicate, if_pos (by omega)]
          have HO2 := hid (og_put encM_ok HO1.out (j := 0) (x' := ⟨1, 0⟩) (u := .int .u8 1) hx (by decide) rfl)
          obtain ⟨c0, c1⟩ := rg_M (rg_own encM_ok HO1.out) hx
          have cf := og_frozen HO1.out
          have HK2 := hid (kept_set HKr.out (show w.heap.size ≤ B0 by have := HB0.out; omega) (k * 2) (.int .u8 1))
          rw [Nat.zero_add] at c0 c1
          rw [rep_set _ _ _ _ hlt] at HO2
          simp only [Nat.add_zero] at HO2
          clear hx
          have hk64 : k ≤ 64 := by have := HM.out; omega
          go_wp2_with fail
          go_roundw
          case rel => exact ⟨k + 1, by omega, by go_num, HO2, HK2⟩
          case measure => simp [intOf]; omega
        · have he : k = m := by omega
          subst he
          go_wp2_with fail
          go_ret
          rw [Nat.sub_self, List.replicate_zero, List.append_nil] at HO1
          exact ⟨_, rfl, by rw [HE.out]; exact rg_own encM_ok HO1.out, HKr.out⟩
end Go.Proofs.Ytdcokccfannfmaa
