/- The contract of Next: the least time, or none. -/
import Derived.Test.YtdmgdmhggmehgaaWheel
namespace Go.Proofs.Ytdmgdmhggmehgaa
open Go.ChangeShapes Go.WideShapes Go.ChangeAt Go.RowKit
set_option linter.unusedVariables false
set_option linter.unusedSimpArgs false

def headM : List It → Int
  | [] => 0
  | x :: _ => x.1
def someM : List It → Bool
  | [] => false
  | _ :: _ => true
theorem next_nil (w : World) : Calls Try.prog 15 #[.pointer none] w fun e w' => e = .returned (.tuple #[.int .u64 0, .bool false]) ∧ w' = w := by
  go_enter Try.func15, Try.ntmps15
  go_wp2_with fail
  refine (len_nil _).mono ?_
  rintro e w1 ⟨rfl, rfl⟩
  go_wp2_with fail
  go_ret2
  exact ⟨rfl, rfl⟩
/- The least of the first k buckets. -/
structure Lst (L : Nat → List It) (k : Nat) (a : Int) : Prop where
  lo : 0 ≤ a
  hi : a ≤ 18446744073709551615
  le : ∀ b, b < k → ∀ x ∈ L b, a ≤ x.1
  isOne : a = 18446744073709551615 ∨ ∃ b, b < k ∧ ∃ x ∈ L b, x.1 = a
theorem lst_zero (L : Nat → List It) : Lst L 0 18446744073709551615 := ⟨by omega, by omega, fun b hb => by omega, .inl rfl⟩
theorem lst_none {L : Nat → List It} {k : Nat} {a : Int} (h : Lst L k a) (hk : L k = []) : Lst L (k + 1) a := by
  refine ⟨h.lo, h.hi, fun b hb x hx => ?_, ?_⟩
  · by_cases e : b = k
    · subst e; rw [hk] at hx; cases hx
    · exact h.le b (by omega) x hx
  · rcases h.isOne with h | ⟨b, hb, h⟩
    · exact .inl h
    · exact .inr ⟨b, by omega, h⟩
theorem lst_some {L : Nat → List It} {k : Nat} {a c : Int} {x : It} (h : Lst L k a) (hh : Heap (L k)) (hx : (L k)[0]? = some x) (h0 : 0 ≤ x.1) (h1 : x.1 ≤ 18446744073709551615) (hc : c = if x.1 < a then x.1 else a) : Lst L (k + 1) c := by
  have hmin : ∀ y ∈ L k, x.1 ≤ y.1 := fun y hy => by
    obtain ⟨j, hj⟩ := List.getElem?_of_mem hy
    have := heap_min hh j (lt_of_some hj)
    rw [du_some hx, du_some hj] at this
    exact this
  have hca : c ≤ a ∧ c ≤ x.1 ∧ (c = a ∨ c = x.1) := by rw [hc]; split <;> omega
  have hlo := h.lo
  have hhi := h.hi
  refine ⟨by omega, by omega, fun b hb y hy => ?_, ?_⟩
  · by_cases e : b = k
    · subst e; have := hmin y hy; omega
    · have := h.le b (by omega) y hy; omega
  · rcases hca.2.2 with e | e
    · rcases h.isOne with h | ⟨b, hb, y, hy, h⟩
      · exact .inl (by omega)
      · exact .inr ⟨b, by omega, y, hy, by omega⟩
    · exact .inr ⟨k, by omega, x, List.mem_of_getElem? hx, e.symm⟩
theorem lst_head {L : Nat → List It} {a : Int} {M : List It} (h : Lst L 64 a) (hs : Srt M) (hp : M.Perm (flat L)) (hn : 0 < M.length) (hw : ∀ x ∈ M, x.1 ≤ 18446744073709551615) : a = headM M := by
  match M, hn with
  | y :: t, _ =>
    show a = y.1
    obtain ⟨b, hb, hy⟩ := flat_mem.1 (hp.mem_iff.1 (List.mem_cons.2 (.inl rfl)))
    have h1 := h.le b hb y hy
    have h3 := hw y (List.mem_cons.2 (.inl rfl))
    rcases h.isOne with h2 | ⟨d, hd, x, hx, h2⟩
    · omega
    · rcases List.mem_cons.1 (hp.mem_iff.2 (flat_mem.2 ⟨d, hd, hx⟩)) with e | e
      · rw [e] at h2; omega
      · have := (List.pairwise_cons.1 hs.srt).1 x e
        unfold Lt at this
        omega
theorem some_len {M : List It} (h : 0 < M.length) : someM M = true := by
  match M, h with
  | y :: t, _ => rfl
set_option maxHeartbeats 1600000 in
theorem next_any {F : Nat → Prop} {X : Nat} {M : List It} (hM : M.length ≤ 1000) (w : World) (h : Good w F X M) : Calls Try.prog 15 #[.pointer (some ⟨X, 0, none⟩)] w fun e w' => e = .returned (.tuple #[.int .u64 (headM M), .bool (someM M)]) ∧ w' = w := by
  have hlen := len_any w h
  have hwf := good_wf h
  obtain ⟨m, V, L, g, h1, h2, h3⟩ := h
  rcases Nat.eq_zero_or_pos M.length with h0 | h0
  · have e : M = [] := List.eq_nil_of_length_eq_zero h0
    subst e
    clear h1 h2 h3 h0 hwf
    go_enter Try.func15, Try.ntmps15
    go_wp2_with fail
    refine hlen.mono ?_
    rintro e w1 ⟨rfl, rfl⟩
    clear hlen
    go_wp2_with fail
    go_ret2
    exact ⟨rfl, rfl⟩
  · have hne : ((M.length : Int) == 0) = false := by rw [beq_eq_false_iff_ne]; omega
    have HEnd : Hid (∀ a, Lst L 64 a → a = headM M) := hid (fun a ha => lst_head ha h3 h2 h0 (fun x hx => (wu_bounds (hwf x hx).2).2))
    have HSm := hid (some_len h0)
    have HV : Hid (∀ k, k < 64 → ∃ a cap, V k = .slice a (L k).length cap ∧ (L k).length ≤ 1000 ∧ w.cell? ⟨X, k, none⟩ = some (V k)) := hid (fun k hk => by
      obtain ⟨a, cap, e⟩ := row_is (h1.mem.row k hk)
      exact ⟨a, cap, e, by have := flat_len L hk; rw [← h2.length_eq] at this; omega, (wm_cell h1.mem hk).1⟩)
    have HR : Hid (∀ k, k < 64 → 0 < (L k).length → ∃ q cap x, V k = .slice (some ⟨q, 0, none⟩) (L k).length cap ∧ (L k)[0]? = some x ∧ w.cell? ⟨q, 0, none⟩ = some (.int .u64 x.1) ∧ 0 ≤ x.1 ∧ x.1 ≤ 18446744073709551615) := hid (fun k hk hl => by
      have hr := h1.mem.row k hk
      obtain ⟨q, cap, e, _⟩ := row_some hr hl
      rw [e] at hr
      have hx : (L k)[0]? = some ((L k)[0]) := List.getElem?_eq_getElem hl
      have hb := wu_bounds (h1.wf _ (flat_mem.2 ⟨k, hk, List.mem_of_getElem? hx⟩)).2
      exact ⟨q, cap, _, e, hx, (row_cells hr hx).1, hb⟩)
    have HH := hid h1.heap
    clear h1 h2 h3 hwf
    go_enter Try.func15, Try.ntmps15
    go_wp2_with fail
    refine hlen.mono ?_
    rintro e w1 ⟨rfl, rfl⟩
    clear hlen
    go_wp2_with fail
    go_loop [4, 5, 9] (fun a b j => ∃ (k : Nat) (c : Int), k ≤ 64 ∧ j = .int .i64 (k : Int) ∧ a = .int .u64 c ∧ Hid (Lst L k c)) (fun _ _ j => 64 - (intOf j).toNat)
    case atStart => exact ⟨0, 18446744073709551615, by omega, rfl, rfl, hid (lst_zero L)⟩
    case round =>
      obtain ⟨k, c, hk, rfl, rfl, HL⟩ := hrel
      by_cases hlt : k < 64
      · obtain ⟨va, cap, hv, hl, c0⟩ := HV.out k hlt
        rw [hv] at c0
        have hk2 : ¬ (64 : Int) ≤ (k : Int) := by omega
        rcases Nat.eq_zero_or_pos (L k).length with hz | hz
        · rw [hz] at c0
          have HL2 := hid (lst_none HL.out (List.eq_nil_of_length_eq_zero hz))
          clear hv hl hz
          go_wp2_with fail
          go_round
          case rel => exact ⟨k + 1, c, by omega, by go_num, rfl, HL2⟩
          case measure => simp [intOf]; omega
        · obtain ⟨q, cap2, x, hv2, hx, r0, b0, b1⟩ := HR.out k hlt hz
          rw [hv] at hv2
          injection hv2 with e1 e2 e3
          clear e2
          subst e1 e3
          have HL2 := fun c' (hc' : c' = if x.1 < c then x.1 else c) => lst_some HL.out (HH.out k hlt) hx b0 b1 hc'
          replace HL2 := hid HL2
          clear hv hx
          generalize (L k).length = n at *
          have hn2 : (0 : Int) < (n : Int) := by omega
          have hn3 : ¬ (n : Int) ≤ 0 := by omega
          go_wp2_with fail
          go_round
          case rel => exact ⟨k + 1, _, by omega, by go_num, rfl, hid (HL2.out _ rfl)⟩
          case measure => simp [intOf]; omega
      · have hke : k = 64 := by omega
        subst hke
        have HE := hid (HEnd.out c HL.out)
        go_wp2_with fail
        go_ret2
        rw [← HE.out, HSm.out]
        exact ⟨rfl, rfl⟩
end Go.Proofs.Ytdmgdmhggmehgaa
