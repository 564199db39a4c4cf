/- The contract of the reference's Keys: a row of its own with all keys, in the order of their slots. It turns nothing that was there. -/
import Derived.Test.YtibdnhnomjcclaaRefSmall
namespace Go.Proofs.Ytibdnhnomjcclaa
open Go.ChangeShapes Go.WideShapes Go.ChangeAt Go.RowKit
set_option linter.unusedVariables false
set_option linter.unusedSimpArgs false

theorem own_none {w : World} {B g : Nat} (h : At w g #[] 9) (hB : B ≤ g) : w.ownsRow B 9 1 (.slice (some ⟨g, 0, none⟩) 0 0) 0 [] :=
  ⟨rfl, .inr ⟨g, 0, #[], rfl, hB, h, Nat.le_refl _, by unfold maxLen; omega, rfl, rfl⟩⟩
set_option maxHeartbeats 3200000 in
theorem refkeys_any {Q m most : Nat} {L : Tb} (h4 : m ≤ 4096) (w : World) (h : RowT w 46 Q m L) :
    Calls Try.prog 23 #[.agg #[.slice (some ⟨Q, 0, none⟩) m m, .int .i64 (most : Int)]] w (KeysC L m w) := by
  obtain ⟨w1, hw1⟩ : ∃ w1, w.alloc (.cells #[.slice (some ⟨Q, 0, none⟩) m m, .int .i64 (most : Int)] 29) = w1 := ⟨_, rfl⟩
  obtain ⟨w2, hw2⟩ : ∃ w2, w1.alloc (.cells #[] 9) = w2 := ⟨_, rfl⟩
  have A1 := at_new w #[.slice (some ⟨Q, 0, none⟩) m m, .int .i64 (most : Int)] 29
  have A2 := at_new w1 #[] 9
  have k1 := kept_alloc (kept_refl w) (.cells #[.slice (some ⟨Q, 0, none⟩) m m, .int .i64 (most : Int)] 29)
  have k2 := kept_alloc (kept_refl w1) (.cells #[] 9)
  have s1 : w1.heap.size = w.heap.size + 1 := by rw [← hw1]; simp
  have s2 : w2.heap.size = w.heap.size + 2 := by rw [← hw2]; simp [s1]
  rw [hw1] at A1 k1
  rw [hw2] at A2 k2
  obtain ⟨X, hX⟩ : ∃ X, w.heap.size = X := ⟨_, rfl⟩
  obtain ⟨Y, hY⟩ : ∃ Y, w1.heap.size = Y := ⟨_, rfl⟩
  rw [hX] at A1
  rw [hY] at A2
  obtain ⟨i0, hi, hz0, hz1, hz2⟩ := info_parts (P := Try.prog) (e := 9) info9
  have HI := hid (And.intro hi (And.intro hz0 (And.intro hz1 hz2)))
  have HO0 := hid (own_none (B := Y) A2 (Nat.le_refl _))
  have HX := hid (at_kept A1 k2)
  have HR := hid (row_kept h (kept_trans k1 k2))
  have HB0 := hid (Below.refl Y w2)
  have HBK : Hid (∀ u, Below Y w2 u → Kept w u ∧ Y ≤ u.heap.size ∧ RowT u 46 Q m L ∧ At u X #[.slice (some ⟨Q, 0, none⟩) m m, .int .i64 (most : Int)] 29) := hid (fun u hb => by
    have hs := hb.size
    have hkw : Kept w u := kept_of (hb.os.trans (kept_os (kept_trans k1 k2))) (hb.output.trans (kept_output (kept_trans k1 k2))) (by omega) (fun i hi => (hb.block i (by omega)).trans (kept_block (kept_trans k1 k2) hi))
    refine ⟨hkw, by omega, row_kept h hkw, (hb.block X (by omega)).trans (at_kept A1 k2)⟩)
  have HEnd : Hid (∀ v u, u.ownsRow Y 9 1 v (cnt L m) ((keysOf L m).map Value.string) → Below Y w2 u → KeysC L m w (.returned v) u) := hid (fun v u h1 h2 => ⟨v, rfl, ⟨h1.1, by
    rcases h1.2 with h3 | ⟨g, cap, cur, h3, h4, h5⟩
    · exact .inl h3
    · exact .inr ⟨g, cap, cur, h3, by omega, h5⟩⟩, (HBK.out u h2).1⟩)
  obtain ⟨a0, a1, af⟩ := at_cells2 HX.out
  clear A1 A2 k1 k2 s1 s2 h hi hz0 hz1 hz2
  go_enter Try.func23, Try.ntmps23
  go_wp2_with fail
  clear a0 a1 af
  go_loopw [3, 9] (fun ks j wr => ∃ k : Nat, k ≤ m ∧ j = .int .i64 k ∧ Hid (wr.ownsRow Y 9 1 ks (cnt L k) ((keysOf L k).map Value.string)) ∧ Hid (Below Y w2 wr)) (fun _ j _ => m - (intOf j).toNat)
  case atStart => exact ⟨0, Nat.zero_le _, rfl, HO0, HB0⟩
  case round =>
    obtain ⟨k, hk, rfl, HO, HB⟩ := hrel
    clear HO0 HB0 hw1 hw2
    obtain ⟨kw, ky, kr, kx⟩ := HBK.out _ HB.out
    obtain ⟨a0, a1, af⟩ := at_cells2 kx
    have hck := cnt_le L k
    by_cases hlt : k < m
    · obtain ⟨r0, r1, r2, rf⟩ := row_cells kr hlt
      cases t : (L k).taken with
      | false =>
        rw [t] at r0
        have HE := hid (keysOf_by t)
        clear t kw kr kx
        go_wp2_with fail
        go_roundw
        case rel => exact ⟨k + 1, by omega, by go_num, hid (by rw [HE.out.1, HE.out.2]; exact HO.out), HB⟩
        case measure => simp [intOf]; omega
      | true =>
        rw [t] at r0
        have HE := hid (keysOf_on t)
        have HY := hid ky
        clear t kw kr kx
        generalize (L k).key = x at *
        have HO2 := hid (HO.out.alloc (.cells #[.string x] 9))
        go_wp2_with (at_builtin; go_must (refine wpList_append_own _ rfl (.tmp 18) (.tmp 25) 49 rfl Y 9 i0 (.string ⟨#[]⟩) 1 16 Try.underlying49 HI.out.1 HI.out.2.1 HI.out.2.2.1 HI.out.2.2.2 rfl (by decide) _ _ _ rfl HO2.out ⟨wr.heap.size, 0, none⟩ 1 1 [.string x] rfl rfl (cell_one_new _ _ _) (by intro u hu; simp at hu; subst hu; rfl) (by unfold maxLen; omega) (by omega) (by have := HY.out; simp; omega) ?_; intro v3 w3 hown3 hgrow3 hnil3))
        go_roundw
        case rel =>
          refine ⟨k + 1, by omega, by go_num, ?_, ?_⟩
          · show _; rw [HE.out.1, HE.out.2, List.map_append]; exact hown3
          · exact (HB.out.alloc HY.out _).grown hgrow3 (by have := HY.out; simp; omega) (fun j hj => (HO2.out.lt j hj).1)
        case measure => simp [intOf]; omega
    · have he : k = m := by omega
      subst he
      clear kw kr kx
      go_wp2_with fail
      go_ret
      exact HEnd.out _ _ HO.out HB.out
end Go.Proofs.Ytibdnhnomjcclaa
