/- The contract of Keys: a row of its own with all keys, in the order of their slots. It turns nothing that was there. -/
import Derived.Test.YtibdnhnomjcclaaOpen
import Derived.Deep.Upon
import Derived.Laws.AppendOwn
import Derived.Maps.AppendAt
import Derived.Deep.DeepMust
namespace Go.Proofs.Ytibdnhnomjcclaa
open Go.ChangeShapes Go.WideShapes Go.ChangeAt Go.RowKit
set_option linter.unusedVariables false
set_option linter.unusedSimpArgs false

def keysOf (L : Tb) : Nat → List ByteArray
  | 0 => []
  | n + 1 => keysOf L n ++ if (L n).taken = true then [(L n).key] else []
theorem keysOf_length (L : Tb) (n : Nat) : (keysOf L n).length = cnt L n := by
  induction n with
  | zero => rfl
  | succ n ih => unfold keysOf cnt; rw [List.length_append, ih]; split <;> rfl
theorem keysOf_mem (L : Tb) (n : Nat) (k : ByteArray) : k ∈ keysOf L n ↔ ∃ i, i < n ∧ Has L k i := by
  induction n with
  | zero => unfold keysOf; constructor
            · intro h; cases h
            · rintro ⟨i, hi, _⟩; omega
  | succ n ih =>
    unfold keysOf
    rw [List.mem_append, ih]
    constructor
    · rintro (⟨i, hi, h⟩ | h)
      · exact ⟨i, by omega, h⟩
      · by_cases t : (L n).taken = true
        · rw [if_pos t] at h
          exact ⟨n, by omega, t, (by simpa using h : k = (L n).key).symm⟩
        · rw [if_neg t] at h; cases h
    · rintro ⟨i, hi, h⟩
      rcases (show i < n ∨ i = n by omega) with e | e
      · exact .inl ⟨i, e, h⟩
      · subst e; rw [if_pos h.1]; exact .inr (by simp [h.2])
theorem keysOf_nodup {h : ByteArray → Nat} {m : Nat} {L : Tb} (ok : Ok h m L) (n : Nat) : (keysOf L n).Nodup := by
  induction n with
  | zero => exact List.nodup_nil
  | succ n ih =>
    unfold keysOf
    by_cases t : (L n).taken = true
    · rw [if_pos t]
      refine List.nodup_append.2 ⟨ih, by simp, fun a ha b hb => ?_⟩
      have hb : b = (L n).key := by simpa using hb
      subst hb
      rintro rfl
      obtain ⟨i, hi, g⟩ := (keysOf_mem L n _).1 ha
      have := ok.one i n g.1 t g.2
      omega
    · rw [if_neg t, List.append_nil]; exact ih
section
variable {xs : List Value} {v : Value} {size e n B : Nat} {w' w : World}
theorem own_kept (h : w.ownsRow B e size v n xs) (k : ∀ g cur, v.ownBlock = some g → At w g cur e → w'.heap[g]? = w.heap[g]?) : w'.ownsRow B e size v n xs := by
  refine ⟨h.1, ?_⟩
  rcases h.2 with hn | ⟨g, cap, cur, rfl, hb, hg, rest⟩
  · exact .inl hn
  · exact .inr ⟨g, cap, cur, rfl, hb, (k g cur rfl hg).trans hg, rest⟩
theorem own_stays (h : w.ownsRow B e size v n xs) (k : Kept w w') : w'.ownsRow B e size v n xs :=
  own_kept h (fun g cur _ ha => kept_block k (at_lt ha))
end
/- A row of texts stands while a table turns. -/
theorem own_turns {w w' : World} {X R m most q B n : Nat} {L : Tb} {v : Value} {xs : List Value} (h : w.ownsRow B 9 1 v n xs) (t : Tab w X R m most q L) (k : Turns X R w w') : w'.ownsRow B 9 1 v n xs :=
  own_kept h (fun g cur _ ha => by
    obtain ⟨cs, hr, _⟩ := t.2
    exact k.2.2.2 g (at_lt ha) (at_ne ha t.1 (by decide)) (at_ne ha hr (by decide)))
theorem own_slice {xs : List Value} {v : Value} {size e n B : Nat} {w : World} (h : w.ownsRow B e size v n xs) : ∃ a c, v = .slice a n c ∧ (0 < n → ∃ g, a = some ⟨g, 0, none⟩ ∧ ∀ i x, xs[i]? = some x → w.cell? ⟨g, i, none⟩ = some x) := by
  rcases h.2 with ⟨rfl, rfl⟩ | ⟨g, cap, cur, rfl, hb, hg, rest⟩
  · exact ⟨none, 0, rfl, fun h => absurd h (by omega)⟩
  · refine ⟨_, cap, rfl, fun _ => ⟨g, rfl, fun i x hx => ?_⟩⟩
    have := h.cells (g := g) rfl i x hx
    rw [← this]
    rcases Nat.eq_zero_or_pos i with h0 | h0
    · subst h0; simp [Addr.add]
    · rw [show (⟨g, 0, none⟩ : Addr).add i = ⟨g, i, none⟩ by simp [Addr.add]; omega]
theorem zero66 (w : World) : (zeroValue 66).run Try.prog w = .ok (.agg #[.bool false, .string ⟨#[]⟩, .int .i64 0]) w := by kernel_rfl
theorem info9 : (Try.prog.info? 9).map (fun i => (i.zero, i.size, i.bytes)) = some (some (.string ⟨#[]⟩), 1, 16) := by kernel_rfl
/- What Keys answers and leaves. -/
def KeysC (L : Tb) (m : Nat) (w : World) (e : Ending) (w' : World) : Prop := ∃ v, e = .returned v ∧ w'.ownsRow w.heap.size 9 1 v (cnt L m) ((keysOf L m).map Value.string) ∧ Kept w w'
theorem keysOf_on {L : Tb} {n : Nat} (t : (L n).taken = true) : keysOf L (n + 1) = keysOf L n ++ [(L n).key] ∧ cnt L (n + 1) = cnt L n + 1 := by
  constructor
  · rw [keysOf, if_pos t]
  · rw [cnt, if_pos t]
theorem keysOf_by {L : Tb} {n : Nat} (t : (L n).taken = false) : keysOf L (n + 1) = keysOf L n ∧ cnt L (n + 1) = cnt L n := by
  constructor
  · rw [keysOf, if_neg (by rw [t]; simp), List.append_nil]
  · rw [cnt, if_neg (by rw [t]; simp)]; rfl
set_option maxHeartbeats 3200000 in
theorem keys_any {X R m most : Nat} {L : Tb} (h4 : m ≤ 4096) (sm : ∀ i, (L i).key.size ≤ 1000) (w : World) (h : Tab w X R m most (cnt L m) L) :
    Calls Try.prog 22 #[.pointer (some ⟨X, 0, none⟩)] w (KeysC L m w) := by
  have hz := zero66
  obtain ⟨n, hn⟩ : ∃ n, n = cnt L m := ⟨_, rfl⟩
  have hn4 : n ≤ 4096 := by have := cnt_le L m; omega
  have HN := hid hn
  rw [← hn] at h
  have HT := hid h
  have HS := hid sm
  obtain ⟨i0, hi, hz0, hz1, hz2⟩ := info_parts (P := Try.prog) (e := 9) info9
  obtain ⟨W0, hmk, hown0, hg0⟩ := run_make_own (P := Try.prog) w w.heap.size 49 9 i0 _ 1 Try.underlying49 hi hz0 hz1 .i64 .i64 n (by rw [hz2]; omega) (by unfold maxLen; omega) (Nat.le_refl _)
  have HB0 := hid ((Below.refl w.heap.size w).grown hg0 (Nat.le_refl _) (fun k hk => by cases hk))
  have HO0 := hid hown0
  have HI := hid (And.intro hi (And.intro hz0 (And.intro hz1 hz2)))
  have HBK : Hid (∀ u, Below w.heap.size w u → Kept w u ∧ w.heap.size ≤ u.heap.size) := hid (fun u h => ⟨kept_below h, h.size⟩)
  have HEnd : Hid (∀ v u, u.ownsRow w.heap.size 9 1 v (cnt L m) ((keysOf L m).map Value.string) → Below w.heap.size w u → KeysC L m w (.returned v) u) := hid (fun v u h1 h2 => ⟨v, rfl, h1, kept_below h2⟩)
  obtain ⟨d0, d1, d2, df⟩ := at_cells3 (tab_kept HT.out (HBK.out _ HB0.out).1).1
  obtain ⟨c0, c1, c2, fr⟩ := at_cells3 h.1
  clear h sm hn hown0 hg0 hi hz0 hz1 hz2
  generalize w.heap.size = B at *
  go_enter Try.func22, Try.ntmps22
  go_wp2_with fail
  clear hmk c0 c1 c2 fr d0 d1 d2 df
  go_loopw [3, 18] (fun ks j wr => ∃ k : Nat, k ≤ m ∧ j = .int .i64 k ∧ Hid (wr.ownsRow B 9 1 ks (cnt L k) ((keysOf L k).map Value.string)) ∧ Hid (Below B w wr)) (fun _ j _ => m - (intOf j).toNat)
  case atStart => exact ⟨0, Nat.zero_le _, rfl, HO0, HB0⟩
  case round =>
    obtain ⟨k, hk, rfl, HO, HB⟩ := hrel
    clear HO0 HB0
    by_cases hlt : k < m
    · obtain ⟨r0, r1, r2, rf⟩ := row_cells (tab_kept HT.out (HBK.out _ HB.out).1).2 hlt
      have hks := HS.out k
      have hck := cnt_le L k
      cases t : (L k).taken with
      | false =>
        rw [t] at r0
        have HE := hid (keysOf_by t)
        clear t
        go_wp2_with fail
        go_roundw
        case rel =>
          refine ⟨k + 1, by omega, by go_num, ?_, ?_⟩
          · show _; rw [HE.out.1, HE.out.2]; exact own_stays HO.out (kept_alloc (kept_refl _) _)
          · exact HB.out.alloc (HBK.out _ HB.out).2 _
        case measure => simp [intOf]; omega
      | true =>
        rw [t] at r0
        have HE := hid (keysOf_on t)
        clear t
        generalize (L k).key = x at *
        have HCl := hid (fun w => clone_any x (by omega) w)
        go_wp2_with fail
        refine (HCl.out _).mono ?_
        rintro e w2 ⟨rfl, hb2⟩
        have HB1 := hid (HB.out.alloc (HBK.out _ HB.out).2 (.cells #[.bool true, .string x, .int .i64 (L k).v] 66))
        have HBx : Hid (Below B w w2) := hid (HB1.out.trans (hb2.mono (HBK.out _ HB1.out).2))
        have HO2 := hid ((own_stays HO.out (kept_trans (kept_alloc (kept_refl _) _) (kept_below hb2))).alloc (.cells #[.string x] 9))
        clear hb2 r0 r1 r2 rf
        go_wp2_with (at_builtin; go_must (refine wpList_append_own _ rfl (.tmp 24) (.tmp 28) 49 rfl B 9 i0 (.string ⟨#[]⟩) 1 16 Try.underlying49 HI.out.1 HI.out.2.1 HI.out.2.2.1 HI.out.2.2.2 rfl (by decide) _ _ _ rfl HO2.out ⟨w2.heap.size, 0, none⟩ 1 1 [.string x] rfl rfl (cell_one_new _ _ _) (by intro u hu; simp at hu; subst hu; rfl) (by unfold maxLen; omega) (by omega) (by have := (HBK.out _ HBx.out).2; simp; omega) ?_; intro v3 w3 hown3 hgrow3 hnil3))
        go_roundw
        case rel =>
          refine ⟨k + 1, by omega, by go_num, ?_, ?_⟩
          · show _; rw [HE.out.1, HE.out.2, List.map_append]; exact hown3
          · exact (HBx.out.alloc (HBK.out _ HBx.out).2 _).grown hgrow3 (by have := (HBK.out _ HBx.out).2; simp; omega) (fun j hj => (HO2.out.lt j hj).1)
        case measure => simp [intOf]; omega
    · have he : k = m := by omega
      subst he
      go_wp2_with fail
      go_ret
      exact HEnd.out _ _ HO.out HB.out
end Go.Proofs.Ytibdnhnomjcclaa
