/- What the law's great and the reference's Unlike let by. -/
import Derived.Test.YtgfmmipbadnhgaaSwPush
namespace Go.Proofs.Ytgfmmipbadnhgaa
open Go.ChangeShapes Go.WideShapes Go.ChangeAt Go.RowKit
set_option linter.unusedVariables false
set_option linter.unusedSimpArgs false
set_option maxRecDepth 100000

theorem all_next {α : Type} {l : List α} {k : Nat} {x : α} {P : α → Prop} (h : l[k]? = some x) (hp : P x) (ha : ∀ y ∈ l.take k, P y) : ∀ y ∈ l.take (k + 1), P y := by
  rw [take_next h]
  intro y hy
  rcases List.mem_append.1 hy with hy | hy
  · exact ha y hy
  · simp at hy
    subst hy
    exact hp
/- A call that answers yes or no, and what holds then. -/
def Lets (P : Bool → Prop) (w : World) (e : Ending) (w' : World) : Prop := ∃ b, e = .returned (.bool b) ∧ P b ∧ Kept w w'
set_option maxHeartbeats 1600000 in
theorem great_any (t : List Sn) (v : Value) (w : World) (h : Rg encS 5 w v t) : Calls Try.prog 8 #[v] w (Lets (fun b => b = false → t.length ≤ 100 ∧ ∀ s ∈ t, s.key.size ≤ 1000) w) := by
  have HR := hid h
  obtain ⟨a, cap, rfl, hl1, hl2, -, -⟩ := h
  have HG : Hid (∀ k, k < t.length → ∃ y, t[k]? = some y) := hid (fun k hk => ⟨t[k], List.getElem?_eq_getElem hk⟩)
  have HP : Hid (0 < t.length → ∃ g o, a = some ⟨g, o, none⟩) := hid (fun hp => by
    obtain ⟨g, o, c, e⟩ := rg_pos HR.out hp
    injection e with e1
    exact ⟨g, o, e1⟩)
  have HT : Hid (t.take t.length = t) := hid List.take_length
  generalize hnn : t.length = n at *
  have HN := hid hnn
  clear hnn hl1 hl2
  by_cases hbig : 100 < n
  · have hb2 : (100 : Int) < (n : Int) := by omega
    go_enter Try.func8, Try.ntmps8
    go_wp2_with fail
    go_ret
    exact ⟨true, rfl, fun e => (by cases e), kept_refl w⟩
  · have hb2 : ¬ (100 : Int) < (n : Int) := by omega
    go_enter Try.func8, Try.ntmps8
    go_wp2_with fail
    go_loopw [10] (fun j wr => ∃ k : Nat, k ≤ n ∧ j = .int .i64 (k : Int) ∧ Hid (∀ y ∈ t.take k, y.key.size ≤ 1000) ∧ Hid (Kept w wr)) (fun j _ => n - (intOf j).toNat)
    case atStart => exact ⟨0, Nat.zero_le _, rfl, hid (fun y hy => by simp at hy), hid (kept_refl w)⟩
    case round =>
      obtain ⟨k, hk, rfl, HA, HK⟩ := hrel
      by_cases hlt : k < n
      · obtain ⟨x, hx⟩ := HG.out k hlt
        obtain ⟨g, o, rfl⟩ := HP.out (by omega)
        obtain ⟨c0, c1, c2, c3, c4⟩ := rg_S (rg_kept encS_ok HR.out HK.out) hx
        have HK1 := hid (kept_alloc HK.out (.cells #[.string x.key, .int .u64 x.s.p, .int .u32 x.s.l, .int .u8 x.s.n, .int .u8 x.kind] 43))
        have HNx := hid (all_next (P := fun y => y.key.size ≤ 1000) hx)
        clear hx
        have zs := zeroS wr
        by_cases hs : 1000 < x.key.size
        · have hs2 : (1000 : Int) < (x.key.size : Int) := by omega
          go_wp2_with fail
          go_ret
          exact ⟨true, rfl, fun e => (by cases e), HK1.out⟩
        · have hs2 : ¬ (1000 : Int) < (x.key.size : Int) := by omega
          go_wp2_with fail
          go_roundw
          case rel => exact ⟨k + 1, by omega, by go_num, hid (HNx.out (by omega) HA.out), HK1⟩
          case measure => simp [intOf]; omega
      · have he : k = n := by omega
        subst he
        rw [HT.out] at HA
        go_wp2_with fail
        go_ret
        exact ⟨false, rfl, fun _ => ⟨by omega, HA.out⟩, HK.out⟩
theorem unlike_next {l : List R} {k : Nat} {x : R} (h : l[k]? = some x) (hu : Unlike (l.take k)) (ha : ∀ i y, i < k → l[i]? = some y → y.key ≠ x.key) : Unlike (l.take (k + 1)) := by
  unfold Unlike at *
  rw [take_next h, List.map_append]
  refine List.nodup_append.2 ⟨hu, by simp, fun a ha' b hb e => ?_⟩
  obtain ⟨y, hy, rfl⟩ := List.mem_map.1 ha'
  simp at hb
  obtain ⟨i, hi⟩ := List.mem_iff_getElem?.1 hy
  rw [List.getElem?_take] at hi
  split at hi
  · rename_i hik
    exact ha i y hik hi (by rw [e, hb])
  · cases hi
set_option maxHeartbeats 3200000 in
theorem unlike_any (l : List R) (v : Value) (w : World) (h : Rg encR 8 w v l) : Calls Try.prog 7 #[v] w (Lets (fun b => b = true → l.length ≤ 60 ∧ (∀ r ∈ l, r.key.size ≤ 1000 ∧ r.body.size ≤ 3000) ∧ Unlike l) w) := by
  have HR := hid h
  obtain ⟨a, cap, rfl, hl1, hl2, -, -⟩ := h
  have HG : Hid (∀ k, k < l.length → ∃ y, l[k]? = some y) := hid (fun k hk => ⟨l[k], List.getElem?_eq_getElem hk⟩)
  have HP : Hid (0 < l.length → ∃ g o, a = some ⟨g, o, none⟩) := hid (fun hp => by
    obtain ⟨g, o, c, e⟩ := rg_pos HR.out hp
    injection e with e1
    exact ⟨g, o, e1⟩)
  have HT : Hid (l.take l.length = l) := hid List.take_length
  generalize hnn : l.length = n at *
  have HN := hid hnn
  clear hnn hl1 hl2
  by_cases hbig : 60 < n
  · have hb2 : (60 : Int) < (n : Int) := by omega
    go_enter Try.func7, Try.ntmps7
    go_wp2_with fail
    go_ret
    exact ⟨false, rfl, fun e => (by cases e), kept_refl w⟩
  · have hb2 : ¬ (60 : Int) < (n : Int) := by omega
    go_enter Try.func7, Try.ntmps7
    go_wp2_with fail
    go_loopw [10] (fun j wr => ∃ k : Nat, k ≤ n ∧ j = .int .i64 (k : Int) ∧ Hid (∀ y ∈ l.take k, y.key.size ≤ 1000 ∧ y.body.size ≤ 3000) ∧ Hid (Unlike (l.take k)) ∧ Hid (Kept w wr)) (fun j _ => n - (intOf j).toNat)
    case atStart => exact ⟨0, Nat.zero_le _, rfl, hid (fun y hy => by simp at hy), hid (by unfold Unlike; simp), hid (kept_refl w)⟩
    case round =>
      obtain ⟨k, hk, rfl, HA, HU, HK⟩ := hrel
      by_cases hlt : k < n
      · obtain ⟨x, hx⟩ := HG.out k hlt
        obtain ⟨g, o, rfl⟩ := HP.out (by omega)
        obtain ⟨c0, c1, c2, c3, c4, c5, c6, c7⟩ := rg_R (rg_kept encR_ok HR.out HK.out) hx
        have HNx := hid (all_next (P := fun y => y.key.size ≤ 1000 ∧ y.body.size ≤ 3000) hx)
        have HNu := hid (unlike_next hx HU.out)
        have HHx := hid hx
        clear hx
        by_cases hs : 1000 < x.key.size
        · have hs2 : (1000 : Int) < (x.key.size : Int) := by omega
          go_wp2_with fail
          go_ret
          exact ⟨false, rfl, fun e => (by cases e), HK.out⟩
        · have hs2 : ¬ (1000 : Int) < (x.key.size : Int) := by omega
          by_cases ht : 3000 < x.body.size
          · have ht2 : (3000 : Int) < (x.body.size : Int) := by omega
            go_wp2_with fail
            go_ret
            exact ⟨false, rfl, fun e => (by cases e), HK.out⟩
          · have ht2 : ¬ (3000 : Int) < (x.body.size : Int) := by omega
            go_wp2_with fail
            clear c0 c1 c2 c3 c4 c5 c6 c7
            go_loopw [4] (fun j' wq => ∃ i : Nat, i ≤ k ∧ j' = .int .i64 (i : Int) ∧ Hid (∀ i' y, i' < i → l[i']? = some y → y.key ≠ x.key) ∧ Hid (Kept w wq)) (fun j' _ => k - (intOf j').toNat)
            case atStart => exact ⟨0, Nat.zero_le _, rfl, hid (fun i' y hi => absurd hi (Nat.not_lt_zero _)), HK⟩
            case round =>
              obtain ⟨i, hi, rfl, HI, HKi⟩ := hrel
              by_cases hik : i < k
              · obtain ⟨y, hy⟩ := HG.out i (by omega)
                obtain ⟨d0, -⟩ := rg_R (rg_kept encR_ok HR.out HKi.out) hy
                obtain ⟨c0, -⟩ := rg_R (rg_kept encR_ok HR.out HKi.out) HHx.out
                have HYn : Hid (y.key ≠ x.key → ∀ i' z, i' < i + 1 → l[i']? = some z → z.key ≠ x.key) := hid (fun hne i' z hz hg => by
                  by_cases e : i' = i
                  · subst e; rw [hy] at hg; cases hg; exact hne
                  · exact HI.out i' z (by omega) hg)
                clear hy
                cases hs3 : sameT y.key x.key with
                | true =>
                  have hk2 : (y.key.toList == x.key.toList) = true := hs3
                  clear hs3
                  go_wp2_with fail
                  go_quiet (fail)
                  go_wp2_with fail
                  go_ret
                  exact ⟨false, rfl, fun e => (by cases e), kept_drewN HKi.out _⟩
                | false =>
                  have hk2 : (y.key.toList == x.key.toList) = false := hs3
                  have HYm := hid (HYn.out ((sameT_false _ _).1 hs3))
                  clear hs3 HYn
                  go_wp2_with fail
                  go_quiet (fail)
                  go_wp2_with fail
                  go_roundw
                  case rel => exact ⟨i + 1, by omega, by go_num, HYm, hid (kept_drewN HKi.out _)⟩
                  case measure => simp [intOf]; omega
              · have he : i = k := by omega
                subst he
                go_wp2_with fail
                go_roundw
                case rel => exact ⟨i + 1, by omega, by go_num, hid (HNx.out ⟨by omega, by omega⟩ HA.out), hid (HNu.out HI.out), HKi⟩
                case measure => simp [intOf]; omega
      · have he : k = n := by omega
        subst he
        rw [HT.out] at HA HU
        go_wp2_with fail
        go_ret
        exact ⟨true, rfl, fun _ => ⟨by omega, HA.out, HU.out⟩, HK.out⟩
end Go.Proofs.Ytgfmmipbadnhgaa
