/- The contract of the reference's Set: it answers what the plain function does, with a table of its own. It turns nothing that was there. -/
import Derived.Test.YtibdnhnomjcclaaRefSmall
namespace Go.Proofs.Ytibdnhnomjcclaa
open Go.ChangeShapes Go.WideShapes Go.ChangeAt Go.RowKit
set_option linter.unusedVariables false
set_option linter.unusedSimpArgs false

/- What the reference's Set and Drop answer and leave. -/
def GiveC (r : Value) (m most : Nat) (L : Tb) (w : World) (e : Ending) (w' : World) : Prop := ∃ G, e = .returned (.tuple #[r, .agg #[.slice (some ⟨G, 0, none⟩) m m, .int .i64 (most : Int)]]) ∧ Kept w w' ∧ RowT w' 46 G m L
def set2 (w : World) (X : Nat) (a b : Value) : World := (w.setCell ⟨X, 0, none⟩ a).setCell ⟨X, 1, none⟩ b
section
variable {W w : World} {X Y T U m : Nat} {L : Tb} {a b a0 b0 : Value} {cs : Array Value}
theorem at_set2 (h : At w X #[a0, b0] T) (a b : Value) : At (set2 w X a b) X #[a, b] T := at_set (at_set h 0 a) 1 b
theorem at_other2 (h : At w Y cs T) (hn : Y ≠ X) (a b : Value) : At (set2 w X a b) Y cs T := at_other (at_other h hn _ _) hn _ _
theorem row_other2 (h : RowT w T Y m L) (hn : Y ≠ X) (a b : Value) : RowT (set2 w X a b) T Y m L := row_other (row_other h _ hn) _ hn
theorem kept_set2 (h : Kept W w) (hX : W.heap.size ≤ X) (a b : Value) : Kept W (set2 w X a b) := kept_set (kept_set h hX _ _) hX _ _
theorem kept_set3 (h : Kept W w) (hX : W.heap.size ≤ X) (o : Nat) (a b c : Value) : Kept W (set3 w X o a b c) := kept_set (kept_set (kept_set h hX _ _) hX _ _) hX _ _
end
theorem cells2 {w : World} {X T : Nat} {a b : Value} (h : At w X #[a, b] T) : w.cell? ⟨X, 0, none⟩ = some a ∧ w.cell? ⟨X, 1, none⟩ = some b := ⟨at_cell h 0, at_cell h 1⟩
set_option maxHeartbeats 3200000 in
theorem refset_any {Q m most : Nat} {L : Tb} (h4 : m ≤ 4096) (ok : Ok (hm m) m L) (free : cnt L m < m) (full : cnt L m ≤ most) (hmo : most ≤ 4096) (k : ByteArray) (hk : k.size ≤ maxLen) (v : Int) (w : World) (h : RowT w 46 Q m L) :
    Calls Try.prog 12 #[.agg #[.slice (some ⟨Q, 0, none⟩) m m, .int .i64 (most : Int)], .string k, .int .i64 v] w (GiveC (.int .i64 (((setT (hm m) m most L k v).1 : Nat) : Int)) m most (setT (hm m) m most L k v).2 w) := by
  have hz := zero29
  obtain ⟨w1, hw1⟩ : ∃ w1, w.alloc (.cells #[.slice (some ⟨Q, 0, none⟩) m m, .int .i64 (most : Int)] 29) = w1 := ⟨_, rfl⟩
  obtain ⟨w2, hw2⟩ : ∃ w2, w1.alloc (.cells #[.slice none 0 0, .int .i64 0] 29) = w2 := ⟨_, rfl⟩
  have A1 := at_new w #[.slice (some ⟨Q, 0, none⟩) m m, .int .i64 (most : Int)] 29
  have A2 := at_new w1 #[.slice none 0 0, .int .i64 0] 29
  have k1 := kept_alloc (kept_refl w) (.cells #[.slice (some ⟨Q, 0, none⟩) m m, .int .i64 (most : Int)] 29)
  have k2 := kept_alloc (kept_refl w1) (.cells #[.slice none 0 0, .int .i64 0] 29)
  have s1 : w1.heap.size = w.heap.size + 1 := by rw [← hw1]; simp
  rw [hw1] at A1 k1
  rw [hw2] at A2 k2
  obtain ⟨X, hX⟩ : ∃ X, w.heap.size = X := ⟨_, rfl⟩
  obtain ⟨Y, hY⟩ : ∃ Y, w1.heap.size = Y := ⟨_, rfl⟩
  have HXY : Hid (w.heap.size ≤ X ∧ w.heap.size ≤ Y ∧ Y ≠ X) := hid (by omega)
  rw [hX] at A1
  rw [hY] at A2
  have HA1 := hid (at_kept A1 k2)
  have HA2 := hid A2
  have HK2 := hid (kept_trans k1 k2)
  have HR2 := hid (row_kept h HK2.out)
  have HOk := hid ok
  have HFr := hid free
  have HFu := hid full
  have HF := hid (spot_found (k := k) ok free)
  obtain ⟨a0, a1, af⟩ := at_cells2 HA1.out
  clear A1 A2 k1 k2 s1 h ok free full
  go_enter Try.func12, Try.ntmps12
  go_wp2_with fail
  refine (refat_any h4 HOk.out HFr.out k _ HR2.out).mono ?_
  rintro e w3 ⟨rfl, k3⟩
  have HA3 := hid (at_kept HA1.out k3)
  have HB3 := hid (at_kept HA2.out k3)
  have HK3 := hid (kept_trans HK2.out k3)
  have HR3 := hid (row_kept HR2.out k3)
  clear k3 HA1 HA2 HK2 HR2 a0 a1 af
  obtain ⟨a0, a1, af⟩ := at_cells2 HA3.out
  go_wp2_with fail
  refine (copied_any h4 _ HR3.out).mono ?_
  rintro e w4 ⟨G, rfl, hG, k4, r4⟩
  have HG : Hid (w.heap.size ≤ G) := hid (Nat.le_trans HK3.out.2 hG)
  have HGX : Hid (G ≠ X ∧ G ≠ Y) := hid (by have := at_lt HA3.out; have := at_lt HB3.out; omega)
  have HA4 := hid (at_kept HA3.out k4)
  obtain ⟨w5, hw5⟩ : ∃ w5, (w4.setCell ⟨X, 0, none⟩ (.slice (some ⟨G, 0, none⟩) m m)).setCell ⟨X, 1, none⟩ (.int .i64 (most : Int)) = w5 := ⟨_, rfl⟩
  have A5 := at_set2 HA4.out (.slice (some ⟨G, 0, none⟩) m m) (.int .i64 (most : Int))
  have B5 := at_other2 (at_kept HB3.out k4) HXY.out.2.2 (.slice (some ⟨G, 0, none⟩) m m) (.int .i64 (most : Int))
  have K5 := kept_set2 (kept_trans HK3.out k4) HXY.out.1 (.slice (some ⟨G, 0, none⟩) m m) (.int .i64 (most : Int))
  have R5 := row_other2 r4 HGX.out.1 (.slice (some ⟨G, 0, none⟩) m m) (.int .i64 (most : Int))
  unfold set2 at A5 B5 K5 R5
  rw [hw5] at A5 B5 K5 R5
  have HA5 := hid A5
  have HB5 := hid B5
  have HK5 := hid K5
  have HR5 := hid R5
  clear A5 B5 K5 R5 hG k4 r4 HA3 HB3 HK3 HR3 a0 a1 af
  obtain ⟨c0, c1, cf⟩ := at_cells2 HA4.out
  obtain ⟨d0, d1, df⟩ := at_cells2 HA5.out
  have HE : Hid (setT (hm m) m most L k v = if (L (spot (hm m) m L k)).taken = true then (0, upd L (spot (hm m) m L k) ⟨true, k, v⟩) else if cnt L m = most then (6, L) else (0, upd L (spot (hm m) m L k) ⟨true, k, v⟩)) := rfl
  have HSl : Hid (slotI m L k = if (L (spot (hm m) m L k)).taken = true then ((spot (hm m) m L k : Nat) : Int) else -1) := rfl
  generalize spot (hm m) m L k = a at *
  have ha := HF.out.lt
  cases t : (L a).taken with
  | true =>
    have hsl : slotI m L k = (a : Int) := by rw [HSl.out, if_pos t]
    have HE2 := hid (HE.out.trans (if_pos t))
    rw [hsl]
    obtain ⟨w6, hw6⟩ : ∃ w6, w5.setCell ⟨G, a * 3 + 2, none⟩ (.int .i64 v) = w6 := ⟨_, rfl⟩
    have e6 : (⟨(L a).taken, (L a).key, v⟩ : Sl) = ⟨true, k, v⟩ := by rw [t, HF.out.mine t]
    have R6 := row_setv HR5.out ha v
    rw [e6] at R6
    have A6 := at_other HA5.out (Ne.symm HGX.out.1) (a * 3 + 2) (.int .i64 v)
    have B6 := at_other HB5.out (Ne.symm HGX.out.2) (a * 3 + 2) (.int .i64 v)
    have K6 := kept_set HK5.out HG.out (a * 3 + 2) (.int .i64 v)
    rw [hw6] at R6 A6 B6 K6
    have HR7 := hid (row_other2 R6 HGX.out.2 (.slice (some ⟨G, 0, none⟩) m m) (.int .i64 (most : Int)))
    have HB7 := hid (at_set2 B6 (.slice (some ⟨G, 0, none⟩) m m) (.int .i64 (most : Int)))
    have HK7 := hid (kept_set2 K6 HXY.out.2.1 (.slice (some ⟨G, 0, none⟩) m m) (.int .i64 (most : Int)))
    obtain ⟨f0, f1, ff⟩ := at_cells2 A6
    obtain ⟨g0, g1, gf⟩ := at_cells2 B6
    obtain ⟨r0, r1, r2, rf⟩ := row_cells HR5.out ha
    clear t HE HSl R6 A6 B6 K6 e6 hsl
    go_wp2_with fail
    go_region
    unfold set2 at HR7 HB7 HK7
    go_wp2_with fail
    refine bodyPost_ret (res3 rfl _ rfl rfl (at_drew HB7.out)) rfl ?_
    rw [HE2.out]
    exact ⟨G, rfl, kept_drew HK7.out, row_drew HR7.out⟩
  | false =>
    have hsl : slotI m L k = -1 := by rw [HSl.out, if_neg (by rw [t]; simp)]
    rw [hsl]
    have hS := cells2 (at_drew HA5.out)
    by_cases hc : cnt L m = most
    · have HE2 : Hid (setT (hm m) m most L k v = (6, L)) := hid (by rw [HE.out, if_neg (by rw [t]; simp), if_pos hc])
      have hc2 : (most : Int) ≤ (cnt L m : Int) := by omega
      clear t HE HSl hsl hc
      go_wp2_with fail
      clear c0 c1 cf d0 d1 df
      replace HA5 := hid (at_drew HA5.out)
      replace HB5 := hid (at_drew HB5.out)
      replace HK5 := hid (kept_drew HK5.out)
      replace HR5 := hid (row_drew HR5.out)
      refine wp_region_noPanic ?_
      refine wp_region_held_drew (S := (fun w' => w'.cell? ⟨X, 0, none⟩ = some (.slice (some ⟨G, 0, none⟩) m m) ∧ w'.cell? ⟨X, 1, none⟩ = some (.int .i64 (most : Int)))) (by kernel_rfl) (by assumption) (fun hHeld => ?_)
      generalize w5.drew = w7 at *
      refine wpAnyH_take (i := 0) (v := .agg #[.slice (some ⟨G, 0, none⟩) m m, .int .i64 (most : Int)]) rfl (by kernel_rfl) (by kernel_rfl) (by kernel_rfl) (fun _ _ _ h => h) (Or.inl ⟨by rfl, fun w hSw => by (try dsimp only at hSw); go_simp⟩) (by assumption) ?_
      try simp only [List.getElem_toArray, List.getElem_cons_zero, List.getElem_cons_succ, Act.put, List.setIfInBounds_toArray, List.set_cons_zero, List.set_cons_succ]
      refine wpAnyH_take (i := 2) (v := .pointer (some ⟨X, 1, none⟩)) rfl (by kernel_rfl) (by kernel_rfl) (by kernel_rfl) (fun _ _ _ h => h) (Or.inl ⟨by rfl, fun w hSw => by (try dsimp only at hSw); go_simp⟩) (by assumption) ?_
      try simp only [List.getElem_toArray, List.getElem_cons_zero, List.getElem_cons_succ, Act.put, List.setIfInBounds_toArray, List.set_cons_zero, List.set_cons_succ]
      refine wpAnyH_take (i := 3) (v := .int .i64 (most : Int)) rfl (by kernel_rfl) (by kernel_rfl) (by kernel_rfl) (fun _ _ _ h => h) (Or.inl ⟨by rfl, fun w hSw => by (try dsimp only at hSw); go_simp⟩) (by assumption) ?_
      try simp only [List.getElem_toArray, List.getElem_cons_zero, List.getElem_cons_succ, Act.put, List.setIfInBounds_toArray, List.set_cons_zero, List.set_cons_succ]
      refine wpAnyH_ready (rs := [1]) (by kernel_rfl) (by simp) ?_
      refine AllReadyH.cons (i := 1) rfl (fun K hK => ?_) AllReadyH.nil
      go_simp
      refine (reflen_any h4 _ HR5.out).mono ?_
      rintro e1 w8 ⟨rfl, k8⟩
      replace HA5 := hid (at_kept HA5.out k8)
      replace HB5 := hid (at_kept HB5.out k8)
      replace HK5 := hid (kept_trans HK5.out k8)
      replace HR5 := hid (row_kept HR5.out k8)
      clear k8
      have hS := cells2 HA5.out
      clear hHeld
      show K _ _
      refine hK.out _ _ (by assumption) (fun hHeld => ?_)
      clear hK K
      try simp only [List.getElem_toArray, List.getElem_cons_zero, List.getElem_cons_succ, Act.put, List.setIfInBounds_toArray, List.set_cons_zero, List.set_cons_succ]
      refine wpAnyH_take (i := 4) (v := .bool true) rfl (by kernel_rfl) (by kernel_rfl) (by kernel_rfl) (fun _ _ _ h => h) (Or.inl ⟨by rfl, fun w hSw => by (try dsimp only at hSw); go_simp⟩) (by assumption) ?_
      try simp only [List.getElem_toArray, List.getElem_cons_zero, List.getElem_cons_succ, Act.put, List.setIfInBounds_toArray, List.set_cons_zero, List.set_cons_succ]
      refine wpAnyH_done (by kernel_rfl) ?_ _
      refine NoPanic.normal ?_
      have HR7 := hid (row_other2 HR5.out HGX.out.2 (.slice (some ⟨G, 0, none⟩) m m) (.int .i64 (most : Int)))
      have HB7 := hid (at_set2 HB5.out (.slice (some ⟨G, 0, none⟩) m m) (.int .i64 (most : Int)))
      have HK7 := hid (kept_set2 HK5.out HXY.out.2.1 (.slice (some ⟨G, 0, none⟩) m m) (.int .i64 (most : Int)))
      obtain ⟨f0, f1, ff⟩ := at_cells2 HA5.out
      obtain ⟨g0, g1, gf⟩ := at_cells2 HB5.out
      clear hS hHeld
      go_wp2_with fail
      go_region
      unfold set2 at HR7 HB7 HK7
      go_wp2_with fail
      refine bodyPost_ret (res3 rfl _ rfl rfl (at_drew HB7.out)) rfl ?_
      rw [HE2.out]
      exact ⟨G, rfl, kept_drew HK7.out, row_drew HR7.out⟩
    · have HE2 : Hid (setT (hm m) m most L k v = (0, upd L a ⟨true, k, v⟩)) := hid (by rw [HE.out, if_neg (by rw [t]; simp), if_neg hc])
      have HCl : Hid (cnt L m < most) := hid (by have := HFu.out; omega)
      have HNo := hid (found_not HOk.out HF.out t)
      have h0 := HOk.out.pos
      have HT := hid t
      clear t HE HSl hsl hc
      go_wp2_with fail
      clear c0 c1 cf d0 d1 df
      replace HA5 := hid (at_drew HA5.out)
      replace HB5 := hid (at_drew HB5.out)
      replace HK5 := hid (kept_drew HK5.out)
      replace HR5 := hid (row_drew HR5.out)
      refine wp_region_noPanic ?_
      refine wp_region_held_drew (S := (fun w' => w'.cell? ⟨X, 0, none⟩ = some (.slice (some ⟨G, 0, none⟩) m m) ∧ w'.cell? ⟨X, 1, none⟩ = some (.int .i64 (most : Int)))) (by kernel_rfl) (by assumption) (fun hHeld => ?_)
      generalize w5.drew = w7 at *
      refine wpAnyH_take (i := 0) (v := .agg #[.slice (some ⟨G, 0, none⟩) m m, .int .i64 (most : Int)]) rfl (by kernel_rfl) (by kernel_rfl) (by kernel_rfl) (fun _ _ _ h => h) (Or.inl ⟨by rfl, fun w hSw => by (try dsimp only at hSw); go_simp⟩) (by assumption) ?_
      try simp only [List.getElem_toArray, List.getElem_cons_zero, List.getElem_cons_succ, Act.put, List.setIfInBounds_toArray, List.set_cons_zero, List.set_cons_succ]
      refine wpAnyH_take (i := 2) (v := .pointer (some ⟨X, 1, none⟩)) rfl (by kernel_rfl) (by kernel_rfl) (by kernel_rfl) (fun _ _ _ h => h) (Or.inl ⟨by rfl, fun w hSw => by (try dsimp only at hSw); go_simp⟩) (by assumption) ?_
      try simp only [List.getElem_toArray, List.getElem_cons_zero, List.getElem_cons_succ, Act.put, List.setIfInBounds_toArray, List.set_cons_zero, List.set_cons_succ]
      refine wpAnyH_take (i := 3) (v := .int .i64 (most : Int)) rfl (by kernel_rfl) (by kernel_rfl) (by kernel_rfl) (fun _ _ _ h => h) (Or.inl ⟨by rfl, fun w hSw => by (try dsimp only at hSw); go_simp⟩) (by assumption) ?_
      try simp only [List.getElem_toArray, List.getElem_cons_zero, List.getElem_cons_succ, Act.put, List.setIfInBounds_toArray, List.set_cons_zero, List.set_cons_succ]
      refine wpAnyH_ready (rs := [1]) (by kernel_rfl) (by simp) ?_
      refine AllReadyH.cons (i := 1) rfl (fun K hK => ?_) AllReadyH.nil
      go_simp
      refine (reflen_any h4 _ HR5.out).mono ?_
      rintro e1 w8 ⟨rfl, k8⟩
      replace HA5 := hid (at_kept HA5.out k8)
      replace HB5 := hid (at_kept HB5.out k8)
      replace HK5 := hid (kept_trans HK5.out k8)
      replace HR5 := hid (row_kept HR5.out k8)
      clear k8
      have hS := cells2 HA5.out
      clear hHeld
      show K _ _
      refine hK.out _ _ (by assumption) (fun hHeld => ?_)
      clear hK K
      try simp only [List.getElem_toArray, List.getElem_cons_zero, List.getElem_cons_succ, Act.put, List.setIfInBounds_toArray, List.set_cons_zero, List.set_cons_succ]
      refine wpAnyH_take (i := 4) (v := .bool false) rfl (by kernel_rfl) (by kernel_rfl) (by kernel_rfl) (fun _ _ _ h => h) (Or.inl ⟨by rfl, fun w hSw => by (try dsimp only at hSw); go_simp; exact HCl.out⟩) (by assumption) ?_
      try simp only [List.getElem_toArray, List.getElem_cons_zero, List.getElem_cons_succ, Act.put, List.setIfInBounds_toArray, List.set_cons_zero, List.set_cons_succ]
      refine wpAnyH_done (by kernel_rfl) ?_ _
      refine NoPanic.normal ?_
      clear hS hHeld
      obtain ⟨f0, f1, ff⟩ := at_cells2 HA5.out
      go_wp2_with fail
      refine (refhome_any (L := L) k hk h0 h4 _).mono ?_
      rintro e1 w9 ⟨rfl, k9⟩
      replace HA5 := hid (at_kept HA5.out k9)
      replace HB5 := hid (at_kept HB5.out k9)
      replace HK5 := hid (kept_trans HK5.out k9)
      replace HR5 := hid (row_kept HR5.out k9)
      clear k9 f0 f1 ff
      obtain ⟨f0, f1, ff⟩ := at_cells2 HA5.out
      have HP := hid (past_home (k := k) HOk.out)
      go_wp2_with fail
      go_loop [8] (fun i => ∃ q : Nat, i = .int .i64 (q : Int) ∧ q < m ∧ Hid (Past (hm m) m L k q)) (fun i => m - way m (hm m k) (intOf i).toNat)
      case atStart => exact ⟨_, rfl, HP.out.1, HP⟩
      case round =>
        obtain ⟨q, rfl, hq, HQ⟩ := hrel
        clear HP
        obtain ⟨r0, r1, r2, rf⟩ := row_cells HR5.out hq
        cases t : (L q).taken with
        | true =>
          rw [t] at r0
          have HN := hid (past_next (HOk.out.home k) HQ.out HFr.out t (fun e => HNo.out q ⟨t, e⟩))
          have hnx := nxt_rem hq
          clear t
          go_wp2_with fail
          go_round
          case rel => exact ⟨nxt m q, by first | rfl | rw [hnx], HN.out.1.1, HN.out.1⟩
          case measure =>
            have h1 := HN.out.2
            have h2 := way_lt (HOk.out.home k) HN.out.1.1
            simp [intOf, hnx]
            omega
        | false =>
          rw [t] at r0
          obtain rfl : a = q := found_one HF.out (past_found (HOk.out.home k) HQ.out (fun t1 => by rw [t] at t1; cases t1))
          clear t
          obtain ⟨w10, hw10⟩ : ∃ w10, ((w9.setCell ⟨G, a * 3, none⟩ (.bool true)).setCell ⟨G, a * 3 + 1, none⟩ (.string k)).setCell ⟨G, a * 3 + 2, none⟩ (.int .i64 v) = w10 := ⟨_, rfl⟩
          have R6 := row_set3 HR5.out ha ⟨true, k, v⟩
          have A6 := set3_at (o := a * 3) (a := .bool true) (b := .string k) (c := .int .i64 v) HA5.out (Ne.symm HGX.out.1)
          have B6 := set3_at (o := a * 3) (a := .bool true) (b := .string k) (c := .int .i64 v) HB5.out (Ne.symm HGX.out.2)
          have K6 := kept_set3 HK5.out HG.out (a * 3) (.bool true) (.string k) (.int .i64 v)
          unfold set3 at R6 A6 B6 K6
          simp only at R6
          rw [hw10] at R6 A6 B6 K6
          have HR7 := hid (row_other2 R6 HGX.out.2 (.slice (some ⟨G, 0, none⟩) m m) (.int .i64 (most : Int)))
          have HB7 := hid (at_set2 B6 (.slice (some ⟨G, 0, none⟩) m m) (.int .i64 (most : Int)))
          have HK7 := hid (kept_set2 K6 HXY.out.2.1 (.slice (some ⟨G, 0, none⟩) m m) (.int .i64 (most : Int)))
          obtain ⟨p0, p1, pf⟩ := at_cells2 A6
          obtain ⟨g0, g1, gf⟩ := at_cells2 B6
          clear R6 A6 B6 K6
          go_wp2_with fail
          go_region
          unfold set2 at HR7 HB7 HK7
          go_wp2_with fail
          refine bodyPost_ret (res3 rfl _ rfl rfl (at_drew HB7.out)) rfl ?_
          rw [HE2.out]
          exact ⟨G, rfl, kept_drew HK7.out, row_drew HR7.out⟩
end Go.Proofs.Ytibdnhnomjcclaa
