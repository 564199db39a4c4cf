/- The contracts of the landed heaviest and of its owners. -/
import Derived.Test.YtfdnfnnagchjcaaRgSet
namespace Go.Proofs.Ytfdnfnnagchjcaa
open Go.ChangeShapes Go.WideShapes Go.ChangeAt Go.RowKit
set_option linter.unusedVariables false
set_option linter.unusedSimpArgs false
set_option maxRecDepth 100000

def wq (t n : Int) : Int := twoI t (n + 1)
def nd : Option Int → Int
  | none => 0
  | some a => a
theorem two_says {a b : Int} {x y : Bool} (h1 : a = b) (h2 : x = y) : Ending.returned (.tuple #[.int .u8 a, .bool x]) = Ending.returned (.tuple #[.int .u8 b, .bool y]) := by rw [h1, h2]
def HvyC (b : Option Int) (w : World) (e : Ending) (w' : World) : Prop := e = .returned (.tuple #[.int .u8 (nd b), .bool b.isSome]) ∧ Kept w w'
set_option maxHeartbeats 3200000 in
theorem hvy_any (t : Int) (p : Int → Bool) (w : World) : Calls Try.prog 34 #[.int .u64 t, .agg (bv p)] w (HvyC (bst (wq t) p 64) w) := by
  have HWt := hid (fun n h1 h2 u => wt_any t n h1 h2 u)
  have HNx := hid (bst_next (wq t) p)
  have HCi := hid (fun k hk a h => @code_in (wq t) p k hk a h)
  have HWq : Hid (∀ n, wq t n = twoI t (n + 1)) := hid (fun n => rfl)
  have HC : Hid (∀ k, k < 64 → (w.alloc (.cells (bv p) 41)).cell? ⟨w.heap.size, k, none⟩ = some (.bool (p (k : Int)))) := hid (fun k hk => (at_cell (at_new w (bv p) 41) k).trans (bv_get p hk))
  have HK := hid (kept_alloc (kept_refl w) (.cells (bv p) 41))
  have HEnd : Hid (∀ a c u, a = nd (bst (wq t) p 64) → c = (bst (wq t) p 64).isSome → Kept w u → HvyC (bst (wq t) p 64) w (.returned (.tuple #[.int .u8 a, .bool c])) u) := hid (fun a c u h1 h2 h3 => ⟨two_says h1 h2, h3⟩)
  obtain ⟨w1, hw1⟩ : ∃ w1, w.alloc (.cells (bv p) 41) = w1 := ⟨_, rfl⟩
  obtain ⟨P, hP⟩ : ∃ P, w.heap.size = P := ⟨_, rfl⟩
  rw [hw1, hP] at HC
  rw [hw1] at HK
  generalize bv p = na at *
  go_enter Try.func34, Try.ntmps34
  go_wp2_with fail
  clear hw1 hP
  go_loopw [6, 7, 9] (fun o s j wr => ∃ k : Nat, k ≤ 64 ∧ j = .int .u8 (k : Int) ∧ o = .int .u8 (nd (bst (wq t) p k)) ∧ s = .bool (bst (wq t) p k).isSome ∧ wr = w1) (fun _ _ j _ => 64 - (intOf j).toNat)
  case atStart => exact ⟨0, Nat.zero_le _, rfl, rfl, rfl, rfl⟩
  case round =>
    obtain ⟨k, hk, rfl, rfl, rfl, rfl⟩ := hrel
    by_cases hlt : k < 64
    · have hkI : (k : Int) < 64 := by omega
      have d1 : ¬ (64 : Int) ≤ (k : Int) := by omega
      have hd1 : decide ((k : Int) < 64) = true := by simpa using hkI
      have hw1 := u8_wrap ((k : Int) + 1) (by omega) (by omega)
      have c0 := HC.out k hlt
      cases hm : p (k : Int) with
      | false =>
        rw [hm] at c0
        have HR : Hid (bst (wq t) p (k + 1) = bst (wq t) p k) := hid (by
          rw [HNx.out k, hm]
          cases bst (wq t) p k <;> simp)
        clear hm
        go_wp2_with fail
        go_roundw
        case rel => exact ⟨k + 1, by omega, by simp, by rw [HR.out], by rw [HR.out], by simp⟩
        case measure => simp [intOf]; omega
      | true =>
        rw [hm] at c0
        cases hq : bst (wq t) p k with
        | none =>
          have HR : Hid (bst (wq t) p (k + 1) = some (k : Int)) := hid (by rw [HNx.out k, hq]; simp [hm])
          have e5 : (none : Option Int).isSome = false := rfl
          have e6 : nd none = 0 := rfl
          rw [e5, e6]
          clear hq hm e5 e6
          go_wp2_with fail
          go_roundw
          case rel => exact ⟨k + 1, by omega, by simp, by rw [HR.out]; rfl, by rw [HR.out]; rfl, by simp⟩
          case measure => simp [intOf]; omega
        | some b =>
          obtain ⟨b1, b2⟩ := HCi.out k hk b hq
          have e5 : (some b).isSome = true := rfl
          have e6 : nd (some b) = b := rfl
          rw [e5, e6]
          have hWk := HWt.out (k : Int) (by omega) (by omega) wr
          have hWb := HWt.out b b1 (by omega) wr
          rw [← HWq.out] at hWk hWb
          by_cases hgt : wq t b < wq t (k : Int)
          · have HR : Hid (bst (wq t) p (k + 1) = some (k : Int)) := hid (by rw [HNx.out k, hq]; simp [hm, hgt])
            have hd : decide (wq t b < wq t (k : Int)) = true := by simpa using hgt
            clear hq hm b1 b2 hgt e5 e6
            generalize wq t (k : Int) = wk at *
            generalize wq t b = wb at *
            go_wp2_with fail
            refine hWk.mono ?_
            rintro e w' ⟨rfl, rfl⟩
            go_wp2_with fail
            refine hWb.mono ?_
            rintro e w' ⟨rfl, rfl⟩
            clear hWk hWb
            go_wp2_with fail
            go_roundw
            case rel => exact ⟨k + 1, by omega, by simp, by rw [HR.out]; rfl, by rw [HR.out]; rfl, by simp⟩
            case measure => simp [intOf]; omega
          · have HR : Hid (bst (wq t) p (k + 1) = some b) := hid (by rw [HNx.out k, hq]; simp [hgt])
            have hd : decide (wq t b < wq t (k : Int)) = false := by simpa using hgt
            clear hq hm b1 b2 hgt e5 e6
            generalize wq t (k : Int) = wk at *
            generalize wq t b = wb at *
            go_wp2_with fail
            refine hWk.mono ?_
            rintro e w' ⟨rfl, rfl⟩
            go_wp2_with fail
            refine hWb.mono ?_
            rintro e w' ⟨rfl, rfl⟩
            clear hWk hWb
            go_wp2_with fail
            go_roundw
            case rel => exact ⟨k + 1, by omega, by simp, by rw [HR.out]; rfl, by rw [HR.out]; rfl, by simp⟩
            case measure => simp [intOf]; omega
    · have he : k = 64 := by omega
      subst he
      rw [show ((64 : Nat) : Int) = 64 from rfl]
      go_wp2_with fail
      go_ret2
      exact HEnd.out _ _ _ rfl rfl HK.out
/- The first n owners. -/
def pickO (o : Option Int) (f : Int → List Int) : List Int := match o with
  | none => []
  | some a => a :: f a
theorem pickO_none (f : Int → List Int) : pickO none f = [] := rfl
theorem pickO_some (a : Int) (f : Int → List Int) : pickO (some a) f = a :: f a := rfl
def ownN (W : Int → Int) (p : Int → Bool) : Nat → List Int
  | 0 => []
  | n + 1 => pickO (bst W p 64) (fun a => ownN W (wo p a) n)
theorem ownN_next (W : Int → Int) (p : Int → Bool) (n : Nat) : ownN W p (n + 1) = pickO (bst W p 64) (fun a => ownN W (wo p a) n) := by rw [ownN]
theorem ownN_none {W : Int → Int} {p : Int → Bool} (h : bst W p 64 = none) (n : Nat) : ownN W p (n + 1) = [] := by rw [ownN_next, h, pickO_none]
theorem ownN_some {W : Int → Int} {p : Int → Bool} {a : Int} (h : bst W p 64 = some a) (n : Nat) : ownN W p (n + 1) = a :: ownN W (wo p a) n := by rw [ownN_next, h, pickO_some]
theorem ownN_zero (W : Int → Int) (p : Int → Bool) : ownN W p 0 = [] := rfl
theorem ownN_two (W : Int → Int) (p : Int → Bool) : ownN W p 2 = own W p := by
  rcases own_cases W p with ⟨e, g⟩ | ⟨a, e, g1, g2⟩ | ⟨a, b, e, g1, g2⟩
  · rw [e, ownN_none g]
  · rw [e, ownN_some g1, ownN_none g2]
  · rw [e, ownN_some g1, ownN_some g2, ownN_zero]
theorem at_beside {α : Type} {enc : α → List Value} {c : Nat} {T U : TypeId} {w w' : World} {B X : Nat} {v : Value} {xs : List α} {cs : Array Value} (h : At w X cs T) (k : Og enc c U w B v xs) (hTU : T ≠ U) (g : w.grownBy w' v.ownBlock) : At w' X cs T :=
  (g.block X (at_lt h) (fun e => by
    rcases k.2 with ⟨rfl, _⟩ | ⟨g', cap, cur', rfl, _, hg, _⟩
    · cases e
    · injection e with e
      subst e
      exact at_ne h hg hTU rfl)).trans h
set_option maxHeartbeats 3200000 in
theorem owns_t (t : Int) (p : Int → Bool) (w : World) : Calls Try.prog 25 #[.int .u64 t, .agg (bv p)] w (GRowC encU 1 5 (own (wq t) p) w) := by
  have HHv := hid (fun q u => hvy_any t q u)
  have HCi := hid (fun q a h => @code_in (wq t) q 64 (Nat.le_refl _) a h)
  have HA0 := hid (at_new w (bv p) 41)
  have HK0 := hid (kept_alloc (kept_refl w) (.cells (bv p) 41))
  obtain ⟨w1, hw1⟩ : ∃ w1, w.alloc (.cells (bv p) 41) = w1 := ⟨_, rfl⟩
  obtain ⟨P, hP⟩ : ∃ P, w.heap.size = P := ⟨_, rfl⟩
  rw [hw1, hP] at HA0
  rw [hw1] at HK0
  have HPB : Hid (w.heap.size ≤ P ∧ P < w1.heap.size) := hid ⟨by omega, at_lt HA0.out⟩
  obtain ⟨B, hB⟩ : ∃ B, w1.heap.size = B := ⟨_, rfl⟩
  rw [hB] at HPB
  have HBe : Hid (B ≤ w1.heap.size) := hid (by omega)
  have HO0 := hid (og_nil encU 1 5 w1 B)
  have HEnd : Hid (∀ v u xs, xs = own (wq t) p → Og encU 1 5 u B v xs → Kept w u → GRowC encU 1 5 (own (wq t) p) w (.returned v) u) := hid (fun v u xs h1 h2 h3 => ⟨v, rfl, og_low (by rw [← h1]; exact h2) (by have := HPB.out; omega), h3⟩)
  have HS0 : Hid (own (wq t) p = [] ++ ownN (wq t) p 2) := hid (by rw [ownN_two]; rfl)
  generalize own (wq t) p = os at *
  generalize hna : bv p = na at *
  have HNa := hid hna
  clear hna
  go_enter Try.func25, Try.ntmps25
  go_wp2_with fail
  clear hw1 hP hB
  go_loopw [5, 8] (fun ls j wr => ∃ (k : Nat) (q : Int → Bool) (xs : List Int), k ≤ 2 ∧ j = .int .i64 (k : Int) ∧ Hid (At wr P (bv q) 41) ∧ Hid (Og encU 1 5 wr B ls xs) ∧ Hid (Kept w wr) ∧ Hid (B ≤ wr.heap.size) ∧ Hid (os = xs ++ ownN (wq t) q (2 - k) ∧ xs.length = k)) (fun _ j _ => 2 - (intOf j).toNat)
  case atStart => exact ⟨0, p, [], by omega, rfl, hid (by rw [HNa.out]; exact HA0.out), HO0, HK0, HBe, hid ⟨HS0.out, rfl⟩⟩
  case round =>
    obtain ⟨k, q, xs, hk, rfl, HA, HO, HK, HB, HS⟩ := hrel
    clear HA0 HO0 HK0 HBe HS0 HNa
    by_cases hlt : k < 2
    · have HL := hid (loadS HA.out)
      have hH := HHv.out q wr
      cases hq : bst (wq t) q 64 with
      | none =>
        rw [hq] at hH
        have HE : Hid (xs = os) := hid (by
          obtain ⟨n, hn⟩ : ∃ n, 2 - k = n + 1 := ⟨1 - k, by omega⟩
          rw [HS.out.1, hn]
          rw [ownN_none hq, List.append_nil])
        clear hq
        generalize bv q = nq at *
        go_wp2_with (refine wpList_loadS rfl _ rfl P rfl nq HL.out ?_)
        refine hH.mono ?_
        rintro e w2 ⟨rfl, k2⟩
        have e5 : (none : Option Int).isSome = false := rfl
        have e6 : nd none = 0 := rfl
        rw [e5, e6]
        have HO2 := hid (og_stays HO.out k2)
        have HK2 := hid (kept_trans HK.out k2)
        clear hH k2 e5 e6
        go_wp2_with fail
        go_ret
        exact HEnd.out _ _ _ HE.out HO2.out HK2.out
      | some a =>
        rw [hq] at hH
        obtain ⟨b1, b2⟩ := HCi.out q a hq
        obtain ⟨a, rfl⟩ := Int.eq_ofNat_of_zero_le b1
        have hlt64 : a < 64 := by omega
        have d1 : ¬ (64 : Int) ≤ (a : Int) := by omega
        have HS2 : Hid (os = (xs ++ [(a : Int)]) ++ ownN (wq t) (wo q (a : Int)) (2 - (k + 1)) ∧ (xs ++ [(a : Int)]).length = k + 1) := hid ⟨by
          obtain ⟨n, hn⟩ : ∃ n, 2 - k = n + 1 := ⟨1 - k, by omega⟩
          have hn2 : 2 - (k + 1) = n := by omega
          rw [HS.out.1, hn, hn2]
          rw [ownN_some hq, List.append_assoc]; rfl, by rw [List.length_append, HS.out.2]; rfl⟩
        clear hq b1
        have HLl : Hid (xs.length ≤ 2) := hid (by have := HS.out.2; omega)
        have HA' := hid HA.out
        generalize hnq : bv q = nq at HL hH HA'
        have HNq := hid hnq
        clear hnq
        go_wp2_with (refine wpList_loadS rfl _ rfl P rfl nq HL.out ?_)
        refine hH.mono ?_
        rintro e w2 ⟨rfl, k2⟩
        have e5 : (some (a : Int)).isSome = true := rfl
        have e6 : nd (some (a : Int)) = (a : Int) := rfl
        rw [e5, e6]
        have HA2 := hid (at_kept HA.out k2)
        have HO2 := hid (og_stays HO.out k2)
        have HK2 := hid (kept_trans HK.out k2)
        have HB2 : Hid (B ≤ w2.heap.size) := hid (by have := HB.out; have := k2.2; omega)
        clear hH k2 e5 e6 HA HO HK HB HS HL HA' HNq
        have HKa := hid (kept_alloc HK2.out (.cells #[.int .u8 (a : Int)] 5))
        have HAa := hid (at_alloc HA2.out (.cells #[.int .u8 (a : Int)] 5))
        have HOa := hid (og_stays HO2.out (kept_alloc (kept_refl _) (.cells #[.int .u8 (a : Int)] 5)))
        have HAl := hid (rg_alone encU_ok (y := (a : Int)) (at_new w2 #[.int .u8 (a : Int)] 5))
        have HBa : Hid (B ≤ (w2.alloc (.cells #[.int .u8 (a : Int)] 5)).heap.size) := hid (by rw [World.size_alloc]; have := HB2.out; omega)
        go_wp2_with (at_builtin; go_must (refine wpList_gapp rfl (.tmp 18) (.tmp 20) rfl encU_ok tyU (by decide) B _ _ _ _ rfl HOa.out rfl HAl.out (by have := HLl.out; simp; omega) HBa.out ?_; intro v3 w3 hown3 hgrow3 hnil3; have HA3 := hid (at_beside HAa.out HOa.out (by decide) hgrow3); have c1 := (at_cell HA3.out a).trans (bv_get q hlt64); have cf := at_frozen HA3.out))
        have HO4 := hid (og_set hown3 HPB.out.2 a (.bool false))
        have HK4 := hid (kept_set (kept_gr HKa.out hgrow3 (fun j hj => by have := og_lt HOa.out hj; have := HPB.out; omega)) HPB.out.1 a (.bool false))
        have HA4 := hid (at_set HA3.out a (.bool false))
        rw [bv_set _ a hlt64, bv_wo] at HA4
        have HB4 : Hid (B ≤ (w3.setCell ⟨P, a, none⟩ (.bool false)).heap.size) := hid (by rw [World.size_setCell]; have := hgrow3.size; have := HBa.out; omega)
        clear hown3 hgrow3 hnil3 c1 cf
        go_roundw
        case rel => exact ⟨k + 1, wo q (a : Int), xs ++ [(a : Int)], by omega, by go_num, HA4, HO4, HK4, HB4, HS2⟩
        case measure => simp [intOf]; omega
    · have he : k = 2 := by omega
      subst he
      have HE : Hid (xs = os) := hid (by rw [HS.out.1]; rw [show 2 - 2 = 0 from rfl, ownN_zero, List.append_nil])
      go_wp2_with fail
      go_ret
      exact HEnd.out _ _ _ HE.out HO.out HK.out
end Go.Proofs.Ytfdnfnnagchjcaa
