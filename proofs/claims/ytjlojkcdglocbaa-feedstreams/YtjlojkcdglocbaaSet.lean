/- The contract of the program's set: it answers what the plain function does, of any row of words. Each word has at most 2^32 bytes. It turns nothing that was there. -/
import Derived.Test.YtjlojkcdglocbaaTouch
namespace Go.Proofs.Ytjlojkcdglocbaa
open Go.ChangeShapes Go.WideShapes Go.ChangeAt Go.RowKit
set_option linter.unusedVariables false
set_option linter.unusedSimpArgs false

theorem bad_end2 {w w2 : World} {X : Nat} {r : ByteArray} {c : Cm} {d : Int} (hc : c = bad r) (HA : At w2 X #[.int .i64 0, .slice none 0 0, .int .u32 0, .int .i64 0, .string ⟨#[]⟩, .bool false, .string ⟨#[]⟩] 38) (HY : ∀ (u : World) (a0 a1 a2 a3 a4 a5 a6 : Value), Kept w u → Kept w (set7 u X a0 a1 a2 a3 a4 a5 a6)) (hk : Kept w w2) :
    ∃ kv, Ending.returned (.tuple #[.agg #[.int .i64 8, .slice none 0 0, .int .u32 0, .int .i64 0, .string ⟨#[]⟩, .bool false, .string r], .int .i64 d]) = .returned (.tuple #[.agg #[.int .i64 c.kind, kv, .int .u32 c.flags, .int .i64 c.exp, .string ⟨#[]⟩, .bool c.quiet, .string c.reply], .int .i64 d]) ∧ Keys (set7 w2 X (.int .i64 8) (.slice none 0 0) (.int .u32 0) (.int .i64 0) (.string ⟨#[]⟩) (.bool false) (.string r)) kv c.keys ∧ Kept w (set7 w2 X (.int .i64 8) (.slice none 0 0) (.int .u32 0) (.int .i64 0) (.string ⟨#[]⟩) (.bool false) (.string r)) := by
  subst hc
  exact ⟨.slice none 0 0, rfl, keys_nil _, HY _ _ _ _ _ _ _ _ hk⟩
set_option maxHeartbeats 1600000 in
theorem set_bad (c : Cm) (hc : c = bad rFmt) (A o n cap k : Nat) (q : Bool) (d : Int) (hk : k ≠ 4) (w : World)
    (hD : ∀ w1, Kept w w1 → Calls Try.prog 53 #[.slice (some ⟨A, o, none⟩) n cap] w1 fun e w' => e = .returned (.int .i64 d) ∧ w' = w1)
    (hcut : ∀ w1, Kept w w1 → Calls Try.prog 54 #[.slice (some ⟨A, o, none⟩) n cap, .int .i64 4] w1 fun e w' => e = .returned (.tuple #[.slice (some ⟨A, o, none⟩) k cap, .bool q]) ∧ w' = w1) :
    Calls Try.prog 43 #[.slice (some ⟨A, o, none⟩) n cap] w fun e w' => ∃ kv, e = .returned (.tuple #[.agg #[.int .i64 c.kind, kv, .int .u32 c.flags, .int .i64 c.exp, .string ⟨#[]⟩, .bool c.quiet, .string c.reply], .int .i64 d]) ∧ Keys w' kv c.keys ∧ Kept w w' := by
  have hz := zero26
  have HA : Hid (At (w.alloc (.cells #[.int .i64 0, .slice none 0 0, .int .u32 0, .int .i64 0, .string ⟨#[]⟩, .bool false, .string ⟨#[]⟩] 38)) w.heap.size #[.int .i64 0, .slice none 0 0, .int .u32 0, .int .i64 0, .string ⟨#[]⟩, .bool false, .string ⟨#[]⟩] 38) := at_new _ _ _
  have HK : Hid (Kept w (w.alloc (.cells #[.int .i64 0, .slice none 0 0, .int .u32 0, .int .i64 0, .string ⟨#[]⟩, .bool false, .string ⟨#[]⟩] 38))) := kept_alloc (kept_refl w) _
  have HY : Hid (∀ (u : World) (a0 a1 a2 a3 a4 a5 a6 : Value), Kept w u → Kept w (set7 u w.heap.size a0 a1 a2 a3 a4 a5 a6)) := fun u a0 a1 a2 a3 a4 a5 a6 h => kept_set7 h (Nat.le_refl _) _ _ _ _ _ _ _
  have h1 : ((k : Int) != 4) = true := by simp; omega
  clear hk
  have HCut := hid hcut
  have HD := hid hD
  clear hcut hD
  go_enter Try.func43, Try.ntmps43
  go_wp2_with fail
  generalize w.alloc (.cells #[.int .i64 0, .slice none 0 0, .int .u32 0, .int .i64 0, .string ⟨#[]⟩, .bool false, .string ⟨#[]⟩] 38) = wa at *
  generalize w.heap.size = X at *
  refine (HD.out _ HK.out).mono ?_
  rintro e w1 ⟨rfl, hw⟩
  rw [hw]; clear hw w1
  go_wp2_with fail
  refine (HCut.out _ HK.out).mono ?_
  rintro e w1 ⟨rfl, hw⟩
  rw [hw]; clear hw w1
  go_wp2_with fail
  refine (bad_any _ _).mono ?_
  rintro e w2 ⟨rfl, hk2⟩
  have HA2 := hid (at_kept HA.out hk2)
  have HK2 := hid (kept_trans HK.out hk2)
  clear hk2
  obtain ⟨c0, c1, c2, c3, c4, c5, c6, fr⟩ := at_cells7 HA2.out
  go_wp2_with fail
  refine bodyPost_ret (res2 rfl _ rfl rfl (at_set7 HA2.out _ _ _ _ _ _ _)) rfl ?_
  exact bad_end2 hc HA2.out HY.out HK2.out
set_option maxHeartbeats 1600000 in
theorem set_key (c : Cm) (hc : c = bad rFmt) (A o n cap : Nat) (q : Bool) (d : Int) (x : ByteArray) (hs : x.size ≤ 4294967296) (hk : keyMay x = false) (w : World) (hx : ∀ w1, Kept w w1 → w1.cell? ⟨A, o, none⟩ = some (.string x))
    (hD : ∀ w1, Kept w w1 → Calls Try.prog 53 #[.slice (some ⟨A, o, none⟩) n cap] w1 fun e w' => e = .returned (.int .i64 d) ∧ w' = w1)
    (hcut : ∀ w1, Kept w w1 → Calls Try.prog 54 #[.slice (some ⟨A, o, none⟩) n cap, .int .i64 4] w1 fun e w' => e = .returned (.tuple #[.slice (some ⟨A, o, none⟩) 4 cap, .bool q]) ∧ w' = w1) :
    Calls Try.prog 43 #[.slice (some ⟨A, o, none⟩) n cap] w fun e w' => ∃ kv, e = .returned (.tuple #[.agg #[.int .i64 c.kind, kv, .int .u32 c.flags, .int .i64 c.exp, .string ⟨#[]⟩, .bool c.quiet, .string c.reply], .int .i64 d]) ∧ Keys w' kv c.keys ∧ Kept w w' := by
  have hz := zero26
  have HA : Hid (At (w.alloc (.cells #[.int .i64 0, .slice none 0 0, .int .u32 0, .int .i64 0, .string ⟨#[]⟩, .bool false, .string ⟨#[]⟩] 38)) w.heap.size #[.int .i64 0, .slice none 0 0, .int .u32 0, .int .i64 0, .string ⟨#[]⟩, .bool false, .string ⟨#[]⟩] 38) := at_new _ _ _
  have HK : Hid (Kept w (w.alloc (.cells #[.int .i64 0, .slice none 0 0, .int .u32 0, .int .i64 0, .string ⟨#[]⟩, .bool false, .string ⟨#[]⟩] 38))) := kept_alloc (kept_refl w) _
  have HY : Hid (∀ (u : World) (a0 a1 a2 a3 a4 a5 a6 : Value), Kept w u → Kept w (set7 u w.heap.size a0 a1 a2 a3 a4 a5 a6)) := fun u a0 a1 a2 a3 a4 a5 a6 h => kept_set7 h (Nat.le_refl _) _ _ _ _ _ _ _
  have HM : Hid (∀ w, _) := fun w => KeyMay_any x (by unfold maxLen; omega) w
  rw [hk] at HM
  clear hk hs
  have HCut := hid hcut
  have HX := hid hx
  have HD := hid hD
  clear hcut hx hD
  go_enter Try.func43, Try.ntmps43
  go_wp2_with fail
  generalize w.alloc (.cells #[.int .i64 0, .slice none 0 0, .int .u32 0, .int .i64 0, .string ⟨#[]⟩, .bool false, .string ⟨#[]⟩] 38) = wa at *
  generalize w.heap.size = X at *
  refine (HD.out _ HK.out).mono ?_
  rintro e w1 ⟨rfl, hw⟩
  rw [hw]; clear hw w1
  go_wp2_with fail
  refine (HCut.out _ HK.out).mono ?_
  rintro e w1 ⟨rfl, hw⟩
  rw [hw]; clear hw w1
  have hx := HX.out _ HK.out
  go_wp2_with fail
  refine (HM.out _).mono ?_
  rintro e w1 ⟨rfl, hw⟩
  rw [hw]; clear hw w1
  go_wp2_with fail
  refine (bad_any _ _).mono ?_
  rintro e w2 ⟨rfl, hk2⟩
  have HA2 := hid (at_kept HA.out hk2)
  have HK2 := hid (kept_trans HK.out hk2)
  clear hk2
  obtain ⟨c0, c1, c2, c3, c4, c5, c6, fr⟩ := at_cells7 HA2.out
  go_wp2_with fail
  refine bodyPost_ret (res2 rfl _ rfl rfl (at_set7 HA2.out _ _ _ _ _ _ _)) rfl ?_
  exact bad_end2 hc HA2.out HY.out HK2.out
set_option maxHeartbeats 1600000 in
theorem set_p1 (c : Cm) (hc : c = bad rFmt) (A o n cap : Nat) (q : Bool) (x y z : ByteArray) (f t d : Int) (b : Bool) (hs : x.size ≤ 4294967296) (hk : keyMay x = true) (w : World)
    (hT1 : ∀ w, Calls Try.prog 55 #[.string y] w fun e w' => e = .returned (.tuple #[.int .u32 f, .bool false]) ∧ w' = w)
    (hT2 : ∀ w, Calls Try.prog 56 #[.string z] w fun e w' => e = .returned (.tuple #[.int .i64 t, .bool b]) ∧ w' = w)
    (hx : ∀ w1, Kept w w1 → w1.cell? ⟨A, o, none⟩ = some (.string x) ∧ w1.cell? ⟨A, o + 1, none⟩ = some (.string y) ∧ w1.cell? ⟨A, o + 2, none⟩ = some (.string z))
    (hD : ∀ w1, Kept w w1 → Calls Try.prog 53 #[.slice (some ⟨A, o, none⟩) n cap] w1 fun e w' => e = .returned (.int .i64 d) ∧ w' = w1)
    (hcut : ∀ w1, Kept w w1 → Calls Try.prog 54 #[.slice (some ⟨A, o, none⟩) n cap, .int .i64 4] w1 fun e w' => e = .returned (.tuple #[.slice (some ⟨A, o, none⟩) 4 cap, .bool q]) ∧ w' = w1) :
    Calls Try.prog 43 #[.slice (some ⟨A, o, none⟩) n cap] w fun e w' => ∃ kv, e = .returned (.tuple #[.agg #[.int .i64 c.kind, kv, .int .u32 c.flags, .int .i64 c.exp, .string ⟨#[]⟩, .bool c.quiet, .string c.reply], .int .i64 d]) ∧ Keys w' kv c.keys ∧ Kept w w' := by
  have hz := zero26
  have HA : Hid (At (w.alloc (.cells #[.int .i64 0, .slice none 0 0, .int .u32 0, .int .i64 0, .string ⟨#[]⟩, .bool false, .string ⟨#[]⟩] 38)) w.heap.size #[.int .i64 0, .slice none 0 0, .int .u32 0, .int .i64 0, .string ⟨#[]⟩, .bool false, .string ⟨#[]⟩] 38) := at_new _ _ _
  have HK : Hid (Kept w (w.alloc (.cells #[.int .i64 0, .slice none 0 0, .int .u32 0, .int .i64 0, .string ⟨#[]⟩, .bool false, .string ⟨#[]⟩] 38))) := kept_alloc (kept_refl w) _
  have HY : Hid (∀ (u : World) (a0 a1 a2 a3 a4 a5 a6 : Value), Kept w u → Kept w (set7 u w.heap.size a0 a1 a2 a3 a4 a5 a6)) := fun u a0 a1 a2 a3 a4 a5 a6 h => kept_set7 h (Nat.le_refl _) _ _ _ _ _ _ _
  have HM : Hid (∀ w, _) := fun w => KeyMay_any x (by unfold maxLen; omega) w
  rw [hk] at HM
  clear hk hs
  have HCut := hid hcut
  have HX := hid hx
  have HD := hid hD
  have HT1 := hid hT1
  have HT2 := hid hT2
  clear hcut hx hD hT1 hT2
  go_enter Try.func43, Try.ntmps43
  go_wp2_with fail
  generalize w.alloc (.cells #[.int .i64 0, .slice none 0 0, .int .u32 0, .int .i64 0, .string ⟨#[]⟩, .bool false, .string ⟨#[]⟩] 38) = wa at *
  generalize w.heap.size = X at *
  refine (HD.out _ HK.out).mono ?_
  rintro e w1 ⟨rfl, hw⟩
  rw [hw]; clear hw w1
  go_wp2_with fail
  refine (HCut.out _ HK.out).mono ?_
  rintro e w1 ⟨rfl, hw⟩
  rw [hw]; clear hw w1
  have hx := HX.out _ HK.out
  obtain ⟨hx0, hx1, hx2⟩ := hx
  go_wp2_with fail
  refine (HM.out _).mono ?_
  rintro e w1 ⟨rfl, hw⟩
  rw [hw]; clear hw w1
  go_wp2_with fail
  refine (HT1.out _).mono ?_
  rintro e w1 ⟨rfl, hw⟩
  rw [hw]; clear hw w1
  go_wp2_with fail
  refine (HT2.out _).mono ?_
  rintro e w1 ⟨rfl, hw⟩
  rw [hw]; clear hw w1
  go_wp2_with fail
  refine (bad_any _ _).mono ?_
  rintro e w2 ⟨rfl, hk2⟩
  have HA2 := hid (at_kept HA.out hk2)
  have HK2 := hid (kept_trans HK.out hk2)
  clear hk2
  obtain ⟨c0, c1, c2, c3, c4, c5, c6, fr⟩ := at_cells7 HA2.out
  go_wp2_with fail
  refine bodyPost_ret (res2 rfl _ rfl rfl (at_set7 HA2.out _ _ _ _ _ _ _)) rfl ?_
  exact bad_end2 hc HA2.out HY.out HK2.out

set_option maxHeartbeats 1600000 in
theorem set_p2 (c : Cm) (hc : c = bad rFmt) (A o n cap : Nat) (q : Bool) (x y z : ByteArray) (f t d : Int) (hs : x.size ≤ 4294967296) (hk : keyMay x = true) (w : World)
    (hT1 : ∀ w, Calls Try.prog 55 #[.string y] w fun e w' => e = .returned (.tuple #[.int .u32 f, .bool true]) ∧ w' = w)
    (hT2 : ∀ w, Calls Try.prog 56 #[.string z] w fun e w' => e = .returned (.tuple #[.int .i64 t, .bool false]) ∧ w' = w)
    (hx : ∀ w1, Kept w w1 → w1.cell? ⟨A, o, none⟩ = some (.string x) ∧ w1.cell? ⟨A, o + 1, none⟩ = some (.string y) ∧ w1.cell? ⟨A, o + 2, none⟩ = some (.string z))
    (hD : ∀ w1, Kept w w1 → Calls Try.prog 53 #[.slice (some ⟨A, o, none⟩) n cap] w1 fun e w' => e = .returned (.int .i64 d) ∧ w' = w1)
    (hcut : ∀ w1, Kept w w1 → Calls Try.prog 54 #[.slice (some ⟨A, o, none⟩) n cap, .int .i64 4] w1 fun e w' => e = .returned (.tuple #[.slice (some ⟨A, o, none⟩) 4 cap, .bool q]) ∧ w' = w1) :
    Calls Try.prog 43 #[.slice (some ⟨A, o, none⟩) n cap] w fun e w' => ∃ kv, e = .returned (.tuple #[.agg #[.int .i64 c.kind, kv, .int .u32 c.flags, .int .i64 c.exp, .string ⟨#[]⟩, .bool c.quiet, .string c.reply], .int .i64 d]) ∧ Keys w' kv c.keys ∧ Kept w w' := by
  have hz := zero26
  have HA : Hid (At (w.alloc (.cells #[.int .i64 0, .slice none 0 0, .int .u32 0, .int .i64 0, .string ⟨#[]⟩, .bool false, .string ⟨#[]⟩] 38)) w.heap.size #[.int .i64 0, .slice none 0 0, .int .u32 0, .int .i64 0, .string ⟨#[]⟩, .bool false, .string ⟨#[]⟩] 38) := at_new _ _ _
  have HK : Hid (Kept w (w.alloc (.cells #[.int .i64 0, .slice none 0 0, .int .u32 0, .int .i64 0, .string ⟨#[]⟩, .bool false, .string ⟨#[]⟩] 38))) := kept_alloc (kept_refl w) _
  have HY : Hid (∀ (u : World) (a0 a1 a2 a3 a4 a5 a6 : Value), Kept w u → Kept w (set7 u w.heap.size a0 a1 a2 a3 a4 a5 a6)) := fun u a0 a1 a2 a3 a4 a5 a6 h => kept_set7 h (Nat.le_refl _) _ _ _ _ _ _ _
  have HM : Hid (∀ w, _) := fun w => KeyMay_any x (by unfold maxLen; omega) w
  rw [hk] at HM
  clear hk hs
  have HCut := hid hcut
  have HX := hid hx
  have HD := hid hD
  have HT1 := hid hT1
  have HT2 := hid hT2
  clear hcut hx hD hT1 hT2
  go_enter Try.func43, Try.ntmps43
  go_wp2_with fail
  generalize w.alloc (.cells #[.int .i64 0, .slice none 0 0, .int .u32 0, .int .i64 0, .string ⟨#[]⟩, .bool false, .string ⟨#[]⟩] 38) = wa at *
  generalize w.heap.size = X at *
  refine (HD.out _ HK.out).mono ?_
  rintro e w1 ⟨rfl, hw⟩
  rw [hw]; clear hw w1
  go_wp2_with fail
  refine (HCut.out _ HK.out).mono ?_
  rintro e w1 ⟨rfl, hw⟩
  rw [hw]; clear hw w1
  have hx := HX.out _ HK.out
  obtain ⟨hx0, hx1, hx2⟩ := hx
  go_wp2_with fail
  refine (HM.out _).mono ?_
  rintro e w1 ⟨rfl, hw⟩
  rw [hw]; clear hw w1
  go_wp2_with fail
  refine (HT1.out _).mono ?_
  rintro e w1 ⟨rfl, hw⟩
  rw [hw]; clear hw w1
  go_wp2_with fail
  refine (HT2.out _).mono ?_
  rintro e w1 ⟨rfl, hw⟩
  rw [hw]; clear hw w1
  go_wp2_with fail
  refine (bad_any _ _).mono ?_
  rintro e w2 ⟨rfl, hk2⟩
  have HA2 := hid (at_kept HA.out hk2)
  have HK2 := hid (kept_trans HK.out hk2)
  clear hk2
  obtain ⟨c0, c1, c2, c3, c4, c5, c6, fr⟩ := at_cells7 HA2.out
  go_wp2_with fail
  refine bodyPost_ret (res2 rfl _ rfl rfl (at_set7 HA2.out _ _ _ _ _ _ _)) rfl ?_
  exact bad_end2 hc HA2.out HY.out HK2.out

set_option maxHeartbeats 1600000 in
theorem set_p3 (c : Cm) (hc : c = bad rFmt) (A o n cap : Nat) (q : Bool) (x y z : ByteArray) (f t : Int) (hs : x.size ≤ 4294967296) (hk : keyMay x = true) (w : World)
    (hT1 : ∀ w, Calls Try.prog 55 #[.string y] w fun e w' => e = .returned (.tuple #[.int .u32 f, .bool true]) ∧ w' = w)
    (hT2 : ∀ w, Calls Try.prog 56 #[.string z] w fun e w' => e = .returned (.tuple #[.int .i64 t, .bool true]) ∧ w' = w)
    (hx : ∀ w1, Kept w w1 → w1.cell? ⟨A, o, none⟩ = some (.string x) ∧ w1.cell? ⟨A, o + 1, none⟩ = some (.string y) ∧ w1.cell? ⟨A, o + 2, none⟩ = some (.string z))
    (hD : ∀ w1, Kept w w1 → Calls Try.prog 53 #[.slice (some ⟨A, o, none⟩) n cap] w1 fun e w' => e = .returned (.int .i64 (-1)) ∧ w' = w1)
    (hcut : ∀ w1, Kept w w1 → Calls Try.prog 54 #[.slice (some ⟨A, o, none⟩) n cap, .int .i64 4] w1 fun e w' => e = .returned (.tuple #[.slice (some ⟨A, o, none⟩) 4 cap, .bool q]) ∧ w' = w1) :
    Calls Try.prog 43 #[.slice (some ⟨A, o, none⟩) n cap] w fun e w' => ∃ kv, e = .returned (.tuple #[.agg #[.int .i64 c.kind, kv, .int .u32 c.flags, .int .i64 c.exp, .string ⟨#[]⟩, .bool c.quiet, .string c.reply], .int .i64 (-1)]) ∧ Keys w' kv c.keys ∧ Kept w w' := by
  have hz := zero26
  have HA : Hid (At (w.alloc (.cells #[.int .i64 0, .slice none 0 0, .int .u32 0, .int .i64 0, .string ⟨#[]⟩, .bool false, .string ⟨#[]⟩] 38)) w.heap.size #[.int .i64 0, .slice none 0 0, .int .u32 0, .int .i64 0, .string ⟨#[]⟩, .bool false, .string ⟨#[]⟩] 38) := at_new _ _ _
  have HK : Hid (Kept w (w.alloc (.cells #[.int .i64 0, .slice none 0 0, .int .u32 0, .int .i64 0, .string ⟨#[]⟩, .bool false, .string ⟨#[]⟩] 38))) := kept_alloc (kept_refl w) _
  have HY : Hid (∀ (u : World) (a0 a1 a2 a3 a4 a5 a6 : Value), Kept w u → Kept w (set7 u w.heap.size a0 a1 a2 a3 a4 a5 a6)) := fun u a0 a1 a2 a3 a4 a5 a6 h => kept_set7 h (Nat.le_refl _) _ _ _ _ _ _ _
  have HM : Hid (∀ w, _) := fun w => KeyMay_any x (by unfold maxLen; omega) w
  rw [hk] at HM
  clear hk hs
  have HCut := hid hcut
  have HX := hid hx
  have HD := hid hD
  have HT1 := hid hT1
  have HT2 := hid hT2
  clear hcut hx hD hT1 hT2
  go_enter Try.func43, Try.ntmps43
  go_wp2_with fail
  generalize w.alloc (.cells #[.int .i64 0, .slice none 0 0, .int .u32 0, .int .i64 0, .string ⟨#[]⟩, .bool false, .string ⟨#[]⟩] 38) = wa at *
  generalize w.heap.size = X at *
  refine (HD.out _ HK.out).mono ?_
  rintro e w1 ⟨rfl, hw⟩
  rw [hw]; clear hw w1
  go_wp2_with fail
  refine (HCut.out _ HK.out).mono ?_
  rintro e w1 ⟨rfl, hw⟩
  rw [hw]; clear hw w1
  have hx := HX.out _ HK.out
  obtain ⟨hx0, hx1, hx2⟩ := hx
  go_wp2_with fail
  refine (HM.out _).mono ?_
  rintro e w1 ⟨rfl, hw⟩
  rw [hw]; clear hw w1
  go_wp2_with fail
  refine (HT1.out _).mono ?_
  rintro e w1 ⟨rfl, hw⟩
  rw [hw]; clear hw w1
  go_wp2_with fail
  refine (HT2.out _).mono ?_
  rintro e w1 ⟨rfl, hw⟩
  rw [hw]; clear hw w1
  go_wp2_with fail
  refine (bad_any _ _).mono ?_
  rintro e w2 ⟨rfl, hk2⟩
  have HA2 := hid (at_kept HA.out hk2)
  have HK2 := hid (kept_trans HK.out hk2)
  clear hk2
  obtain ⟨c0, c1, c2, c3, c4, c5, c6, fr⟩ := at_cells7 HA2.out
  go_wp2_with fail
  refine bodyPost_ret (res2 rfl _ rfl rfl (at_set7 HA2.out _ _ _ _ _ _ _)) rfl ?_
  exact bad_end2 hc HA2.out HY.out HK2.out

set_option maxHeartbeats 1600000 in
theorem set_big (c : Cm) (hc : c = bad rBig) (A o n cap : Nat) (q : Bool) (x y z : ByteArray) (f t d : Int) (hd : 1024 < d) (hs : x.size ≤ 4294967296) (hk : keyMay x = true) (w : World)
    (hT1 : ∀ w, Calls Try.prog 55 #[.string y] w fun e w' => e = .returned (.tuple #[.int .u32 f, .bool true]) ∧ w' = w)
    (hT2 : ∀ w, Calls Try.prog 56 #[.string z] w fun e w' => e = .returned (.tuple #[.int .i64 t, .bool true]) ∧ w' = w)
    (hx : ∀ w1, Kept w w1 → w1.cell? ⟨A, o, none⟩ = some (.string x) ∧ w1.cell? ⟨A, o + 1, none⟩ = some (.string y) ∧ w1.cell? ⟨A, o + 2, none⟩ = some (.string z))
    (hD : ∀ w1, Kept w w1 → Calls Try.prog 53 #[.slice (some ⟨A, o, none⟩) n cap] w1 fun e w' => e = .returned (.int .i64 d) ∧ w' = w1)
    (hcut : ∀ w1, Kept w w1 → Calls Try.prog 54 #[.slice (some ⟨A, o, none⟩) n cap, .int .i64 4] w1 fun e w' => e = .returned (.tuple #[.slice (some ⟨A, o, none⟩) 4 cap, .bool q]) ∧ w' = w1) :
    Calls Try.prog 43 #[.slice (some ⟨A, o, none⟩) n cap] w fun e w' => ∃ kv, e = .returned (.tuple #[.agg #[.int .i64 c.kind, kv, .int .u32 c.flags, .int .i64 c.exp, .string ⟨#[]⟩, .bool c.quiet, .string c.reply], .int .i64 d]) ∧ Keys w' kv c.keys ∧ Kept w w' := by
  have hz := zero26
  have HA : Hid (At (w.alloc (.cells #[.int .i64 0, .slice none 0 0, .int .u32 0, .int .i64 0, .string ⟨#[]⟩, .bool false, .string ⟨#[]⟩] 38)) w.heap.size #[.int .i64 0, .slice none 0 0, .int .u32 0, .int .i64 0, .string ⟨#[]⟩, .bool false, .string ⟨#[]⟩] 38) := at_new _ _ _
  have HK : Hid (Kept w (w.alloc (.cells #[.int .i64 0, .slice none 0 0, .int .u32 0, .int .i64 0, .string ⟨#[]⟩, .bool false, .string ⟨#[]⟩] 38))) := kept_alloc (kept_refl w) _
  have HY : Hid (∀ (u : World) (a0 a1 a2 a3 a4 a5 a6 : Value), Kept w u → Kept w (set7 u w.heap.size a0 a1 a2 a3 a4 a5 a6)) := fun u a0 a1 a2 a3 a4 a5 a6 h => kept_set7 h (Nat.le_refl _) _ _ _ _ _ _ _
  have HM : Hid (∀ w, _) := fun w => KeyMay_any x (by unfold maxLen; omega) w
  rw [hk] at HM
  clear hk hs
  have g1 : (d == -1) = false := by simp; omega
  have HCut := hid hcut
  have HX := hid hx
  have HD := hid hD
  have HT1 := hid hT1
  have HT2 := hid hT2
  clear hcut hx hD hT1 hT2
  go_enter Try.func43, Try.ntmps43
  go_wp2_with fail
  generalize w.alloc (.cells #[.int .i64 0, .slice none 0 0, .int .u32 0, .int .i64 0, .string ⟨#[]⟩, .bool false, .string ⟨#[]⟩] 38) = wa at *
  generalize w.heap.size = X at *
  refine (HD.out _ HK.out).mono ?_
  rintro e w1 ⟨rfl, hw⟩
  rw [hw]; clear hw w1
  go_wp2_with fail
  refine (HCut.out _ HK.out).mono ?_
  rintro e w1 ⟨rfl, hw⟩
  rw [hw]; clear hw w1
  have hx := HX.out _ HK.out
  obtain ⟨hx0, hx1, hx2⟩ := hx
  go_wp2_with fail
  refine (HM.out _).mono ?_
  rintro e w1 ⟨rfl, hw⟩
  rw [hw]; clear hw w1
  go_wp2_with fail
  refine (HT1.out _).mono ?_
  rintro e w1 ⟨rfl, hw⟩
  rw [hw]; clear hw w1
  go_wp2_with fail
  refine (HT2.out _).mono ?_
  rintro e w1 ⟨rfl, hw⟩
  rw [hw]; clear hw w1
  go_wp2_with fail
  refine (bad_any _ _).mono ?_
  rintro e w2 ⟨rfl, hk2⟩
  have HA2 := hid (at_kept HA.out hk2)
  have HK2 := hid (kept_trans HK.out hk2)
  clear hk2
  obtain ⟨c0, c1, c2, c3, c4, c5, c6, fr⟩ := at_cells7 HA2.out
  go_wp2_with fail
  refine bodyPost_ret (res2 rfl _ rfl rfl (at_set7 HA2.out _ _ _ _ _ _ _)) rfl ?_
  exact bad_end2 hc HA2.out HY.out HK2.out

set_option maxHeartbeats 1600000 in
theorem set_good (c : Cm) (A o n cap : Nat) (q : Bool) (x y z : ByteArray) (f t d : Int) (hd : d ≠ -1) (hd2 : ¬ 1024 < d) (hc : c = ⟨2, [x], f, t, q, mt⟩) (hs : x.size ≤ 4294967296) (hk : keyMay x = true) (w : World)
    (hT1 : ∀ w, Calls Try.prog 55 #[.string y] w fun e w' => e = .returned (.tuple #[.int .u32 f, .bool true]) ∧ w' = w)
    (hT2 : ∀ w, Calls Try.prog 56 #[.string z] w fun e w' => e = .returned (.tuple #[.int .i64 t, .bool true]) ∧ w' = w)
    (hx : ∀ w1, Kept w w1 → w1.cell? ⟨A, o, none⟩ = some (.string x) ∧ w1.cell? ⟨A, o + 1, none⟩ = some (.string y) ∧ w1.cell? ⟨A, o + 2, none⟩ = some (.string z))
    (hD : ∀ w1, Kept w w1 → Calls Try.prog 53 #[.slice (some ⟨A, o, none⟩) n cap] w1 fun e w' => e = .returned (.int .i64 d) ∧ w' = w1)
    (hcut : ∀ w1, Kept w w1 → Calls Try.prog 54 #[.slice (some ⟨A, o, none⟩) n cap, .int .i64 4] w1 fun e w' => e = .returned (.tuple #[.slice (some ⟨A, o, none⟩) 4 cap, .bool q]) ∧ w' = w1) :
    Calls Try.prog 43 #[.slice (some ⟨A, o, none⟩) n cap] w fun e w' => ∃ kv, e = .returned (.tuple #[.agg #[.int .i64 c.kind, kv, .int .u32 c.flags, .int .i64 c.exp, .string ⟨#[]⟩, .bool c.quiet, .string c.reply], .int .i64 d]) ∧ Keys w' kv c.keys ∧ Kept w w' := by
  have hz := zero26
  have HA : Hid (At (w.alloc (.cells #[.int .i64 0, .slice none 0 0, .int .u32 0, .int .i64 0, .string ⟨#[]⟩, .bool false, .string ⟨#[]⟩] 38)) w.heap.size #[.int .i64 0, .slice none 0 0, .int .u32 0, .int .i64 0, .string ⟨#[]⟩, .bool false, .string ⟨#[]⟩] 38) := at_new _ _ _
  have HK : Hid (Kept w (w.alloc (.cells #[.int .i64 0, .slice none 0 0, .int .u32 0, .int .i64 0, .string ⟨#[]⟩, .bool false, .string ⟨#[]⟩] 38))) := kept_alloc (kept_refl w) _
  have HY : Hid (∀ (u : World) (a0 a1 a2 a3 a4 a5 a6 : Value), Kept w u → Kept w (set7 u w.heap.size a0 a1 a2 a3 a4 a5 a6)) := fun u a0 a1 a2 a3 a4 a5 a6 h => kept_set7 h (Nat.le_refl _) _ _ _ _ _ _ _
  have HM : Hid (∀ w, _) := fun w => KeyMay_any x (by unfold maxLen; omega) w
  rw [hk] at HM
  have HO : Hid (∀ w, _) := fun w => oneKey_any x (by omega) w
  clear hk hs
  have g1 : (d == -1) = false := by simp; omega
  clear hd
  have HCut := hid hcut
  have HX := hid hx
  have HD := hid hD
  have HT1 := hid hT1
  have HT2 := hid hT2
  clear hcut hx hD hT1 hT2
  go_enter Try.func43, Try.ntmps43
  go_wp2_with fail
  generalize w.alloc (.cells #[.int .i64 0, .slice none 0 0, .int .u32 0, .int .i64 0, .string ⟨#[]⟩, .bool false, .string ⟨#[]⟩] 38) = wa at *
  generalize w.heap.size = X at *
  refine (HD.out _ HK.out).mono ?_
  rintro e w1 ⟨rfl, hw⟩
  rw [hw]; clear hw w1
  go_wp2_with fail
  refine (HCut.out _ HK.out).mono ?_
  rintro e w1 ⟨rfl, hw⟩
  rw [hw]; clear hw w1
  have hx := HX.out _ HK.out
  obtain ⟨hx0, hx1, hx2⟩ := hx
  go_wp2_with fail
  refine (HM.out _).mono ?_
  rintro e w1 ⟨rfl, hw⟩
  rw [hw]; clear hw w1
  go_wp2_with fail
  refine (HT1.out _).mono ?_
  rintro e w1 ⟨rfl, hw⟩
  rw [hw]; clear hw w1
  go_wp2_with fail
  refine (HT2.out _).mono ?_
  rintro e w1 ⟨rfl, hw⟩
  rw [hw]; clear hw w1
  go_wp2_with fail
  have hx := 0
  refine (HO.out _).mono ?_
  rintro e w2 ⟨B, rfl, hB, hks, hk2⟩
  have HA2 := hid (at_kept HA.out hk2)
  have HK2 := hid (kept_trans HK.out hk2)
  have HB : Hid (B ≠ X) := by have := at_lt HA.out; show B ≠ X; omega
  have HKS := hid hks
  clear hk2 hB hks hx
  obtain ⟨c0, c1, c2, c3, c4, c5, c6, fr⟩ := at_cells7 HA2.out
  go_wp2_with fail
  refine bodyPost_ret (res2 rfl _ rfl rfl (at_set7 HA2.out _ _ _ _ _ _ _)) rfl ?_
  subst hc
  exact ⟨_, rfl, keys_set7 HKS.out (fun A' n' cap' h => by cases h; exact HB.out) _ _ _ _ _ _ _, HY.out _ _ _ _ _ _ _ _ HK2.out⟩
theorem dataBehind_any (L : List ByteArray) (A o cap : Nat) (hS : Short L) (w : World) (hl : Lay w A o L) :
    Calls Try.prog 53 #[.slice (some ⟨A, o, none⟩) L.length cap] w fun e w' => e = .returned (.int .i64 (dat L)) ∧ w' = w := by
  unfold dat
  by_cases h : L.length = 4 ∨ L.length = 5
  · rw [if_pos h]
    have := data_at A o L.length cap h (at' L 3) (by have := short_at hS 3; omega) w (lay_at hl 3 (by omega))
    exact this
  · rw [if_neg h]
    exact data_other A o L.length cap (by omega) (by omega) w
theorem setC_own (L : List ByteArray) (h : (decide (L.length = 4) || quietW L 4) = true) (hk : keyMay (at' L 0) = true) : setC L = (match amt (at' L 1), tim (at' L 2) with
     | some f, some t => if dat L = -1 then bad rFmt else if 1024 < dat L then bad rBig else ⟨2, [at' L 0], f, t, quietW L 4, mt⟩
     | _, _ => bad rFmt) := by
  unfold setC
  rw [h, hk]
  rfl
theorem set_any (L : List ByteArray) (A o cap : Nat) (hcap : L.length ≤ cap) (hS : Short L) (w : World) (hl : Lay w A o L) :
    Calls Try.prog 43 #[.slice (some ⟨A, o, none⟩) L.length cap] w fun e w' => ∃ kv, e = .returned (.tuple #[.agg #[.int .i64 (setC L).kind, kv, .int .u32 (setC L).flags, .int .i64 (setC L).exp, .string ⟨#[]⟩, .bool (setC L).quiet, .string (setC L).reply], .int .i64 (dat L)]) ∧ Keys w' kv (setC L).keys ∧ Kept w w' := by
  have hcut : ∀ w1, Kept w w1 → Calls Try.prog 54 #[.slice (some ⟨A, o, none⟩) L.length cap, .int .i64 4] w1 fun e w' => e = .returned (.tuple #[.slice (some ⟨A, o, none⟩) (ownN L 4) cap, .bool (quietW L 4)]) ∧ w' = w1 := fun w1 hk =>
    cut_any L A o cap 4 (by omega) hcap w1 (lay_kept hl hk)
  have hD : ∀ w1, Kept w w1 → Calls Try.prog 53 #[.slice (some ⟨A, o, none⟩) L.length cap] w1 fun e w' => e = .returned (.int .i64 (dat L)) ∧ w' = w1 := fun w1 hk =>
    dataBehind_any L A o cap hS w1 (lay_kept hl hk)
  by_cases h1 : ownN L 4 = 4
  · have hlen := own_le L 4 h1
    have hx : ∀ w1, Kept w w1 → w1.cell? ⟨A, o, none⟩ = some (.string (at' L 0)) := fun w1 hk => lay_at (lay_kept hl hk) 0 (by omega)
    have hx2 : ∀ w1, Kept w w1 → w1.cell? ⟨A, o, none⟩ = some (.string (at' L 0)) ∧ w1.cell? ⟨A, o + 1, none⟩ = some (.string (at' L 1)) ∧ w1.cell? ⟨A, o + 2, none⟩ = some (.string (at' L 2)) := fun w1 hk => ⟨hx w1 hk, lay_at (lay_kept hl hk) 1 (by omega), lay_at (lay_kept hl hk) 2 (by omega)⟩
    have h2 := (own_len L 4).1 h1
    have hT1 := amount_any (at' L 1) (by have := short_at hS 1; omega)
    have hT2 := time_any (at' L 2) (by have := short_at hS 2; omega)
    rw [h1] at hcut
    cases hk : keyMay (at' L 0) with
    | false => exact set_key _ (by unfold setC; rw [h2, hk]; rfl) A o _ cap _ _ _ (short_at hS 0) hk w hx hD hcut
    | true =>
      have hE := setC_own L h2 hk
      cases ha : amt (at' L 1) with
      | none =>
        rw [ha] at hE hT1
        exact set_p1 _ hE A o _ cap _ _ _ _ _ _ _ _ (short_at hS 0) hk w hT1 hT2 hx2 hD hcut
      | some f =>
        rw [ha] at hE hT1
        cases ht : tim (at' L 2) with
        | none =>
          rw [ht] at hE hT2
          exact set_p2 _ hE A o _ cap _ _ _ _ _ _ _ (short_at hS 0) hk w hT1 hT2 hx2 hD hcut
        | some t =>
          rw [ht] at hE hT2
          simp only at hE
          by_cases hd : dat L = -1
          · rw [if_pos hd] at hE
            rw [hd] at hD ⊢
            exact set_p3 _ hE A o _ cap _ _ _ _ _ _ (short_at hS 0) hk w hT1 hT2 hx2 hD hcut
          · rw [if_neg hd] at hE
            by_cases hb : 1024 < dat L
            · rw [if_pos hb] at hE
              exact set_big _ hE A o _ cap _ _ _ _ _ _ _ hb (short_at hS 0) hk w hT1 hT2 hx2 hD hcut
            · rw [if_neg hb] at hE
              exact set_good _ A o _ cap _ _ _ _ _ _ _ hd hb hE (short_at hS 0) hk w hT1 hT2 hx2 hD hcut
  · refine set_bad _ ?_ A o _ cap _ _ _ h1 w hD hcut
    unfold setC
    rw [if_neg]
    rw [Bool.and_eq_true]
    exact fun h => h1 ((own_len L 4).2 h.1)
end Go.Proofs.Ytjlojkcdglocbaa
