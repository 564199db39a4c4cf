/- The contract of the program's touch: it answers what the plain function does, of any row of words. Each word has at most 2^32 bytes. It turns nothing that was there. -/
import Derived.Test.YtjlojkcdglocbaaSmall
namespace Go.Proofs.Ytjlojkcdglocbaa
open Go.ChangeShapes Go.WideShapes Go.ChangeAt Go.RowKit
set_option linter.unusedVariables false
set_option linter.unusedSimpArgs false

set_option maxHeartbeats 1600000 in
theorem touch_bad (c : Cm) (hc : c = bad rFmt) (A o n cap k : Nat) (q : Bool) (hk : k ≠ 2) (w : World)
    (hcut : ∀ w1, Kept w w1 → Calls Try.prog 54 #[.slice (some ⟨A, o, none⟩) n cap, .int .i64 2] w1 fun e w' => e = .returned (.tuple #[.slice (some ⟨A, o, none⟩) k cap, .bool q]) ∧ w' = w1) :
    Calls Try.prog 45 #[.slice (some ⟨A, o, none⟩) n cap] w fun e w' => ∃ kv, e = .returned (.agg #[.int .i64 c.kind, kv, .int .u32 c.flags, .int .i64 c.exp, .string ⟨#[]⟩, .bool c.quiet, .string c.reply]) ∧ Keys w' kv c.keys ∧ Kept w w' := by
  have hz := zero26
  have HA : Hid (At (w.alloc (.cells #[.int .i64 0, .slice none 0 0, .int .u32 0, .int .i64 0, .string ⟨#[]⟩, .bool false, .string ⟨#[]⟩] 38)) w.heap.size #[.int .i64 0, .slice none 0 0, .int .u32 0, .int .i64 0, .string ⟨#[]⟩, .bool false, .string ⟨#[]⟩] 38) := at_new _ _ _
  have HK : Hid (Kept w (w.alloc (.cells #[.int .i64 0, .slice none 0 0, .int .u32 0, .int .i64 0, .string ⟨#[]⟩, .bool false, .string ⟨#[]⟩] 38))) := kept_alloc (kept_refl w) _
  have HY : Hid (∀ (u : World) (a0 a1 a2 a3 a4 a5 a6 : Value), Kept w u → Kept w (set7 u w.heap.size a0 a1 a2 a3 a4 a5 a6)) := fun u a0 a1 a2 a3 a4 a5 a6 h => kept_set7 h (Nat.le_refl _) _ _ _ _ _ _ _
  have h1 : ((k : Int) != 2) = true := by simp; omega
  clear hk
  have HCut := hid hcut
  clear hcut
  go_enter Try.func45, Try.ntmps45
  go_wp2_with fail
  generalize w.alloc (.cells #[.int .i64 0, .slice none 0 0, .int .u32 0, .int .i64 0, .string ⟨#[]⟩, .bool false, .string ⟨#[]⟩] 38) = wa at *
  generalize w.heap.size = X at *
  refine (HCut.out _ HK.out).mono ?_
  rintro e w1 ⟨rfl, hw⟩
  rw [hw]; clear hw w1
  go_wp2_with fail
  refine (bad_any _ _).mono ?_
  rintro e w2 ⟨rfl, hk2⟩
  have HA2 := hid (at_kept HA.out hk2)
  have HK2 := hid (kept_trans HK.out hk2)
  clear hk2
  obtain ⟨c0, c1, c2, c3, c4, c5, c6, fr⟩ := at_cells7 HA2.out
  go_wp2_with fail
  refine bodyPost_ret (res1 rfl _ rfl (at_set7 HA2.out _ _ _ _ _ _ _)) rfl ?_
  exact bad_end hc HA2.out HY.out HK2.out
set_option maxHeartbeats 1600000 in
theorem touch_key (c : Cm) (hc : c = bad rFmt) (A o n cap : Nat) (q : Bool) (x : ByteArray) (hs : x.size ≤ 4294967296) (hk : keyMay x = false) (w : World) (hx : ∀ w1, Kept w w1 → w1.cell? ⟨A, o, none⟩ = some (.string x))
    (hcut : ∀ w1, Kept w w1 → Calls Try.prog 54 #[.slice (some ⟨A, o, none⟩) n cap, .int .i64 2] w1 fun e w' => e = .returned (.tuple #[.slice (some ⟨A, o, none⟩) 2 cap, .bool q]) ∧ w' = w1) :
    Calls Try.prog 45 #[.slice (some ⟨A, o, none⟩) n cap] w fun e w' => ∃ kv, e = .returned (.agg #[.int .i64 c.kind, kv, .int .u32 c.flags, .int .i64 c.exp, .string ⟨#[]⟩, .bool c.quiet, .string c.reply]) ∧ Keys w' kv c.keys ∧ Kept w w' := by
  have hz := zero26
  have HA : Hid (At (w.alloc (.cells #[.int .i64 0, .slice none 0 0, .int .u32 0, .int .i64 0, .string ⟨#[]⟩, .bool false, .string ⟨#[]⟩] 38)) w.heap.size #[.int .i64 0, .slice none 0 0, .int .u32 0, .int .i64 0, .string ⟨#[]⟩, .bool false, .string ⟨#[]⟩] 38) := at_new _ _ _
  have HK : Hid (Kept w (w.alloc (.cells #[.int .i64 0, .slice none 0 0, .int .u32 0, .int .i64 0, .string ⟨#[]⟩, .bool false, .string ⟨#[]⟩] 38))) := kept_alloc (kept_refl w) _
  have HY : Hid (∀ (u : World) (a0 a1 a2 a3 a4 a5 a6 : Value), Kept w u → Kept w (set7 u w.heap.size a0 a1 a2 a3 a4 a5 a6)) := fun u a0 a1 a2 a3 a4 a5 a6 h => kept_set7 h (Nat.le_refl _) _ _ _ _ _ _ _
  have HM : Hid (∀ w, _) := fun w => KeyMay_any x (by unfold maxLen; omega) w
  rw [hk] at HM
  clear hk hs
  have HCut := hid hcut
  have HX := hid hx
  clear hcut hx
  go_enter Try.func45, Try.ntmps45
  go_wp2_with fail
  generalize w.alloc (.cells #[.int .i64 0, .slice none 0 0, .int .u32 0, .int .i64 0, .string ⟨#[]⟩, .bool false, .string ⟨#[]⟩] 38) = wa at *
  generalize w.heap.size = X at *
  refine (HCut.out _ HK.out).mono ?_
  rintro e w1 ⟨rfl, hw⟩
  rw [hw]; clear hw w1
  have hx := HX.out _ HK.out
  go_wp2_with fail
  refine (HM.out _).mono ?_
  rintro e w1 ⟨rfl, hw⟩
  rw [hw]; clear hw w1
  go_wp2_with fail
  refine (bad_any _ _).mono ?_
  rintro e w2 ⟨rfl, hk2⟩
  have HA2 := hid (at_kept HA.out hk2)
  have HK2 := hid (kept_trans HK.out hk2)
  clear hk2
  obtain ⟨c0, c1, c2, c3, c4, c5, c6, fr⟩ := at_cells7 HA2.out
  go_wp2_with fail
  refine bodyPost_ret (res1 rfl _ rfl (at_set7 HA2.out _ _ _ _ _ _ _)) rfl ?_
  exact bad_end hc HA2.out HY.out HK2.out
set_option maxHeartbeats 1600000 in
theorem touch_time (c : Cm) (hc : c = bad rFmt) (A o n cap : Nat) (q : Bool) (x y : ByteArray) (hs : x.size ≤ 4294967296) (hy : y.size ≤ 4294967296) (hk : keyMay x = true) (ht : tim y = none) (w : World) (hx : ∀ w1, Kept w w1 → w1.cell? ⟨A, o, none⟩ = some (.string x) ∧ w1.cell? ⟨A, o + 1, none⟩ = some (.string y))
    (hcut : ∀ w1, Kept w w1 → Calls Try.prog 54 #[.slice (some ⟨A, o, none⟩) n cap, .int .i64 2] w1 fun e w' => e = .returned (.tuple #[.slice (some ⟨A, o, none⟩) 2 cap, .bool q]) ∧ w' = w1) :
    Calls Try.prog 45 #[.slice (some ⟨A, o, none⟩) n cap] w fun e w' => ∃ kv, e = .returned (.agg #[.int .i64 c.kind, kv, .int .u32 c.flags, .int .i64 c.exp, .string ⟨#[]⟩, .bool c.quiet, .string c.reply]) ∧ Keys w' kv c.keys ∧ Kept w w' := by
  have hz := zero26
  have HA : Hid (At (w.alloc (.cells #[.int .i64 0, .slice none 0 0, .int .u32 0, .int .i64 0, .string ⟨#[]⟩, .bool false, .string ⟨#[]⟩] 38)) w.heap.size #[.int .i64 0, .slice none 0 0, .int .u32 0, .int .i64 0, .string ⟨#[]⟩, .bool false, .string ⟨#[]⟩] 38) := at_new _ _ _
  have HK : Hid (Kept w (w.alloc (.cells #[.int .i64 0, .slice none 0 0, .int .u32 0, .int .i64 0, .string ⟨#[]⟩, .bool false, .string ⟨#[]⟩] 38))) := kept_alloc (kept_refl w) _
  have HY : Hid (∀ (u : World) (a0 a1 a2 a3 a4 a5 a6 : Value), Kept w u → Kept w (set7 u w.heap.size a0 a1 a2 a3 a4 a5 a6)) := fun u a0 a1 a2 a3 a4 a5 a6 h => kept_set7 h (Nat.le_refl _) _ _ _ _ _ _ _
  have HM : Hid (∀ w, _) := fun w => KeyMay_any x (by unfold maxLen; omega) w
  rw [hk] at HM
  have HT : Hid (∀ w, Calls Try.prog 56 #[.string y] w fun e w' => e = .returned (.tuple #[.int .i64 0, .bool false]) ∧ w' = w) := fun w => by
    have := time_any y (by omega) w
    rw [ht] at this
    exact this
  clear hk hs hy ht
  have HCut := hid hcut
  have HX := hid hx
  clear hcut hx
  go_enter Try.func45, Try.ntmps45
  go_wp2_with fail
  generalize w.alloc (.cells #[.int .i64 0, .slice none 0 0, .int .u32 0, .int .i64 0, .string ⟨#[]⟩, .bool false, .string ⟨#[]⟩] 38) = wa at *
  generalize w.heap.size = X at *
  refine (HCut.out _ HK.out).mono ?_
  rintro e w1 ⟨rfl, hw⟩
  rw [hw]; clear hw w1
  have hx := HX.out _ HK.out
  obtain ⟨hx0, hx1⟩ := hx
  go_wp2_with fail
  refine (HM.out _).mono ?_
  rintro e w1 ⟨rfl, hw⟩
  rw [hw]; clear hw w1
  go_wp2_with fail
  refine (HT.out _).mono ?_
  rintro e w1 ⟨rfl, hw⟩
  rw [hw]; clear hw w1
  go_wp2_with fail
  refine (bad_any _ _).mono ?_
  rintro e w2 ⟨rfl, hk2⟩
  have HA2 := hid (at_kept HA.out hk2)
  have HK2 := hid (kept_trans HK.out hk2)
  clear hk2
  obtain ⟨c0, c1, c2, c3, c4, c5, c6, fr⟩ := at_cells7 HA2.out
  go_wp2_with fail
  refine bodyPost_ret (res1 rfl _ rfl (at_set7 HA2.out _ _ _ _ _ _ _)) rfl ?_
  exact bad_end hc HA2.out HY.out HK2.out
set_option maxHeartbeats 1600000 in
theorem touch_good (c : Cm) (A o n cap : Nat) (q : Bool) (x y : ByteArray) (t : Int) (hc : c = ⟨4, [x], 0, t, q, mt⟩) (hs : x.size ≤ 4294967296) (hy : y.size ≤ 4294967296) (hk : keyMay x = true) (ht : tim y = some t) (w : World) (hx : ∀ w1, Kept w w1 → w1.cell? ⟨A, o, none⟩ = some (.string x) ∧ w1.cell? ⟨A, o + 1, none⟩ = some (.string y))
    (hcut : ∀ w1, Kept w w1 → Calls Try.prog 54 #[.slice (some ⟨A, o, none⟩) n cap, .int .i64 2] w1 fun e w' => e = .returned (.tuple #[.slice (some ⟨A, o, none⟩) 2 cap, .bool q]) ∧ w' = w1) :
    Calls Try.prog 45 #[.slice (some ⟨A, o, none⟩) n cap] w fun e w' => ∃ kv, e = .returned (.agg #[.int .i64 c.kind, kv, .int .u32 c.flags, .int .i64 c.exp, .string ⟨#[]⟩, .bool c.quiet, .string c.reply]) ∧ Keys w' kv c.keys ∧ Kept w w' := by
  have hz := zero26
  have HA : Hid (At (w.alloc (.cells #[.int .i64 0, .slice none 0 0, .int .u32 0, .int .i64 0, .string ⟨#[]⟩, .bool false, .string ⟨#[]⟩] 38)) w.heap.size #[.int .i64 0, .slice none 0 0, .int .u32 0, .int .i64 0, .string ⟨#[]⟩, .bool false, .string ⟨#[]⟩] 38) := at_new _ _ _
  have HK : Hid (Kept w (w.alloc (.cells #[.int .i64 0, .slice none 0 0, .int .u32 0, .int .i64 0, .string ⟨#[]⟩, .bool false, .string ⟨#[]⟩] 38))) := kept_alloc (kept_refl w) _
  have HY : Hid (∀ (u : World) (a0 a1 a2 a3 a4 a5 a6 : Value), Kept w u → Kept w (set7 u w.heap.size a0 a1 a2 a3 a4 a5 a6)) := fun u a0 a1 a2 a3 a4 a5 a6 h => kept_set7 h (Nat.le_refl _) _ _ _ _ _ _ _
  have HM : Hid (∀ w, _) := fun w => KeyMay_any x (by unfold maxLen; omega) w
  rw [hk] at HM
  have HT : Hid (∀ w, Calls Try.prog 56 #[.string y] w fun e w' => e = .returned (.tuple #[.int .i64 t, .bool true]) ∧ w' = w) := fun w => by
    have := time_any y (by omega) w
    rw [ht] at this
    exact this
  have HO : Hid (∀ w, _) := fun w => oneKey_any x (by omega) w
  clear hk hs hy ht
  have HCut := hid hcut
  have HX := hid hx
  clear hcut hx
  go_enter Try.func45, Try.ntmps45
  go_wp2_with fail
  generalize w.alloc (.cells #[.int .i64 0, .slice none 0 0, .int .u32 0, .int .i64 0, .string ⟨#[]⟩, .bool false, .string ⟨#[]⟩] 38) = wa at *
  generalize w.heap.size = X at *
  refine (HCut.out _ HK.out).mono ?_
  rintro e w1 ⟨rfl, hw⟩
  rw [hw]; clear hw w1
  have hx := HX.out _ HK.out
  obtain ⟨hx0, hx1⟩ := hx
  go_wp2_with fail
  refine (HM.out _).mono ?_
  rintro e w1 ⟨rfl, hw⟩
  rw [hw]; clear hw w1
  go_wp2_with fail
  refine (HT.out _).mono ?_
  rintro e w1 ⟨rfl, hw⟩
  rw [hw]; clear hw w1
  go_wp2_with fail
  have hx := 0
  refine (HO.out _).mono ?_
  rintro e w2 ⟨B, rfl, hB, hks, hk2⟩
  have HA2 := hid (at_kept HA.out hk2)
  have HK2 := hid (kept_trans HK.out hk2)
  have HB : Hid (B ≠ X) := by have := at_lt HA.out; show B ≠ X; omega
  have HKS := hid hks
  clear hk2 hB hks hx
  obtain ⟨c0, c1, c2, c3, c4, c5, c6, fr⟩ := at_cells7 HA2.out
  go_wp2_with fail
  refine bodyPost_ret (res1 rfl _ rfl (at_set7 HA2.out _ _ _ _ _ _ _)) rfl ?_
  subst hc
  exact ⟨_, rfl, keys_set7 HKS.out (fun A' n' cap' h => by cases h; exact HB.out) _ _ _ _ _ _ _, HY.out _ _ _ _ _ _ _ _ HK2.out⟩
theorem touch_any (L : List ByteArray) (A o cap : Nat) (hcap : L.length ≤ cap) (hS : Short L) (w : World) (hl : Lay w A o L) :
    Calls Try.prog 45 #[.slice (some ⟨A, o, none⟩) L.length cap] w fun e w' => ∃ kv, e = .returned (.agg #[.int .i64 (touC L).kind, kv, .int .u32 (touC L).flags, .int .i64 (touC L).exp, .string ⟨#[]⟩, .bool (touC L).quiet, .string (touC L).reply]) ∧ Keys w' kv (touC L).keys ∧ Kept w w' := by
  have hcut : ∀ w1, Kept w w1 → Calls Try.prog 54 #[.slice (some ⟨A, o, none⟩) L.length cap, .int .i64 2] w1 fun e w' => e = .returned (.tuple #[.slice (some ⟨A, o, none⟩) (ownN L 2) cap, .bool (quietW L 2)]) ∧ w' = w1 := fun w1 hk =>
    cut_any L A o cap 2 (by omega) hcap w1 (lay_kept hl hk)
  by_cases h1 : ownN L 2 = 2
  · have hlen := own_le L 2 h1
    have hx : ∀ w1, Kept w w1 → w1.cell? ⟨A, o, none⟩ = some (.string (at' L 0)) := fun w1 hk => lay_at (lay_kept hl hk) 0 (by omega)
    have hx2 : ∀ w1, Kept w w1 → w1.cell? ⟨A, o, none⟩ = some (.string (at' L 0)) ∧ w1.cell? ⟨A, o + 1, none⟩ = some (.string (at' L 1)) := fun w1 hk => ⟨hx w1 hk, lay_at (lay_kept hl hk) 1 (by omega)⟩
    have h2 := (own_len L 2).1 h1
    rw [h1] at hcut
    cases hk : keyMay (at' L 0) with
    | true =>
      cases ht : tim (at' L 1) with
      | none => exact touch_time _ (by unfold touC; rw [h2, hk, ht]; rfl) A o _ cap _ _ _ (short_at hS 0) (short_at hS 1) hk ht w hx2 hcut
      | some t => exact touch_good _ A o _ cap _ _ _ t (by unfold touC; rw [h2, hk, ht]; rfl) (short_at hS 0) (short_at hS 1) hk ht w hx2 hcut
    | false => exact touch_key _ (by unfold touC; rw [h2, hk]; rfl) A o _ cap _ _ (short_at hS 0) hk w hx hcut
  · refine touch_bad _ ?_ A o _ cap _ _ h1 w hcut
    unfold touC
    rw [if_neg]
    rw [Bool.and_eq_true]
    exact fun h => h1 ((own_len L 2).2 h.1)
end Go.Proofs.Ytjlojkcdglocbaa
