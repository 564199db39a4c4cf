/- The contracts of the program's remove and touch: each answers what the plain function does, of any row of words. Each word has at most 2^32 bytes. They turn nothing that was there. -/
import Derived.Test.YtjlojkcdglocbaaBox
namespace Go.Proofs.Ytjlojkcdglocbaa
open Go.ChangeShapes Go.WideShapes Go.ChangeAt Go.RowKit
set_option linter.unusedVariables false
set_option linter.unusedSimpArgs false

/- What cutQuiet answers of a row of words. -/
def ownN (L : List ByteArray) (m : Nat) : Nat := if quietW L m then m else L.length
theorem cut_any (L : List ByteArray) (A o cap m : Nat) (hm : m ≤ 4) (hcap : L.length ≤ cap) (w : World) (hl : Lay w A o L) :
    Calls Try.prog 54 #[.slice (some ⟨A, o, none⟩) L.length cap, .int .i64 (m : Int)] w fun e w' => e = .returned (.tuple #[.slice (some ⟨A, o, none⟩) (ownN L m) cap, .bool (quietW L m)]) ∧ w' = w := by
  by_cases h : L.length = m + 1
  · have h1 := cut_at A o cap m hm (by omega) (at' L m) w (lay_at hl m (by omega))
    unfold ownN quietW
    rw [h, show decide (m + 1 = m + 1) = true from decide_eq_true rfl, Bool.true_and]
    refine h1.mono ?_
    rintro e w' ⟨rfl, rfl⟩
    by_cases hx : at' L m = wNo <;> simp [hx]
  · have h1 := cut_other A o L.length cap m h hm w
    unfold ownN quietW
    rw [show decide (L.length = m + 1) = false from decide_eq_false h, Bool.false_and]
    exact h1
theorem own_len (L : List ByteArray) (m : Nat) : (ownN L m = m) ↔ (decide (L.length = m) || quietW L m) = true := by
  unfold ownN
  cases h : quietW L m <;> simp
theorem own_le (L : List ByteArray) (m : Nat) (h : ownN L m = m) : m ≤ L.length := by
  unfold ownN at h
  split at h
  · rename_i hq
    unfold quietW at hq
    simp at hq
    omega
  · omega
theorem bad_end {w w2 : World} {X : Nat} {r : ByteArray} {c : Cm} (hc : c = bad r) (HA : At w2 X #[.int .i64 0, .slice none 0 0, .int .u32 0, .int .i64 0, .string ⟨#[]⟩, .bool false, .string ⟨#[]⟩] 38) (HY : ∀ (u : World) (a0 a1 a2 a3 a4 a5 a6 : Value), Kept w u → Kept w (set7 u X a0 a1 a2 a3 a4 a5 a6)) (hk : Kept w w2) :
    ∃ kv, Ending.returned (.agg #[.int .i64 8, .slice none 0 0, .int .u32 0, .int .i64 0, .string ⟨#[]⟩, .bool false, .string r]) = .returned (.agg #[.int .i64 c.kind, kv, .int .u32 c.flags, .int .i64 c.exp, .string ⟨#[]⟩, .bool c.quiet, .string c.reply]) ∧ Keys (set7 w2 X (.int .i64 8) (.slice none 0 0) (.int .u32 0) (.int .i64 0) (.string ⟨#[]⟩) (.bool false) (.string r)) kv c.keys ∧ Kept w (set7 w2 X (.int .i64 8) (.slice none 0 0) (.int .u32 0) (.int .i64 0) (.string ⟨#[]⟩) (.bool false) (.string r)) := by
  subst hc
  exact ⟨.slice none 0 0, rfl, keys_nil _, HY _ _ _ _ _ _ _ _ hk⟩
set_option maxHeartbeats 1600000 in
theorem remove_bad (c : Cm) (hc : c = bad rFmt) (A o n cap k : Nat) (q : Bool) (hk : k ≠ 1) (w : World)
    (hcut : ∀ w1, Kept w w1 → Calls Try.prog 54 #[.slice (some ⟨A, o, none⟩) n cap, .int .i64 1] w1 fun e w' => e = .returned (.tuple #[.slice (some ⟨A, o, none⟩) k cap, .bool q]) ∧ w' = w1) :
    Calls Try.prog 44 #[.slice (some ⟨A, o, none⟩) n cap] w fun e w' => ∃ kv, e = .returned (.agg #[.int .i64 c.kind, kv, .int .u32 c.flags, .int .i64 c.exp, .string ⟨#[]⟩, .bool c.quiet, .string c.reply]) ∧ Keys w' kv c.keys ∧ Kept w w' := by
  have hz := zero26
  have HA : Hid (At (w.alloc (.cells #[.int .i64 0, .slice none 0 0, .int .u32 0, .int .i64 0, .string ⟨#[]⟩, .bool false, .string ⟨#[]⟩] 38)) w.heap.size #[.int .i64 0, .slice none 0 0, .int .u32 0, .int .i64 0, .string ⟨#[]⟩, .bool false, .string ⟨#[]⟩] 38) := at_new _ _ _
  have HK : Hid (Kept w (w.alloc (.cells #[.int .i64 0, .slice none 0 0, .int .u32 0, .int .i64 0, .string ⟨#[]⟩, .bool false, .string ⟨#[]⟩] 38))) := kept_alloc (kept_refl w) _
  have HY : Hid (∀ (u : World) (a0 a1 a2 a3 a4 a5 a6 : Value), Kept w u → Kept w (set7 u w.heap.size a0 a1 a2 a3 a4 a5 a6)) := fun u a0 a1 a2 a3 a4 a5 a6 h => kept_set7 h (Nat.le_refl _) _ _ _ _ _ _ _
  have h1 : ((k : Int) != 1) = true := by simp; omega
  clear hk
  have HCut := hid hcut
  clear hcut
  go_enter Try.func44, Try.ntmps44
  go_wp2_with fail
  generalize w.alloc (.cells #[.int .i64 0, .slice none 0 0, .int .u32 0, .int .i64 0, .string ⟨#[]⟩, .bool false, .string ⟨#[]⟩] 38) = wa at *
  generalize w.heap.size = X at *
  refine (HCut.out _ HK.out).mono ?_
  rintro e w1 ⟨rfl, hw⟩
  rw [hw]; clear hw w1
  go_wp2_with fail
  refine (bad_any _ _).mono ?_
  rintro e w2 ⟨rfl, hk2⟩
  have HA2 := hid (at_kept HA.out hk2)
  have HK2 := hid (kept_trans HK.out hk2)
  clear hk2
  obtain ⟨c0, c1, c2, c3, c4, c5, c6, fr⟩ := at_cells7 HA2.out
  go_wp2_with fail
  refine bodyPost_ret (res1 rfl _ rfl (at_set7 HA2.out _ _ _ _ _ _ _)) rfl ?_
  exact bad_end hc HA2.out HY.out HK2.out
set_option maxHeartbeats 1600000 in
theorem remove_key (c : Cm) (hc : c = bad rFmt) (A o n cap : Nat) (q : Bool) (x : ByteArray) (hs : x.size ≤ 4294967296) (hk : keyMay x = false) (w : World) (hx : ∀ w1, Kept w w1 → w1.cell? ⟨A, o, none⟩ = some (.string x))
    (hcut : ∀ w1, Kept w w1 → Calls Try.prog 54 #[.slice (some ⟨A, o, none⟩) n cap, .int .i64 1] w1 fun e w' => e = .returned (.tuple #[.slice (some ⟨A, o, none⟩) 1 cap, .bool q]) ∧ w' = w1) :
    Calls Try.prog 44 #[.slice (some ⟨A, o, none⟩) n cap] w fun e w' => ∃ kv, e = .returned (.agg #[.int .i64 c.kind, kv, .int .u32 c.flags, .int .i64 c.exp, .string ⟨#[]⟩, .bool c.quiet, .string c.reply]) ∧ Keys w' kv c.keys ∧ Kept w w' := by
  have hz := zero26
  have HA : Hid (At (w.alloc (.cells #[.int .i64 0, .slice none 0 0, .int .u32 0, .int .i64 0, .string ⟨#[]⟩, .bool false, .string ⟨#[]⟩] 38)) w.heap.size #[.int .i64 0, .slice none 0 0, .int .u32 0, .int .i64 0, .string ⟨#[]⟩, .bool false, .string ⟨#[]⟩] 38) := at_new _ _ _
  have HK : Hid (Kept w (w.alloc (.cells #[.int .i64 0, .slice none 0 0, .int .u32 0, .int .i64 0, .string ⟨#[]⟩, .bool false, .string ⟨#[]⟩] 38))) := kept_alloc (kept_refl w) _
  have HY : Hid (∀ (u : World) (a0 a1 a2 a3 a4 a5 a6 : Value), Kept w u → Kept w (set7 u w.heap.size a0 a1 a2 a3 a4 a5 a6)) := fun u a0 a1 a2 a3 a4 a5 a6 h => kept_set7 h (Nat.le_refl _) _ _ _ _ _ _ _
  have HM : Hid (∀ w, _) := fun w => KeyMay_any x (by unfold maxLen; omega) w
  rw [hk] at HM
  clear hk hs
  have HCut := hid hcut
  have HX := hid hx
  clear hcut hx
  go_enter Try.func44, Try.ntmps44
  go_wp2_with fail
  generalize w.alloc (.cells #[.int .i64 0, .slice none 0 0, .int .u32 0, .int .i64 0, .string ⟨#[]⟩, .bool false, .string ⟨#[]⟩] 38) = wa at *
  generalize w.heap.size = X at *
  refine (HCut.out _ HK.out).mono ?_
  rintro e w1 ⟨rfl, hw⟩
  rw [hw]; clear hw w1
  have hx := HX.out _ HK.out
  go_wp2_with fail
  refine (HM.out _).mono ?_
  rintro e w1 ⟨rfl, hw⟩
  rw [hw]; clear hw w1
  go_wp2_with fail
  refine (bad_any _ _).mono ?_
  rintro e w2 ⟨rfl, hk2⟩
  have HA2 := hid (at_kept HA.out hk2)
  have HK2 := hid (kept_trans HK.out hk2)
  clear hk2
  obtain ⟨c0, c1, c2, c3, c4, c5, c6, fr⟩ := at_cells7 HA2.out
  go_wp2_with fail
  refine bodyPost_ret (res1 rfl _ rfl (at_set7 HA2.out _ _ _ _ _ _ _)) rfl ?_
  exact bad_end hc HA2.out HY.out HK2.out
set_option maxHeartbeats 1600000 in
theorem remove_good (c : Cm) (A o n cap : Nat) (q : Bool) (x : ByteArray) (hc : c = ⟨3, [x], 0, 0, q, mt⟩) (hs : x.size ≤ 4294967296) (hk : keyMay x = true) (w : World) (hx : ∀ w1, Kept w w1 → w1.cell? ⟨A, o, none⟩ = some (.string x))
    (hcut : ∀ w1, Kept w w1 → Calls Try.prog 54 #[.slice (some ⟨A, o, none⟩) n cap, .int .i64 1] w1 fun e w' => e = .returned (.tuple #[.slice (some ⟨A, o, none⟩) 1 cap, .bool q]) ∧ w' = w1) :
    Calls Try.prog 44 #[.slice (some ⟨A, o, none⟩) n cap] w fun e w' => ∃ kv, e = .returned (.agg #[.int .i64 c.kind, kv, .int .u32 c.flags, .int .i64 c.exp, .string ⟨#[]⟩, .bool c.quiet, .string c.reply]) ∧ Keys w' kv c.keys ∧ Kept w w' := by
  have hz := zero26
  have HA : Hid (At (w.alloc (.cells #[.int .i64 0, .slice none 0 0, .int .u32 0, .int .i64 0, .string ⟨#[]⟩, .bool false, .string ⟨#[]⟩] 38)) w.heap.size #[.int .i64 0, .slice none 0 0, .int .u32 0, .int .i64 0, .string ⟨#[]⟩, .bool false, .string ⟨#[]⟩] 38) := at_new _ _ _
  have HK : Hid (Kept w (w.alloc (.cells #[.int .i64 0, .slice none 0 0, .int .u32 0, .int .i64 0, .string ⟨#[]⟩, .bool false, .string ⟨#[]⟩] 38))) := kept_alloc (kept_refl w) _
  have HY : Hid (∀ (u : World) (a0 a1 a2 a3 a4 a5 a6 : Value), Kept w u → Kept w (set7 u w.heap.size a0 a1 a2 a3 a4 a5 a6)) := fun u a0 a1 a2 a3 a4 a5 a6 h => kept_set7 h (Nat.le_refl _) _ _ _ _ _ _ _
  have HM : Hid (∀ w, _) := fun w => KeyMay_any x (by unfold maxLen; omega) w
  rw [hk] at HM
  have HO : Hid (∀ w, _) := fun w => oneKey_any x (by omega) w
  clear hk hs
  have HCut := hid hcut
  have HX := hid hx
  clear hcut hx
  go_enter Try.func44, Try.ntmps44
  go_wp2_with fail
  generalize w.alloc (.cells #[.int .i64 0, .slice none 0 0, .int .u32 0, .int .i64 0, .string ⟨#[]⟩, .bool false, .string ⟨#[]⟩] 38) = wa at *
  generalize w.heap.size = X at *
  refine (HCut.out _ HK.out).mono ?_
  rintro e w1 ⟨rfl, hw⟩
  rw [hw]; clear hw w1
  have hx := HX.out _ HK.out
  go_wp2_with fail
  refine (HM.out _).mono ?_
  rintro e w1 ⟨rfl, hw⟩
  rw [hw]; clear hw w1
  go_wp2_with fail
  refine (HO.out _).mono ?_
  rintro e w2 ⟨B, rfl, hB, hks, hk2⟩
  have HA2 := hid (at_kept HA.out hk2)
  have HK2 := hid (kept_trans HK.out hk2)
  have HB : Hid (B ≠ X) := by have := at_lt HA.out; show B ≠ X; omega
  have HKS := hid hks
  clear hk2 hB hks hx
  obtain ⟨c0, c1, c2, c3, c4, c5, c6, fr⟩ := at_cells7 HA2.out
  go_wp2_with fail
  refine bodyPost_ret (res1 rfl _ rfl (at_set7 HA2.out _ _ _ _ _ _ _)) rfl ?_
  subst hc
  exact ⟨_, rfl, keys_set7 HKS.out (fun A' n' cap' h => by cases h; exact HB.out) _ _ _ _ _ _ _, HY.out _ _ _ _ _ _ _ _ HK2.out⟩
theorem remove_any (L : List ByteArray) (A o cap : Nat) (hcap : L.length ≤ cap) (hS : Short L) (w : World) (hl : Lay w A o L) :
    Calls Try.prog 44 #[.slice (some ⟨A, o, none⟩) L.length cap] w fun e w' => ∃ kv, e = .returned (.agg #[.int .i64 (delC L).kind, kv, .int .u32 (delC L).flags, .int .i64 (delC L).exp, .string ⟨#[]⟩, .bool (delC L).quiet, .string (delC L).reply]) ∧ Keys w' kv (delC L).keys ∧ Kept w w' := by
  have hcut : ∀ w1, Kept w w1 → Calls Try.prog 54 #[.slice (some ⟨A, o, none⟩) L.length cap, .int .i64 1] w1 fun e w' => e = .returned (.tuple #[.slice (some ⟨A, o, none⟩) (ownN L 1) cap, .bool (quietW L 1)]) ∧ w' = w1 := fun w1 hk =>
    cut_any L A o cap 1 (by omega) hcap w1 (lay_kept hl hk)
  by_cases h1 : ownN L 1 = 1
  · have hx : ∀ w1, Kept w w1 → w1.cell? ⟨A, o, none⟩ = some (.string (at' L 0)) := fun w1 hk => lay_at (lay_kept hl hk) 0 (by have := own_le L 1 h1; omega)
    have h2 := (own_len L 1).1 h1
    rw [h1] at hcut
    cases hk : keyMay (at' L 0) with
    | true => exact remove_good _ A o _ cap _ _ (by unfold delC; rw [h2, hk]; rfl) (short_at hS 0) hk w hx hcut
    | false => exact remove_key _ (by unfold delC; rw [h2, hk]; rfl) A o _ cap _ _ (short_at hS 0) hk w hx hcut
  · refine remove_bad _ ?_ A o _ cap _ _ h1 w hcut
    unfold delC
    rw [if_neg]
    rw [Bool.and_eq_true]
    exact fun h => h1 ((own_len L 1).2 h.1)
end Go.Proofs.Ytjlojkcdglocbaa
