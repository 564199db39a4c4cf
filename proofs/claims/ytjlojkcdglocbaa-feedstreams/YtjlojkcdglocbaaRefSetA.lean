/- The contract of the reference's set, of any row of words. The words have at most 5000 bytes. It turns nothing that was there. -/
import Derived.Test.YtjlojkcdglocbaaRefSetG
namespace Go.Proofs.Ytjlojkcdglocbaa
open Go.ChangeShapes Go.WideShapes Go.ChangeAt Go.RowKit
set_option linter.unusedVariables false
set_option linter.unusedSimpArgs false

set_option maxHeartbeats 1600000 in
set_option maxRecDepth 100000 in
theorem rs_other (A n cap : Nat) (lt : Bool) (c : Cm) (hc : c = bad rFmt) (h5 : n ≠ 5) (h6 : n ≠ 6) (w : World) :
    Calls Try.prog 24 #[.slice (some ⟨A, 0, none⟩) n cap, .bool lt] w fun e w' => ∃ kv, e = .returned (.tuple #[.agg #[.int .i64 c.kind, kv, .int .u32 c.flags, .int .i64 c.exp, .string ⟨#[]⟩, .bool c.quiet, .string c.reply], .int .i64 (-1)]) ∧ Keys w' kv c.keys ∧ Kept w w' := by
  have hz := zero26
  have HA : Hid (At (w.alloc (.cells #[.int .i64 0, .slice none 0 0, .int .u32 0, .int .i64 0, .string ⟨#[]⟩, .bool false, .string ⟨#[]⟩] 38)) w.heap.size #[.int .i64 0, .slice none 0 0, .int .u32 0, .int .i64 0, .string ⟨#[]⟩, .bool false, .string ⟨#[]⟩] 38) := at_new _ _ _
  have HK : Hid (Kept w (w.alloc (.cells #[.int .i64 0, .slice none 0 0, .int .u32 0, .int .i64 0, .string ⟨#[]⟩, .bool false, .string ⟨#[]⟩] 38))) := kept_alloc (kept_refl w) _
  have HY : Hid (∀ (u : World) (a0 a1 a2 a3 a4 a5 a6 : Value), Kept w u → Kept w (set7 u w.heap.size a0 a1 a2 a3 a4 a5 a6)) := fun u a0 a1 a2 a3 a4 a5 a6 h => kept_set7 h (Nat.le_refl _) _ _ _ _ _ _ _
  have g5 : ((n : Int) == 5) = false := by simp; omega
  have g6 : ((n : Int) == 6) = false := by simp; omega
  clear h5 h6
  go_enter Try.func24, Try.ntmps24
  go_wp2_with fail
  generalize w.alloc (.cells #[.int .i64 0, .slice none 0 0, .int .u32 0, .int .i64 0, .string ⟨#[]⟩, .bool false, .string ⟨#[]⟩] 38) = wa at *
  generalize w.heap.size = X at *
  refine (Bad_fmt _).mono ?_
  rintro e w2 ⟨rfl, hk2⟩
  have AX := hid (at_alloc (at_kept HA.out hk2) (.cells #[.int .i64 8, .slice none 0 0, .int .u32 0, .int .i64 0, .string ⟨#[]⟩, .bool false, .string rFmt] 38))
  have AY := hid (at_new w2 #[.int .i64 8, .slice none 0 0, .int .u32 0, .int .i64 0, .string ⟨#[]⟩, .bool false, .string rFmt] 38)
  have KV := hid (kept_alloc (kept_trans HK.out hk2) (.cells #[.int .i64 8, .slice none 0 0, .int .u32 0, .int .i64 0, .string ⟨#[]⟩, .bool false, .string rFmt] 38))
  have HA2 := hid (at_kept HA.out hk2)
  have HK2 := hid (kept_trans HK.out hk2)
  clear hk2 HA HK
  obtain ⟨y0, y1, y2, y3, y4, y5, y6, -⟩ := at_cells7 AY.out
  obtain ⟨c0, c1, c2, c3, c4, c5, c6, fr⟩ := at_cells7 AX.out
  go_wp2_with fail
  refine bodyPost_ret (res2 rfl _ rfl rfl (at_set7 AX.out _ _ _ _ _ _ _)) rfl ?_
  exact bad_end2 hc AX.out HY.out KV.out
theorem dat_low (L : List ByteArray) : -1 ≤ dat L := by
  unfold dat
  split
  · split <;> omega
  · omega
theorem setC_d (L : List ByteArray) (h : dat L = -1) : setC L = bad rFmt := by
  unfold setC
  split
  · split
    · first | rfl | rw [if_pos h]
    · rfl
  · rfl
theorem setC_o (L : List ByteArray) (h : (decide (L.length = 4) || quietW L 4) = false) : setC L = bad rFmt := by
  unfold setC
  rw [h, Bool.false_and]
  rfl
theorem setC_k (L : List ByteArray) (h : keyMay (at' L 0) = false) : setC L = bad rFmt := by
  unfold setC
  rw [h, Bool.and_false]
  rfl
theorem dv_neg (o : Option Nat) : (dv o < 0 → o = none) ∧ (¬ dv o < 0 → ∃ n, o = some n ∧ dv o = n) := by
  cases o with
  | none => exact ⟨fun _ => rfl, fun h => absurd (by decide : dv none < 0) h⟩
  | some n => exact ⟨fun h => by unfold dv at h; simp only at h; omega, fun _ => ⟨n, rfl, rfl⟩⟩
theorem refset_any (x : ByteArray) (L : List ByteArray) (A cap : Nat) (lt : Bool) (hlt : L.length = 5 → lt = decide (at' L 4 = wNo)) (hS : Short L) (w : World) (hl : Lay w A 0 (x :: L)) :
    Calls Try.prog 24 #[.slice (some ⟨A, 0, none⟩) (L.length + 1) cap, .bool lt] w fun e w' => ∃ kv, e = .returned (.tuple #[.agg #[.int .i64 (setC L).kind, kv, .int .u32 (setC L).flags, .int .i64 (setC L).exp, .string ⟨#[]⟩, .bool (setC L).quiet, .string (setC L).reply], .int .i64 (dat L)]) ∧ Keys w' kv (setC L).keys ∧ Kept w w' := by
  by_cases h45 : L.length = 4 ∨ L.length = 5
  · have hl1 : Lay w A 1 L := lay_tail hl
    have hd : dat L = dv (amt (at' L 3)) := by unfold dat; rw [if_pos h45]; rfl
    have hx : ∀ u, Kept w u → u.cell? ⟨A, 1, none⟩ = some (.string (at' L 0)) ∧ u.cell? ⟨A, 2, none⟩ = some (.string (at' L 1)) ∧ u.cell? ⟨A, 3, none⟩ = some (.string (at' L 2)) ∧ u.cell? ⟨A, 4, none⟩ = some (.string (at' L 3)) := fun u hu =>
      ⟨lay_at (lay_kept hl1 hu) 0 (by omega), lay_at (lay_kept hl1 hu) 1 (by omega), lay_at (lay_kept hl1 hu) 2 (by omega), lay_at (lay_kept hl1 hu) 3 (by omega)⟩
    have s0 := short_at hS 0
    have s1 := short_at hS 1
    have s2 := short_at hS 2
    have s3 := short_at hS 3
    have hD := refAmount_any (at' L 3) (by omega)
    have hM := refKeyMay_any (at' L 0) (by unfold maxLen; omega)
    have hF := refAmount_any (at' L 1) (by omega)
    obtain ⟨tx, htx, hT0⟩ := refTime_any (at' L 2) (by omega)
    have ha := dv_neg (amt (at' L 1))
    have hb := dv_neg (amt (at' L 3))
    rw [← hd] at hD hb
    by_cases hneg : dat L < 0
    · have h1 : dat L = -1 := by have := dat_low L; omega
      have hc := setC_d L h1
      rcases h45 with h4 | h5
      · rw [h4]; exact rs5_d _ A cap _ _ _ _ _ hc lt hneg w hx hD
      · rw [h5]; exact rs6_d _ A cap _ _ _ _ _ hc lt hneg w hx hD
    · by_cases hown : (decide (L.length = 4) || quietW L 4) = true
      · have hq : L.length = 5 → lt = true := fun h5 => by
          rw [h5] at hown
          unfold quietW at hown
          rw [hlt h5]
          simpa [h5] using hown
        have hq4 : quietW L 4 = decide (L.length = 5) := by
          rcases h45 with h4 | h5
          · unfold quietW; rw [h4]; rfl
          · rw [h5]
            unfold quietW
            rw [h5, ← hlt h5, hq h5]; rfl
        cases hk : keyMay (at' L 0) with
        | false =>
          rw [hk] at hM
          have hc := setC_k L hk
          rcases h45 with h4 | h5
          · rw [h4]; exact rs5_k _ A cap _ _ _ _ _ hc lt hneg w hx hD hM
          · rw [h5, hq h5]; exact rs6_k _ A cap _ _ _ _ _ hc hneg w hx hD hM
        | true =>
          rw [hk] at hM
          have hE := setC_own L hown hk
          by_cases hf : dv (amt (at' L 1)) < 0
          · rw [ha.1 hf] at hE
            rcases h45 with h4 | h5
            · rw [h4]; exact rs5_f _ _ A cap _ _ _ _ _ hE lt hneg hf w hx hD hM hF
            · rw [h5, hq h5]; exact rs6_f _ _ A cap _ _ _ _ _ hE hneg hf w hx hD hM hF
          · obtain ⟨fn, hfs, hfd⟩ := ha.2 hf
            rw [hfs] at hE
            have hfl := amt_lt _ fn hfs
            cases ht : tim (at' L 2) with
            | none =>
              rw [ht] at hE
              rw [ht] at hT0
              rcases h45 with h4 | h5
              · rw [h4]; exact rs5_t _ _ _ A cap _ _ _ _ _ hE lt hneg hf w hx hD hM hF hT0
              · rw [h5, hq h5]; exact rs6_t _ _ _ A cap _ _ _ _ _ hE hneg hf w hx hD hM hF hT0
            | some t =>
              have hT : ∀ w, Calls Try.prog 23 #[.string (at' L 2)] w fun e w' => e = .returned (.tuple #[.int .i64 t, .bool true]) ∧ w' = w := fun w => by
                have := hT0 w
                rw [htx t ht, ht] at this
                exact this
              rw [ht] at hE
              simp only at hE
              rw [if_neg (by omega)] at hE
              by_cases hbig : 1024 < dat L
              · rw [if_pos hbig] at hE
                rcases h45 with h4 | h5
                · rw [h4]; exact rs5_b _ _ _ A cap _ _ _ _ _ hE lt hneg hf hbig w hx hD hM hF hT
                · rw [h5, hq h5]; exact rs6_b _ _ _ A cap _ _ _ _ _ hE hneg hf hbig w hx hD hM hF hT
              · rw [if_neg hbig, ← hfd, hq4] at hE
                rcases h45 with h4 | h5
                · rw [h4] at hE ⊢; exact rs5_g _ _ _ A cap _ _ _ _ _ hE lt hneg (by omega) hbig w hx hD hM hF hT
                · rw [h5] at hE; rw [h5, hq h5]; exact rs6_g _ _ _ A cap _ _ _ _ _ hE hneg (by omega) hbig w hx hD hM hF hT
      · have hown' : (decide (L.length = 4) || quietW L 4) = false := by simpa using hown
        have hc := setC_o L hown'
        rcases h45 with h4 | h5
        · rw [h4] at hown'; simp at hown'
        · have hltf : lt = false := by
            rw [hlt h5]
            unfold quietW at hown'
            rw [h5] at hown'
            simpa using hown'
          rw [h5, hltf]
          exact rs6_l _ A cap _ _ _ _ _ hc hneg w hx hD
  · have hd : dat L = -1 := by unfold dat; rw [if_neg h45]
    rw [hd]
    exact rs_other A _ cap lt _ (setC_d L hd) (by omega) (by omega) w
end Go.Proofs.Ytjlojkcdglocbaa
