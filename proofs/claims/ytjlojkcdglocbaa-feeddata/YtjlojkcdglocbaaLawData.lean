/- The statement FeedData's walk: true of any data and any text behind it; nothing is turned. -/
import Derived.Test.YtjlojkcdglocbaaDataMath
namespace Go.Proofs.Ytjlojkcdglocbaa
open Go.ChangeShapes Go.WideShapes Go.ChangeAt Go.RowKit
set_option linter.unusedVariables false
set_option linter.unusedSimpArgs false

theorem four_text {w : World} {n : Nat} (h : n ≤ 1024) : (convert 43 9 (.slice (some ⟨w.heap.size, 0, none⟩) 4 4)).run Try.prog (w.alloc (.cells #[.int .u8 (48 + (n : Int) / 1000), .int .u8 (48 + (n : Int) / 100 % 10), .int .u8 (48 + (n : Int) / 10 % 10), .int .u8 (48 + (n : Int) % 10)] 5)) = .ok (.string (ba (four n))) (w.alloc (.cells #[.int .u8 (48 + (n : Int) / 1000), .int .u8 (48 + (n : Int) / 100 % 10), .int .u8 (48 + (n : Int) / 10 % 10), .int .u8 (48 + (n : Int) % 10)] 5)) := by
  refine row_text (L := four n) (fun j hj => ?_) rfl 4
  rw [at_cell (at_new w _ 5) j]
  have hj : j < 4 := hj
  match j, hj with
  | 0, _ => show some _ = some _; rw [show (four n)[0].toNat = 48 + n / 1000 from dg_nat (by omega)]; simp
  | 1, _ => show some _ = some _; rw [show (four n)[1].toNat = 48 + n / 100 % 10 from dg_nat (by omega)]; simp
  | 2, _ => show some _ = some _; rw [show (four n)[2].toNat = 48 + n / 10 % 10 from dg_nat (by omega)]; simp
  | 3, _ => show some _ = some _; rw [show (four n)[3].toNat = 48 + n % 10 from dg_nat (by omega)]; simp
theorem data_big (s t : ByteArray) (w : World) (h : 1024 < s.size ∨ 3000 < t.size) : Calls Try.prog 7 #[.string s, .string t] w fun e w' => e = .returned (.bool true) ∧ Kept w w' := by
  by_cases h1 : 1024 < s.size
  · have hb : (1024 : Int) < (s.size : Int) := by omega
    clear h h1
    go_enter Try.func7, Try.ntmps7
    go_wp2_with fail
    refine (fixed_any _).mono ?_
    rintro e w5 ⟨rfl, hk5⟩
    have HK5 := hid hk5
    clear hk5
    go_wp2_with fail
    go_ret
    exact ⟨rfl, HK5.out⟩
  · have hb : ¬ (1024 : Int) < (s.size : Int) := by omega
    have hb2 : (3000 : Int) < (t.size : Int) := by omega
    clear h h1
    go_enter Try.func7, Try.ntmps7
    go_wp2_with fail
    refine (fixed_any _).mono ?_
    rintro e w5 ⟨rfl, hk5⟩
    have HK5 := hid hk5
    clear hk5
    go_wp2_with fail
    go_ret
    exact ⟨rfl, HK5.out⟩
theorem init_ok' : okS (.line []) := by simp [okS]
theorem row_apart {B B' : Nat} {w w' : World} {v x : Value} {ps qs : List (Td × Value)} (h : RowP B w v ps) (hx : RowP B' w x qs) (g : w.grownBy w' x.ownBlock) (hne : ∀ b, v.ownBlock = some b → x.ownBlock ≠ some b) : RowP B w' v ps :=
  rowp_blocks h (fun b hb => g.block b (rowp_cell h hb).2.1 (fun e => hne b hb e.symm)) (fun p hp => keys_grown hx g (h.2.2 p hp))
set_option maxHeartbeats 1600000 in
set_option maxRecDepth 100000 in
theorem data_law (s t : ByteArray) (w : World) (hs : s.size ≤ maxLen) (ht : t.size ≤ maxLen) : Calls Try.prog 7 #[.string s, .string t] w fun e w' => e = .returned (.bool true) ∧ Kept w w' := by
  by_cases hbig : 1024 < s.size ∨ 3000 < t.size
  · exact data_big s t w hbig
  have hb : ¬ (1024 : Int) < (s.size : Int) := by omega
  have hb2 : ¬ (3000 : Int) < (t.size : Int) := by omega
  have hn : s.size ≤ 1024 := by omega
  have hm : t.size ≤ 3000 := by omega
  have HN := hid hn
  have HM := hid hm
  have hcv := four_text (w := w) hn
  have h4 : (ba (four s.size)).size = 4 := by rw [size_list, ba_list]; rfl
  have HK0 := hid (kept_alloc (kept_refl w) (.cells #[.int .u8 (48 + (s.size : Int) / 1000), .int .u8 (48 + (s.size : Int) / 100 % 10), .int .u8 (48 + (s.size : Int) / 10 % 10), .int .u8 (48 + (s.size : Int) % 10)] 5))
  clear hs ht hbig
  go_enter Try.func7, Try.ntmps7
  go_wp2_with fail
  generalize w.alloc (.cells #[.int .u8 (48 + (s.size : Int) / 1000), .int .u8 (48 + (s.size : Int) / 100 % 10), .int .u8 (48 + (s.size : Int) / 10 % 10), .int .u8 (48 + (s.size : Int) % 10)] 5) = w0 at *
  clear hcv
  have hL : (({ data := #[115, 101, 116, 32, 107, 32, 55, 32, 48, 32] } : ByteArray) ++ ba (four s.size) ++ { data := #[13, 10] }).data.toList = hd ++ four s.size ++ [13, 10] := by
    rw [app_list, app_list, ba_list]
    rfl
  generalize ({ data := #[115, 101, 116, 32, 107, 32, 55, 32, 48, 32] } : ByteArray) ++ ba (four s.size) ++ { data := #[13, 10] } = L at *
  have hLs : L.size = 16 := by rw [size_list, hL]; rfl
  have HXL : Hid ((L ++ s ++ { data := #[13, 10] } ++ t).data.toList = hd ++ four s.size ++ [13, 10] ++ s.data.toList ++ [13, 10] ++ t.data.toList) := by
    show _ = _
    rw [app_list, app_list, app_list, hL]
  have HXs : Hid ((L ++ s ++ { data := #[13, 10] } ++ t).size ≤ 4294967296) := by
    have h1 := size_list s
    have h2 := size_list t
    show _ ≤ _
    rw [size_list, HXL.out]
    simp [hd, four]
    omega
  have HRun := hid (run_set hn s.data.toList t.data.toList (size_list s).symm)
  obtain ⟨W, hW⟩ : ∃ W, W = w.heap.size := ⟨_, rfl⟩
  have HW : Hid (w.heap.size = W) := hW.symm
  clear hW hL h4
  refine (new_fresh W w0 (by have := HW.out; have := HK0.out.2; omega)).mono ?_
  rintro e w1 ⟨F, rfl, hF, fF, hk1⟩
  have HfF := hid fF
  have HK1 := hid (kept_trans HK0.out hk1)
  clear hF fF hk1 HK0
  go_wp2_with fail
  refine (new_fresh W w1 (by have := HW.out; have := HK1.out.2; omega)).mono ?_
  rintro e w2 ⟨G, rfl, hG, fG, hk2⟩
  have HG0 : Hid (G ≠ F) := by have := at_lt HfF.out.2; show _ ≠ _; omega
  have HfG := hid fG
  have HfF2 := hid (fresh_kept HfF.out hk2)
  have HK2 := hid (kept_trans HK1.out hk2)
  clear hG fG hk2 HfF HK1
  go_wp2_with fail
  refine (Take_any W F fresh fresh_ok _ HXs.out _ (fresh_feed HfF2.out)).mono ?_
  rintro e w3 ⟨v3, f3, rfl, r3, g3, o3, a3, t3⟩
  rw [fresh_abs, HXL.out, HRun.out] at r3 a3
  have HR3 := hid (rowc_mono r3 (by have := HW.out; have := HK2.out.2; omega : W ≤ w2.heap.size))
  have HTl3 := hid (a3 ▸ tells_of g3 o3)
  have HfG3 := hid (fresh_fr HfG.out t3 HG0.out)
  have HK3 := hid (kept_fr HK2.out HW.out HfF2.out.1 t3)
  clear r3 g3 o3 a3 t3 HfF2 HfG HK2 HXL HXs HRun hLs
  go_wp2_with fail
  refine (Take_any W G fresh fresh_ok t (by have := HM.out; omega) _ (fresh_feed HfG3.out)).mono ?_
  rintro e w4 ⟨v4, f4, rfl, r4, g4, o4, a4, t4⟩
  rw [fresh_abs] at r4 a4
  obtain ⟨qs, eqs, r4⟩ := r4
  obtain ⟨-, ⟨csG, hGA⟩, hGT⟩ := feed_at (fresh_feed HfG3.out)
  obtain ⟨ps, eps, hP4⟩ := rowc_fr HR3.out t4 hGA hGT
  have hTf4 := tells_fr HTl3.out t4 (fun e => HG0.out e.symm)
  have hTg4 := a4 ▸ tells_of g4 o4
  have hK4 := kept_fr HK3.out HW.out HfG3.out.1 t4
  have hkp : Kept w4 ((w4.alloc (.cells #[.string ⟨#[107]⟩] 9)).alloc (.cells #[.int .i64 2, .slice (some ⟨w4.heap.size, 0, none⟩) 1 1, .int .u32 7, .int .i64 0, .string s, .bool false, .string ⟨#[]⟩] 38)) := kept_alloc (kept_alloc (kept_refl w4) _) _
  have hkeys : Keys ((w4.alloc (.cells #[.string ⟨#[107]⟩] 9)).alloc (.cells #[.int .i64 2, .slice (some ⟨w4.heap.size, 0, none⟩) 1 1, .int .u32 7, .int .i64 0, .string s, .bool false, .string ⟨#[]⟩] 38)) (.slice (some ⟨w4.heap.size, 0, none⟩) 1 1) [⟨#[107]⟩] := keys_kept (keys_one w4 ⟨#[107]⟩ 9) (kept_alloc (kept_refl _) _)
  have hWw : W ≤ w4.heap.size := by have := HW.out; have := hK4.2; omega
  have hnew : RowP W ((w4.alloc (.cells #[.string ⟨#[107]⟩] 9)).alloc (.cells #[.int .i64 2, .slice (some ⟨w4.heap.size, 0, none⟩) 1 1, .int .u32 7, .int .i64 0, .string s, .bool false, .string ⟨#[]⟩] 38)) (.slice (some ⟨w4.heap.size + 1, 0, none⟩) 1 1) [(⟨cK, s⟩, .slice (some ⟨w4.heap.size, 0, none⟩) 1 1)] := by
    refine ⟨⟨by simp [tdc], .inr ⟨w4.heap.size + 1, 1, #[.int .i64 2, .slice (some ⟨w4.heap.size, 0, none⟩) 1 1, .int .u32 7, .int .i64 0, .string s, .bool false, .string ⟨#[]⟩], rfl, by omega, ?_, Nat.le_refl _, by unfold maxLen; omega, rfl, ?_⟩⟩, fun e => (by cases e), fun p hp => ?_⟩
    · have := at_new (w4.alloc (.cells #[.string ⟨#[107]⟩] 9)) #[.int .i64 2, .slice (some ⟨w4.heap.size, 0, none⟩) 1 1, .int .u32 7, .int .i64 0, .string s, .bool false, .string ⟨#[]⟩] 38
      rw [World.size_alloc] at this
      exact this
    · rfl
    · have : p = (⟨cK, s⟩, .slice (some ⟨w4.heap.size, 0, none⟩) 1 1) := by simpa using hp
      subst this
      exact hkeys
  have hfew := run_ok t.data.toList init_ok'
  have hqs : qs.length ≤ 3000 := by
    have h1 := hfew.2.2
    rw [← eqs, ← size_list] at h1
    have h2 := HM.out
    simp at h1
    omega
  obtain ⟨v6, w6, hap, hrow6, hgr⟩ := row_join hnew (rowp_kept r4 hkp) (by simp; omega) (by simp; omega)
  have hP6 : RowP W w6 v3 ps := row_apart (rowp_kept hP4 hkp) hnew hgr (fun b hb e => by
    have h1 := (rowp_cell hP4 hb).2.1
    have h2 : w4.heap.size + 1 = b := by simpa [Value.ownBlock] using e
    omega)
  have HAp := hid hap
  have HWant : Hid (RowW w6 v6 (⟨cK, s⟩ :: (runB (.line []) t.data.toList).1)) := roww_own (by simp [eqs]) hrow6.1 hrow6.2.2
  have HLs6 : Hid (RowW w6 v3 (⟨cK, s⟩ :: (runB (.line []) t.data.toList).1)) := by
    rw [show s = ba s.data.toList from (ba_data s).symm]
    exact roww_own eps hP6.1 hP6.2.2
  have HTf6 := hid (tells_grown hnew hgr (tells_kept hTf4 hkp))
  have HTg6 := hid (tells_grown hnew hgr (tells_kept hTg4 hkp))
  have HK6 := hid (kept_grown hnew hgr (kept_trans hK4 hkp) (by have := HW.out; omega))
  have HFew : Hid (Few (⟨cK, s⟩ :: (runB (.line []) t.data.toList).1) ∧ (⟨cK, s⟩ :: (runB (.line []) t.data.toList).1).length ≤ 4294967300) := by
    refine ⟨fun x hx => ?_, ?_⟩
    · rcases List.mem_cons.1 hx with rfl | hx
      · simp [cK]
      · exact hfew.2.1 x hx
    · have h1 := hfew.2.2
      have h2 := HM.out
      have h3 := size_list t
      simp
      omega
  clear eqs r4 hGA hGT eps hP4 hTf4 hTg4 hK4 hkp hkeys hWw hnew hfew hqs hap hrow6 hgr hP6 g4 o4 a4 t4 HR3 HTl3 HfG3 HK3
  have hz := zero26
  go_wp2_with (at_builtin; refine wpList_run rfl (.tmp 61) (.tmp 62) 26 26 rfl _ _ v6 rfl rfl HAp.out ?_)
  refine (fixed_any _).mono ?_
  rintro e w7 ⟨rfl, hk7⟩
  have HWant7 := hid (roww_kept HWant.out hk7)
  have HLs7 := hid (roww_kept HLs6.out hk7)
  have HTf7 := hid (tells_kept HTf6.out hk7)
  have HTg7 := hid (tells_kept HTg6.out hk7)
  have HK7 := hid (kept_trans HK6.out hk7)
  clear hk7 HWant HLs6 HTf6 HTg6 HK6
  go_wp2_with fail
  refine (sameAll_any _ HFew.out.1 HFew.out.2 _ _ _ HLs7.out HWant7.out).mono ?_
  rintro e w8 ⟨rfl, hk8⟩
  have HTf8 := hid (tells_kept HTf7.out hk8)
  have HTg8 := hid (tells_kept HTg7.out hk8)
  have HK8 := hid (kept_trans HK7.out hk8)
  clear hk8 HWant7 HLs7 HTf7 HTg7 HK7 HFew
  generalize (runB (.line []) t.data.toList).2 = σ at *
  go_wp2_with fail
  refine (held_tells HTf8.out).mono ?_
  rintro e wz ⟨rfl, hw⟩
  rw [hw]; clear hw wz
  go_wp2_with fail
  refine (held_tells HTg8.out).mono ?_
  rintro e wz ⟨rfl, hw⟩
  rw [hw]; clear hw wz
  have hhe : ((heldS σ : Int) == (heldS σ : Int)) = true := by simp
  go_wp2_with fail
  refine (over_tells HTf8.out).mono ?_
  rintro e wz ⟨rfl, hw⟩
  rw [hw]; clear hw wz
  go_wp2_with fail
  refine (over_tells HTg8.out).mono ?_
  rintro e wz ⟨rfl, hw⟩
  rw [hw]; clear hw wz
  have hoe : (overS σ == overS σ) = true := by simp
  go_wp2_with fail
  go_ret
  exact ⟨rfl, HK8.out⟩
end Go.Proofs.Ytjlojkcdglocbaa
