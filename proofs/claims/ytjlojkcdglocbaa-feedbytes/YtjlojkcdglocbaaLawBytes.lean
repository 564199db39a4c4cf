/- The statement FeedBytes' walk: true of any text; nothing is turned. -/
import Derived.Test.YtjlojkcdglocbaaFeedTwo
namespace Go.Proofs.Ytjlojkcdglocbaa
open Go.ChangeShapes Go.WideShapes Go.ChangeAt Go.RowKit
set_option linter.unusedVariables false
set_option linter.unusedSimpArgs false

theorem slice_run (s : ByteArray) (i j : Nat) (h1 : i ≤ j) (h2 : j ≤ s.size) (u : World) : (Instr.slice 9 (.string s) (some (.int .i64 (i : Int))) (some (.int .i64 (j : Int))) none).run Try.prog u = .ok (.string (s.extract i j)) u := by
  have := run_slice_string (P := Try.prog) u 9 s .i64 .i64 (i : Int) (j : Int) Try.underlying9 (by omega) (by omega) (by omega)
  simpa using this
theorem run_next (s : List UInt8) (k : Nat) (hk : k < s.length) : runB (.line []) (s.take (k + 1)) = ((runB (.line []) (s.take k)).1 ++ (runB (runB (.line []) (s.take k)).2 [s[k]]).1, (runB (runB (.line []) (s.take k)).2 [s[k]]).2) := by
  rw [List.take_succ_eq_append_getElem hk, runB_append]
theorem init_ok : okS (.line []) := by simp [okS]
set_option maxHeartbeats 1600000 in
set_option maxRecDepth 100000 in
theorem bytes_law (s : ByteArray) (w : World) (hs : s.size ≤ maxLen) : Calls Try.prog 4 #[.string s] w fun e w' => e = .returned (.bool true) ∧ Kept w w' := by
  by_cases hbig : 5000 < s.size
  · have hb : (5000 : Int) < (s.size : Int) := by omega
    clear hbig hs
    go_enter Try.func4, Try.ntmps4
    go_wp2_with fail
    refine (fixed_any _).mono ?_
    rintro e w5 ⟨rfl, hk5⟩
    have HK5 := hid hk5
    clear hk5
    go_wp2_with fail
    go_ret
    exact ⟨rfl, HK5.out⟩
  have hb : ¬ (5000 : Int) < (s.size : Int) := by omega
  obtain ⟨n, hn⟩ : ∃ n, n = s.size := ⟨_, rfl⟩
  have HN : Hid (s.size = n) := hn.symm
  have hn5 : n ≤ 5000 := by omega
  have HN5 := hid hn5
  clear hs hbig
  obtain ⟨W, hW⟩ : ∃ W, W = w.heap.size := ⟨_, rfl⟩
  have HW : Hid (w.heap.size = W) := hW.symm
  clear hW
  go_enter Try.func4, Try.ntmps4
  go_wp2_with fail
  refine (new_fresh W w (by have := HW.out; omega)).mono ?_
  rintro e w1 ⟨F, rfl, hF, fF, hk1⟩
  have HF := hid hF
  have HfF := hid fF
  have HK1 := hid hk1
  clear hF fF hk1
  go_wp2_with fail
  refine (new_fresh W w1 (by have := HW.out; have := HK1.out.2; omega)).mono ?_
  rintro e w2 ⟨G, rfl, hG, fG, hk2⟩
  have HG0 : Hid (G ≠ F) := by have := at_lt HfF.out.2; show _ ≠ _; omega
  have HfG := hid fG
  have HfF2 := hid (fresh_kept HfF.out hk2)
  have HK2 := hid (kept_trans HK1.out hk2)
  clear hG fG hk2 HfF HK1 HF
  go_wp2_with fail
  rw [← hn]
  clear hn hn5
  go_loopw [5, 15] (fun v5 v15 wr => ∃ (k : Nat) (ps : List (Td × Value)) (f : Fd), k ≤ n ∧ v15 = .int .i64 (k : Int) ∧ Hid (RowP W wr v5 ps) ∧ Hid (ps.map Prod.fst = (runB (.line []) (s.data.toList.take k)).1) ∧ Hid (FeedAt W wr F f) ∧ Hid (okF f) ∧ Hid (absF f = (runB (.line []) (s.data.toList.take k)).2) ∧ Hid (FreshAt W wr G) ∧ Hid (Kept w wr)) (fun v5 v15 wr => n - (intOf v15).toNat)
  case atStart => exact ⟨0, [], fresh, Nat.zero_le _, rfl, rowp_nil _ _, rfl, fresh_feed HfF2.out, fresh_ok, rfl, HfG, HK2⟩
  case round =>
    clear HfF2 HfG HK2
    obtain ⟨k, ps, f, hk, rfl, HRow, HPs, HFd, HOk, HAb, HfG, HK⟩ := hrel
    obtain ⟨HFB, ⟨csF, HFA⟩, HFT⟩ := feed_at HFd.out
    have HFB := hid HFB
    have HFA := hid HFA
    have HFT := hid HFT
    have hszL : Hid (s.data.toList.length = n) := by show _ = _; rw [← size_list]; exact HN.out
    by_cases hlt : k < n
    · have hk5 : k < 5000 := by have := HN5.out; omega
      have hsl := slice_run s k (k + 1) (by omega) (by have := HN.out; omega)
      have hcast : ((k + 1 : Nat) : Int) = (k : Int) + 1 := by omega
      rw [hcast] at hsl
      clear hcast
      have HX : Hid ((s.extract k (k + 1)).data.toList = [s.data.toList[k]'(by rw [hszL.out]; exact hlt)]) := by
        show _ = _
        rw [ex_list, show k + 1 - k = 1 from by omega, List.drop_eq_getElem_cons (by rw [hszL.out]; exact hlt)]
        simp
      have HNx := hid (run_next s.data.toList k (by rw [hszL.out]; exact hlt))
      have HXs : Hid ((s.extract k (k + 1)).size ≤ 4294967296) := by show _ ≤ _; rw [size_list, HX.out]; simp
      generalize s.extract k (k + 1) = x at *
      go_wp2_with fail
      refine (Take_any W F f HOk.out x HXs.out _ HFd.out).mono ?_
      rintro e w3 ⟨v3, f3, rfl, r3, g3, o3, a3, t3⟩
      obtain ⟨qs, eq, r3⟩ := r3
      rw [HAb.out, HX.out] at eq a3
      have hRow3 := rowp_fr HRow.out t3 HFA.out HFT.out
      have hK3 := kept_fr HK.out HW.out HFB.out t3
      have hlen : ps.length + qs.length ≤ 4294967300 := by
        have h1 := (run_ok (s.data.toList.take k) init_ok).2.2
        have h2 := (run_ok [s.data.toList[k]'(by rw [hszL.out]; exact hlt)] (run_ok (s.data.toList.take k) init_ok).1).2.2
        rw [← HPs.out] at h1
        rw [← eq] at h2
        simp at h1 h2
        omega
      obtain ⟨v4, w4, hap, hrow4, hgr⟩ := row_join hRow3 r3 (by have := HW.out; have := hK3.2; omega) hlen
      have HAp := hid hap
      have HRow4 := hid hrow4
      have HK4 := hid (kept_grown hRow3 hgr hK3 (by have := HW.out; omega))
      have HF4 := hid (feed_grown hRow3 hgr g3)
      have HO4 := hid o3
      have HG4 := hid (fresh_grown hRow3 hgr (fresh_fr HfG.out t3 HG0.out))
      have HPs4 : Hid ((ps ++ qs).map Prod.fst = (runB (.line []) (s.data.toList.take (k + 1))).1) := by
        show _ = _
        rw [List.map_append, HPs.out, eq, HNx.out]
      have HAb4 : Hid (absF f3 = (runB (.line []) (s.data.toList.take (k + 1))).2) := by
        show _ = _
        rw [a3, HNx.out]
      clear eq r3 g3 o3 a3 t3 hRow3 hK3 hlen hap hrow4 hgr HRow HPs HFd HOk HAb HfG HK HFA HFT hsl
      go_wp2_with (at_builtin; go_must (refine wpList_run rfl (.tmp 18) (.tmp 25) 26 26 rfl _ _ v4 rfl rfl HAp.out ?_))
      go_roundw
      case rel => exact ⟨k + 1, ps ++ qs, f3, by omega, by go_num, HRow4, HPs4, HF4, HO4, HAb4, HG4, HK4⟩
      case measure => simp [intOf]; omega
    · have he : k = n := by omega
      subst he
      have HT : Hid (s.data.toList.take k = s.data.toList) := by show _ = _; rw [← hszL.out]; exact List.take_length
      rw [HT.out] at HPs HAb
      have HTl := hid (HAb.out ▸ tells_of HFd.out HOk.out)
      have HFew := hid (run_ok s.data.toList init_ok)
      go_wp2_with fail
      refine (fixed_any _).mono ?_
      rintro e w5 ⟨rfl, hk5⟩
      have HRow5 := hid (rowp_kept HRow.out hk5)
      have HTl5 := hid (tells_kept HTl.out hk5)
      have HG5 := hid (fresh_kept HfG.out hk5)
      have HK5 := hid (kept_trans HK.out hk5)
      clear hk5 HRow HTl HfG HK HFd HFA HFT HOk HAb
      go_wp2_with fail
      refine (Take_any W G fresh fresh_ok s (by have := HN.out; have := HN5.out; omega) _ (fresh_feed HG5.out)).mono ?_
      rintro e w6 ⟨v6, f6, rfl, r6, g6, o6, a6, t6⟩
      rw [fresh_abs] at r6 a6
      have HR6 := hid (roww_row r6)
      obtain ⟨-, -, HT6⟩ := feed_at (fresh_feed HG5.out)
      have HL6 : Hid (RowW w6 u5 (runB (.line []) s.data.toList).1) := by
        have h := rowp_fr HRow5.out t6 HG5.out.2 HT6
        exact roww_own HPs.out h.1 h.2.2
      have HTf := hid (tells_fr HTl5.out t6 (fun e => HG0.out e.symm))
      have HTg := hid (a6 ▸ tells_of g6 o6)
      have HK6 := hid (kept_fr HK5.out HW.out HG5.out.1 t6)
      clear r6 a6 g6 o6 t6 HRow5 HTl5 HG5 HK5 HPs HT6
      go_wp2_with fail
      refine (sameAll_any _ HFew.out.2.1 (by have h1 := HFew.out.2.2; have h2 := hszL.out; have h3 := HN5.out; omega) _ _ _ HL6.out HR6.out).mono ?_
      rintro e w7 ⟨rfl, hk7⟩
      have HTf7 := hid (tells_kept HTf.out hk7)
      have HTg7 := hid (tells_kept HTg.out hk7)
      have HK7 := hid (kept_trans HK6.out hk7)
      clear hk7 HTf HTg HK6 HL6 HR6
      generalize (runB (.line []) s.data.toList).2 = σ at *
      go_wp2_with fail
      refine (held_tells HTf7.out).mono ?_
      rintro e w8 ⟨rfl, hw⟩
      rw [hw]; clear hw w8
      go_wp2_with fail
      refine (held_tells HTg7.out).mono ?_
      rintro e w8 ⟨rfl, hw⟩
      rw [hw]; clear hw w8
      have hhe : ((heldS σ : Int) == (heldS σ : Int)) = true := by simp
      go_wp2_with fail
      refine (over_tells HTf7.out).mono ?_
      rintro e w8 ⟨rfl, hw⟩
      rw [hw]; clear hw w8
      go_wp2_with fail
      refine (over_tells HTg7.out).mono ?_
      rintro e w8 ⟨rfl, hw⟩
      rw [hw]; clear hw w8
      have hoe : (overS σ == overS σ) = true := by simp
      go_wp2_with fail
      go_ret
      exact ⟨rfl, HK7.out⟩
end Go.Proofs.Ytjlojkcdglocbaa
