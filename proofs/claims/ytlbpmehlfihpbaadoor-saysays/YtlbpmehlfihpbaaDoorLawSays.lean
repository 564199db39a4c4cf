/- The law that what is said of values and of counts is the reference's, walked: it answers true and turns nothing that was there. -/
import Derived.Test.YtlbpmehlfihpbaaDoorStats
namespace Go.Proofs.YtlbpmehlfihpbaaDoor
open Go.ChangeShapes Go.WideShapes Go.ChangeAt Go.RowKit
set_option linter.unusedVariables false
set_option linter.unusedSimpArgs false

def pr (S : Nat → ByteArray) (Z : Nat → Int) (vlen i : Nat) : ByteArray × Nat := (S i, if i < vlen then (Z i).toNat else 0)
def prs (S : Nat → ByteArray) (Z : Nat → Int) (vlen k : Nat) : List (ByteArray × Nat) := (List.range k).map (pr S Z vlen)
theorem prs_succ (S : Nat → ByteArray) (Z : Nat → Int) (vlen k : Nat) : (prs S Z vlen (k + 1)).flatMap cells2L = (prs S Z vlen k).flatMap cells2L ++ cells2L (pr S Z vlen k) := by
  unfold prs
  rw [List.range_succ, List.map_append, List.flatMap_append]
  simp
theorem info30 : (Tryd.prog.info? 30).map (fun i => (i.zero, i.size, i.bytes)) = some (some (.agg #[.string ⟨#[]⟩, .int .u64 0]), 2, 24) := by kernel_rfl
theorem pair_new {w : World} {Y : Nat} {p : ByteArray × Nat} (h : At w Y #[.string p.1, .int .u64 (p.2 : Int)] 30) : ∀ j u, (cells2L p)[j]? = some u → w.cell? ((⟨Y, 0, none⟩ : Addr).add j) = some u := by
  intro j u hj
  rw [add_zero_plain, at_cell h j, ← hj]
  show (cells2L p).toArray[j]? = _
  simp
theorem pair_one (p : ByteArray × Nat) : ∀ u ∈ cells2L p, u.oneCell' = true := by
  intro u hu
  simp only [cells2L, List.mem_cons, List.not_mem_nil, or_false] at hu
  rcases hu with rfl | rfl <;> rfl
theorem pairs_get : ∀ (ps : List (ByteArray × Nat)) (j i : Nat) (hj : j < ps.length), i < 2 → (ps.flatMap cells2L)[j * 2 + i]? = (cells2L ps[j])[i]?
  | p :: ps, 0, i, _, hi => by
    rw [List.flatMap_cons, List.getElem?_append_left (by simp [cells2L]; omega)]
    simp
  | p :: ps, j + 1, i, hj, hi => by
    have ih := pairs_get ps j i (by simpa using hj) hi
    rw [List.flatMap_cons, List.getElem?_append_right (by simp [cells2L]; omega), show (j + 1) * 2 + i - (cells2L p).length = j * 2 + i by simp [cells2L]; omega, ih]
    simp
theorem row2_own {w : World} {B n : Nat} {v : Value} {ps : List (ByteArray × Nat)} (h : w.ownsRow B 30 2 v n (ps.flatMap cells2L)) (hn : ps.length = n) (h50 : n ≤ 50) (hok : ∀ p ∈ ps, p.1.size ≤ 1000 ∧ p.2 < 18446744073709551616) : ∃ oa cap b, v = .slice oa n cap ∧ Row2 w oa n cap b ps := by
  rcases h.2 with ⟨h1, h2⟩ | ⟨g, cap, cur, h1, h2, h3, h4, h5, h6⟩
  · exact ⟨none, 0, 0, by rw [h1, h2], hn, h50, by omega, fun hp => by omega, fun i hi => by omega⟩
  · refine ⟨_, cap, g, h1, hn, h50, h4, fun _ => ⟨rfl, (Array.getElem?_eq_some_iff.1 h3).1⟩, fun i hi => ?_⟩
    have ho := hok _ (List.getElem_mem hi)
    rw [h1] at h
    have hc : ∀ q u, q < 2 → (cells2L ps[i])[q]? = some u → w.cell? ⟨g, i * 2 + q, none⟩ = some u := fun q u hq hu => by
      have := h.cells (g := g) rfl (i * 2 + q) u (by rw [pairs_get ps i q hi hq]; exact hu)
      rwa [add_zero_plain] at this
    exact ⟨ho.1, ho.2, hc 0 _ (by omega) rfl, hc 1 _ (by omega) rfl⟩
set_option maxHeartbeats 1600000 in
set_option maxRecDepth 100000 in
theorem says_early (oa0 : Option Addr) (len0 cap0 b0 o0 : Nat) (L : List R) (oa1 : Option Addr) (len1 cap1 : Nat) (oa2 : Option Addr) (len2 cap2 : Nat) (w : World) (hB : Base w) (hr : Row w oa0 len0 cap0 b0 o0 L) (h : greatL L = true ∨ (greatL L = false ∧ (50 : Int) < (len1 : Int))) :
    Calls Tryd.prog 3 #[.slice oa0 len0 cap0, .slice oa1 len1 cap1, .slice oa2 len2 cap2] w fun e w' => e = .returned (.bool true) ∧ Kept w w' := by
  have hG := great_any oa0 len0 cap0 b0 o0 L w hr
  have HB := hid hB
  clear hr hB
  rcases h with h1 | ⟨h1, h2⟩
  all_goals
    rw [h1] at hG
    clear h1
    go_enter Tryd.func3, Tryd.ntmps3
    go_wp2_with fail
    refine hG.mono ?_
    rintro e w1 ⟨rfl, hk1⟩
    have hF := fixed_any w1 (base_kept HB.out hk1)
    have HK1 := hid hk1
    clear hG hk1
    go_wp2_with fail
    refine hF.mono ?_
    rintro e w2 ⟨rfl, hk2⟩
    have HK2 := hid (kept_trans HK1.out hk2)
    clear hF hk2 HK1
    go_wp2
    go_ret
    exact ⟨rfl, HK2.out⟩
set_option maxHeartbeats 3200000 in
set_option maxRecDepth 100000 in
theorem says_main (oa0 : Option Addr) (len0 cap0 b0 o0 : Nat) (L : List R) (oa1 : Option Addr) (len1 cap1 b1 o1 : Nat) (S : Nat → ByteArray) (oa2 : Option Addr) (vlen cap2 b2 o2 : Nat) (Z : Nat → Int) (w : World) (hB : Base w) (hr : Row w oa0 len0 cap0 b0 o0 L)
    (hr1 : RowC w oa1 len1 b1 o1 (fun i => .string (S i))) (hs1 : ∀ i, (S i).size ≤ maxLen) (hr2 : RowC w oa2 vlen b2 o2 (fun i => .int .u64 (Z i))) (hs2 : ∀ i, 0 ≤ Z i ∧ Z i < 18446744073709551616) (hg : greatL L = false) (hl : ¬ (50 : Int) < (len1 : Int)) :
    Calls Tryd.prog 3 #[.slice oa0 len0 cap0, .slice oa1 len1 cap1, .slice oa2 vlen cap2] w fun e w' => e = .returned (.bool true) ∧ Kept w w' := by
  have hz := zero30
  obtain ⟨i0, hi, hz0, hz1, hz2⟩ := info_parts info30
  have hG := great_any oa0 len0 cap0 b0 o0 L w hr
  rw [hg] at hG
  have HF0 : Hid ((L.flatMap itemR).length + 5 ≤ 70368744177664) := by
    show _ ≤ _
    have h1 := items_size (row_ok hr) (not_great hg).2
    have := (not_great hg).1
    omega
  have HRow := hid hr
  have HGr := hid hg
  have HB := hid hB
  have HN : Hid (∀ k, k < len1 → ∀ u, Kept w u → u.cell? ⟨b1, o1 + k, none⟩ = some (.string (S k))) := fun k hk u hu => (kept_cell hu (hr1.2.1 (by omega)).2).trans (hr1.2.2 k hk)
  have HNo : Hid (0 < len1 → oa1 = some ⟨b1, o1, none⟩ ∧ b1 < w.heap.size) := hr1.2.1
  have HV : Hid (∀ k, k < vlen → ∀ u, Kept w u → u.cell? ⟨b2, o2 + k, none⟩ = some (.int .u64 (Z k))) := fun k hk u hu => (kept_cell hu (hr2.2.1 (by omega)).2).trans (hr2.2.2 k hk)
  have HVo : Hid (0 < vlen → oa2 = some ⟨b2, o2, none⟩ ∧ b2 < w.heap.size) := hr2.2.1
  have Hs1 := hid hs1
  have Hs2 := hid hs2
  have hvm : vlen ≤ 9223372036854775807 := by have := hr2.1; unfold maxLen at this; omega
  have d1 : decide ((50 : Int) < (len1 : Int)) = false := decide_eq_false hl
  have hl50 : len1 ≤ 50 := by omega
  clear hr hg hB hr1 hr2 hs1 hs2
  go_enter Tryd.func3, Tryd.ntmps3
  go_wp2_with fail
  refine hG.mono ?_
  rintro e w1 ⟨rfl, hk1⟩
  have HO : Hid (w1.ownsRow w.heap.size 30 2 (.slice none 0 0) 0 ((prs S Z vlen 0).flatMap cells2L)) := World.ownsRow_nil w1 _ _ _
  have HK := hid hk1
  clear hG hk1
  go_wp2
  go_loopw [7, 10, 21] (fun v7 v10 j wr => ∃ k : Nat, k ≤ len1 ∧ j = .int .i64 k ∧ Hid (wr.ownsRow w.heap.size 30 2 v7 k ((prs S Z vlen k).flatMap cells2L)) ∧ Hid (Kept w wr) ∧ Hid (∀ q, q < k → (S q).size ≤ 1000)) (fun _ _ j _ => len1 - (intOf j).toNat)
  case atStart => exact ⟨0, Nat.zero_le _, rfl, HO, HK, fun q hq => absurd hq (by omega)⟩
  case round =>
    obtain ⟨k, hk, rfl, HO, HK, HSz⟩ := hrel
    by_cases hlt : k < len1
    · have hc := HN.out k hlt wr HK.out
      have hoa := (HNo.out (by omega)).1
      have hsk := Hs1.out k
      unfold maxLen at hsk
      subst hoa
      by_cases h1000 : (1000 : Int) < ((S k).size : Int)
      · have hF := fixed_any wr (base_kept HB.out HK.out)
        go_wp2_with fail
        refine hF.mono ?_
        rintro e w2 ⟨rfl, hk2⟩
        have HK2 := hid (kept_trans HK.out hk2)
        clear hF hk2 HK
        go_wp2
        go_ret
        exact ⟨rfl, HK2.out⟩
      · have HS2 : Hid (∀ q, q < k + 1 → (S q).size ≤ 1000) := fun q hq => by
          rcases (show q < k ∨ q = k by omega) with h1 | rfl
          · exact HSz.out q h1
          · omega
        obtain ⟨n, hn⟩ : ∃ n : Nat, n = (if k < vlen then (Z k).toNat else 0) := ⟨_, rfl⟩
        have HT0 : Hid ((prs S Z vlen (k + 1)).flatMap cells2L = (prs S Z vlen k).flatMap cells2L ++ cells2L (S k, n)) := by
          show _ = _
          rw [prs_succ, hn]; rfl
        have HP1 : Hid (k < vlen → Z k = (n : Int)) := fun h => by rw [hn, if_pos h]; have := (Hs2.out k).1; omega
        have HP2 : Hid (¬ k < vlen → n = 0) := fun h => by rw [hn, if_neg h]
        clear hn hsk
        generalize S k = s at *
        by_cases hvl : k < vlen
        · have hvl1 : (k : Int) < (vlen : Int) := by omega
          have hzc := HV.out k hvl (wr.alloc (.cells #[.string s, .int .u64 0] 30)) (kept_alloc HK.out _)
          have HZ : Hid (Z k = (n : Int)) := HP1.out hvl
          rw [HZ.out] at hzc
          have hoa2 := (HVo.out (by omega)).1
          have HT := hid (HT0.out)
          clear hvl HT0 HP1 HP2
          subst hoa2
          have K4 := hid (kept_alloc (kept_alloc HK.out (.cells #[.string s, .int .u64 (n : Int)] 30)) (.cells #[.string s, .int .u64 (n : Int)] 30))
          have O4 := hid ((HO.out.alloc (.cells #[.string s, .int .u64 (n : Int)] 30)).alloc (.cells #[.string s, .int .u64 (n : Int)] 30))
          have N4 := hid (pair_new (p := (s, n)) (at_new (wr.alloc (.cells #[.string s, .int .u64 (n : Int)] 30)) #[.string s, .int .u64 (n : Int)] 30))
          have hsz : (wr.alloc (.cells #[.string s, .int .u64 (n : Int)] 30)).heap.size = wr.heap.size + 1 := by simp
          rw [hsz] at N4
          have hWs := hid K4.out.2
          clear HK HO hsz
          go_wp2_with (at_builtin; refine wpList_append_own _ rfl _ _ 27 rfl w.heap.size 30 i0 _ 2 24 Tryd.underlying27 hi hz0 hz1 hz2 rfl (by decide) _ k _ rfl O4.out ⟨wr.heap.size + 1, 0, none⟩ 1 1 (cells2L (s, n)) rfl rfl N4.out (pair_one _) (by unfold maxLen; omega) (by omega) hWs.out ?_)
          intro v' w4 hown' hgrow _
          have K5 := hid (kept_grown' K4.out hgrow (fun k hk => (O4.out.lt k hk).1))
          have O5 : Hid (w4.ownsRow w.heap.size 30 2 v' (k + 1) ((prs S Z vlen (k + 1)).flatMap cells2L)) := by
            show World.ownsRow _ _ _ _ _ _ _
            rw [HT.out]
            exact hown'
          clear hown' hgrow K4 O4 N4 hWs
          go_wp2
          go_roundw
          case rel => exact ⟨k + 1, by omega, by go_num, O5, K5, HS2⟩
          case measure => simp [intOf]; omega
        · have hvl1 : ¬ (k : Int) < (vlen : Int) := by omega
          have hn0 : n = 0 := HP2.out hvl
          subst hn0
          have HT := hid (HT0.out)
          clear hvl HT0 HP1 HP2
          have K4 := hid (kept_alloc (kept_alloc HK.out (.cells #[.string s, .int .u64 0] 30)) (.cells #[.string s, .int .u64 0] 30))
          have O4 := hid ((HO.out.alloc (.cells #[.string s, .int .u64 0] 30)).alloc (.cells #[.string s, .int .u64 0] 30))
          have N4 := hid (pair_new (p := (s, 0)) (at_new (wr.alloc (.cells #[.string s, .int .u64 0] 30)) #[.string s, .int .u64 0] 30))
          have hsz : (wr.alloc (.cells #[.string s, .int .u64 0] 30)).heap.size = wr.heap.size + 1 := by simp
          rw [hsz] at N4
          have hWs := hid K4.out.2
          clear HK HO hsz
          go_wp2_with (at_builtin; refine wpList_append_own _ rfl _ _ 27 rfl w.heap.size 30 i0 _ 2 24 Tryd.underlying27 hi hz0 hz1 hz2 rfl (by decide) _ k _ rfl O4.out ⟨wr.heap.size + 1, 0, none⟩ 1 1 (cells2L (s, 0)) rfl rfl N4.out (pair_one _) (by unfold maxLen; omega) (by omega) hWs.out ?_)
          intro v' w4 hown' hgrow _
          have K5 := hid (kept_grown' K4.out hgrow (fun k hk => (O4.out.lt k hk).1))
          have O5 : Hid (w4.ownsRow w.heap.size 30 2 v' (k + 1) ((prs S Z vlen (k + 1)).flatMap cells2L)) := by
            show World.ownsRow _ _ _ _ _ _ _
            rw [HT.out]
            exact hown'
          clear hown' hgrow K4 O4 N4 hWs
          go_wp2
          go_roundw
          case rel => exact ⟨k + 1, by omega, by go_num, O5, K5, HS2⟩
          case measure => simp [intOf]; omega
    · obtain rfl : k = len1 := by omega
      have hlen : (prs S Z vlen k).length = k := by unfold prs; simp
      obtain ⟨oa, cap, b, hv, hrow⟩ := row2_own HO.out hlen hl50 (fun p hp => by
        unfold prs at hp
        obtain ⟨q, hq, rfl⟩ := List.mem_map.1 hp
        have hq' : q < k := by simpa using hq
        refine ⟨HSz.out q hq', ?_⟩
        show (if q < vlen then (Z q).toNat else 0) < _
        have := Hs2.out q
        split <;> omega)
      have HR2 := hid hrow
      subst hv
      have hF := fixed_any wr (base_kept HB.out HK.out)
      clear hlen hrow HSz HN HV HO
      generalize prs S Z vlen k = ps at *
      go_wp2_with fail
      refine hF.mono ?_
      rintro e w2 ⟨rfl, hk2⟩
      have HK2 := hid (kept_trans HK.out hk2)
      have HR3 := hid (row2_kept HR2.out hk2)
      have hI := Items_any oa0 len0 cap0 b0 o0 L w2 (base_kept HB.out HK2.out) (row_kept HRow.out HK2.out) HF0.out
      generalize hx : (⟨(itemsR L).toArray⟩ : ByteArray) = X at hI
      clear hF hk2 HK HR2
      go_wp2_with fail
      refine hI.mono ?_
      rintro e w3 ⟨rfl, hk3⟩
      have HK3 := hid (kept_trans HK2.out hk3)
      have HR4 := hid (row2_kept HR3.out hk3)
      have hJ := refItems_any oa0 len0 cap0 b0 o0 L w3 (row_kept HRow.out HK3.out) HGr.out
      rw [hx] at hJ
      clear hI hk3 HK2 HR3 hx
      have hXX : (X.toList == X.toList) = true := by simp
      go_wp2_with fail
      refine hJ.mono ?_
      rintro e w4 ⟨rfl, hk4⟩
      have HK4 := hid (kept_trans HK3.out hk4)
      have HR5 := hid (row2_kept HR4.out hk4)
      have hS := Stats_any oa k cap b ps w4 (base_kept HB.out HK4.out) HR5.out
      generalize hy : (⟨(statsR ps).toArray⟩ : ByteArray) = Y at hS
      clear hJ hk4 HK3 HR4
      go_wp2_with fail
      refine hS.mono ?_
      rintro e w5 ⟨rfl, hk5⟩
      have HK5 := hid (kept_trans HK4.out hk5)
      have hT := refStats_any oa k cap b ps w5 (row2_kept HR5.out hk5)
      rw [hy] at hT
      clear hS hk5 HK4 HR5 hy
      have hYY : (Y.toList == Y.toList) = true := by simp
      go_wp2_with fail
      refine hT.mono ?_
      rintro e w6 ⟨rfl, hk6⟩
      have HK6 := hid (kept_trans HK5.out hk6)
      clear hT hk6 HK5
      go_wp2
      go_ret
      exact ⟨rfl, HK6.out⟩
theorem says_walk (oa0 : Option Addr) (len0 cap0 b0 o0 : Nat) (L : List R) (oa1 : Option Addr) (len1 cap1 b1 o1 : Nat) (S : Nat → ByteArray) (oa2 : Option Addr) (vlen cap2 b2 o2 : Nat) (Z : Nat → Int) (w : World) (hB : Base w) (hr : Row w oa0 len0 cap0 b0 o0 L)
    (hr1 : RowC w oa1 len1 b1 o1 (fun i => .string (S i))) (hs1 : ∀ i, (S i).size ≤ maxLen) (hr2 : RowC w oa2 vlen b2 o2 (fun i => .int .u64 (Z i))) (hs2 : ∀ i, 0 ≤ Z i ∧ Z i < 18446744073709551616) :
    Calls Tryd.prog 3 #[.slice oa0 len0 cap0, .slice oa1 len1 cap1, .slice oa2 vlen cap2] w fun e w' => e = .returned (.bool true) ∧ Kept w w' := by
  cases hg : greatL L with
  | true => exact says_early oa0 len0 cap0 b0 o0 L oa1 len1 cap1 oa2 vlen cap2 w hB hr (.inl hg)
  | false =>
    by_cases hl : (50 : Int) < (len1 : Int)
    · exact says_early oa0 len0 cap0 b0 o0 L oa1 len1 cap1 oa2 vlen cap2 w hB hr (.inr ⟨hg, hl⟩)
    · exact says_main oa0 len0 cap0 b0 o0 L oa1 len1 cap1 b1 o1 S oa2 vlen cap2 b2 o2 Z w hB hr hr1 hs1 hr2 hs2 hg hl
end Go.Proofs.YtlbpmehlfihpbaaDoor
