/- The law that what is said is read as it is, walked: it answers true and turns nothing that was there. -/
import Derived.Test.YtlbpmehlfihpbaaDoorLawOnly
import Derived.Test.YtlbpmehlfihpbaaDoorLawEach
import Derived.Test.YtlbpmehlfihpbaaDoorSame
namespace Go.Proofs.YtlbpmehlfihpbaaDoor
open Go.ChangeShapes Go.WideShapes Go.ChangeAt Go.RowKit
set_option linter.unusedVariables false
set_option linter.unusedSimpArgs false

def toIt (r : R) : It := ⟨r.key.data.toList, r.flags, r.body.data.toList⟩
theorem rec_to (r : R) : recOf (toIt r) = ⟨r.key, zeroS, 3, r.flags, 0, r.body⟩ := by
  unfold recOf toIt
  simp only [mk_eq]
theorem may_to {r : R} (hf : r.flags < 4294967296) (h : mayI r.key r.body = true) : (toIt r).may := by
  unfold mayI at h
  rw [Bool.and_eq_true, decide_eq_true_iff, key_ok] at h
  exact ⟨h.1, by show r.flags ≤ _; omega, by show r.body.data.toList.length ≤ _; rw [size_list]; exact h.2⟩
theorem items_to (L : List R) : itemsL (L.map toIt) = itemsR L := by
  unfold itemsR itemsL
  rw [List.flatMap_map]
  rfl
theorem read_to {w : World} {B n : Nat} {v : Value} {l : List It} (h : w.ownsRow B 45 8 v n (flat (l.map recOf))) (hn : l.length = n) (hm : ∀ x ∈ l, x.may) : ∃ oa cap b, v = .slice oa n cap ∧ Row w oa n cap b 0 (l.map recOf) :=
  row_own h (by simpa using hn) (fun r hr => by
    obtain ⟨x, hx, rfl⟩ := List.mem_map.1 hr
    exact rec_ok (hm x hx))
set_option maxHeartbeats 1600000 in
set_option maxRecDepth 100000 in
theorem back_early (oa : Option Addr) (len cap b o : Nat) (L : List R) (x y : ByteArray) (w : World) (hB : Base w) (hr : Row w oa len cap b o L) (hx : x.size ≤ maxLen) (hy : y.size ≤ maxLen) (h : greatL L = true ∨ (greatL L = false ∧ (3000 : Int) < (x.size : Int)) ∨ (greatL L = false ∧ ¬ (3000 : Int) < (x.size : Int) ∧ (3000 : Int) < (y.size : Int))) :
    Calls Tryd.prog 5 #[.slice oa len cap, .string x, .string y] w fun e w' => e = .returned (.bool true) ∧ Kept w w' := by
  have hG := great_any oa len cap b o L w hr
  have HB := hid hB
  clear hr hB
  rcases h with h1 | ⟨h1, h2⟩ | ⟨h1, h2, h3⟩
  all_goals
    rw [h1] at hG
    clear h1
    go_enter Tryd.func5, Tryd.ntmps5
    go_wp2_with fail
    refine hG.mono ?_
    rintro e w1 ⟨rfl, hk1⟩
    have hF := fixed_any w1 (base_kept HB.out hk1)
    have HK1 := hid hk1
    clear hG hk1
    go_wp2_with fail
    refine hF.mono ?_
    rintro e w2 ⟨rfl, hk2⟩
    have HK2 := hid (kept_trans HK1.out hk2)
    clear hF hk2 HK1
    go_wp2
    go_ret
    exact ⟨rfl, HK2.out⟩
theorem norm_cells (r : R) : cellsL (recOf (toIt r)) = [.string r.key, .int .u64 0, .int .u32 0, .int .u8 0, .int .u8 3, .int .u32 (r.flags : Int), .int .u64 0, .string r.body] := by rw [rec_to]; rfl
set_option maxHeartbeats 3200000 in
set_option maxRecDepth 100000 in
theorem back_main (oa : Option Addr) (len cap b o : Nat) (L : List R) (x y : ByteArray) (w : World) (hB : Base w) (hr : Row w oa len cap b o L) (hg : greatL L = false) (hx : ¬ (3000 : Int) < (x.size : Int)) (hy : ¬ (3000 : Int) < (y.size : Int)) :
    Calls Tryd.prog 5 #[.slice oa len cap, .string x, .string y] w fun e w' => e = .returned (.bool true) ∧ Kept w w' := by
  have hz := zero45
  obtain ⟨i0, hi, hz0, hz1, hz2⟩ := info_parts info45
  have hG := great_any oa len cap b o L w hr
  rw [hg] at hG
  obtain ⟨hn, hs⟩ := not_great hg
  have HF0 := hid (items_size (row_ok hr) hs)
  have HS := hid hs
  have HB := hid hB
  obtain ⟨h0, h1, h2, -, h4, h5⟩ := hr
  have H0 : Hid (L.length = len) := h0
  have HN : Hid (L.length ≤ 100) := hn
  have H4 : Hid (0 < len → oa = some ⟨b, o, none⟩ ∧ b < w.heap.size) := h4
  have H5 : Hid (∀ i (h : i < L.length), L[i].ok ∧ Lies w b (o + i * 8) L[i]) := h5
  have hl100 : len ≤ 100 := by omega
  have d1 : decide ((3000 : Int) < (x.size : Int)) = false := decide_eq_false hx
  have d2 : decide ((3000 : Int) < (y.size : Int)) = false := decide_eq_false hy
  have Hx : Hid (x.size ≤ 3000) := by show _ ≤ _; omega
  have Hy : Hid (y.size ≤ 3000) := by show _ ≤ _; omega
  clear h0 h2 h4 h5 hg hs hB hn
  go_enter Tryd.func5, Tryd.ntmps5
  go_wp2_with fail
  refine hG.mono ?_
  rintro e w1 ⟨rfl, hk1⟩
  have HO : Hid (w1.ownsRow w.heap.size 45 8 (.slice none 0 0) 0 (flat (((L.take 0).map toIt).map recOf))) := World.ownsRow_nil w1 _ _ _
  have HK := hid hk1
  clear hG hk1
  go_wp2
  go_loopw [7, 9, 29] (fun v7 v9 j wr => ∃ k : Nat, k ≤ len ∧ j = .int .i64 k ∧ Hid (wr.ownsRow w.heap.size 45 8 v7 k (flat (((L.take k).map toIt).map recOf))) ∧ Hid (Kept w wr) ∧ Hid (∀ q (hq : q < L.length), q < k → (toIt L[q]).may)) (fun _ _ j _ => len - (intOf j).toNat)
  case atStart => exact ⟨0, Nat.zero_le _, rfl, HO, HK, fun q _ hq => absurd hq (by omega)⟩
  case round =>
    obtain ⟨k, hk, rfl, HO, HK, HM⟩ := hrel
    by_cases hlt : k < len
    · have hkL : k < L.length := by rw [H0.out]; exact hlt
      obtain ⟨hoa, hb⟩ := H4.out (by omega)
      obtain ⟨hok, hcell⟩ := H5.out k hkL
      have hc := lies_kept hcell hb HK.out
      have HT : Hid ((L.take (k + 1)).map toIt = (L.take k).map toIt ++ [toIt L[k]]) := by
        show _ = _
        rw [List.take_succ_eq_append_getElem hkL, List.map_append, List.map_singleton]
      have HM2 : Hid (mayI L[k].key L[k].body = true → ∀ q (hq : q < L.length), q < k + 1 → (toIt L[q]).may) := fun h q hq hl => by
        rcases (show q < k ∨ q = k by omega) with h1 | rfl
        · exact HM.out q hq h1
        · exact may_to hok.2.1 h
      have hks : L[k].key.size ≤ maxLen := hok.1
      have hbs : L[k].body.size ≤ maxLen := hok.2.2
      clear hok hcell hb
      generalize L[k] = r at *
      obtain ⟨c0, c1, c2, c3, c4, c5, c6, c7⟩ := hc
      have HK2 := hid (kept_alloc HK.out (.cells #[.string r.key, .int .u64 0, .int .u32 0, .int .u8 0, .int .u8 3, .int .u32 (r.flags : Int), .int .u64 0, .string r.body] 45))
      have HO2 := hid (HO.out.alloc (.cells #[.string r.key, .int .u64 0, .int .u32 0, .int .u8 0, .int .u8 3, .int .u32 (r.flags : Int), .int .u64 0, .string r.body] 45))
      have HA2 := hid (at_new wr #[.string r.key, .int .u64 0, .int .u32 0, .int .u8 0, .int .u8 3, .int .u32 (r.flags : Int), .int .u64 0, .string r.body] 45)
      have HC := fun u => May_any r.key r.body r.flags hks hbs u
      subst hoa
      clear hks hbs HO HK
      go_wp2_with fail
      generalize wr.alloc (.cells #[.string r.key, .int .u64 0, .int .u32 0, .int .u8 0, .int .u8 3, .int .u32 (r.flags : Int), .int .u64 0, .string r.body] 45) = w2 at *
      generalize wr.heap.size = Y at *
      clear c0 c1 c2 c3 c4 c5 c6 c7
      refine (HC w2).mono ?_
      rintro e w3 ⟨rfl, hk3⟩
      have HK3 := hid (kept_trans HK2.out hk3)
      have HO3 := hid (own_kept HO2.out hk3)
      have HA3 := hid (at_kept HA2.out hk3)
      clear HC hk3 HK2 HO2 HA2
      cases hm : mayI r.key r.body with
      | false =>
        have hF := fixed_any w3 (base_kept HB.out HK3.out)
        go_wp2_with fail
        refine hF.mono ?_
        rintro e w4 ⟨rfl, hk4⟩
        have HK4 := hid (kept_trans HK3.out hk4)
        clear hF hk4 HK3
        go_wp2
        go_ret
        exact ⟨rfl, HK4.out⟩
      | true =>
        have HM3 := hid (HM2.out hm)
        clear HM2 hm
        obtain ⟨c0, c1, c2, c3, c4, c5, c6, c7, fr⟩ := at_cells8 HA3.out
        have K4 := hid (kept_alloc HK3.out (.cells #[.string r.key, .int .u64 0, .int .u32 0, .int .u8 0, .int .u8 3, .int .u32 (r.flags : Int), .int .u64 0, .string r.body] 45))
        have O4 := hid (HO3.out.alloc (.cells #[.string r.key, .int .u64 0, .int .u32 0, .int .u8 0, .int .u8 3, .int .u32 (r.flags : Int), .int .u64 0, .string r.body] 45))
        have N4 := hid (rec_new (r := ⟨r.key, zeroS, 3, r.flags, 0, r.body⟩) (at_new w3 #[.string r.key, .int .u64 0, .int .u32 0, .int .u8 0, .int .u8 3, .int .u32 (r.flags : Int), .int .u64 0, .string r.body] 45))
        have hWs := hid K4.out.2
        clear HK3 HO3 HA3
        go_wp2_with (at_builtin; refine wpList_append_own _ rfl _ _ 22 rfl w.heap.size 45 i0 _ 8 64 Tryd.underlying22 hi hz0 hz1 hz2 rfl (by decide) _ k _ rfl O4.out ⟨w3.heap.size, 0, none⟩ 1 1 (cellsL ⟨r.key, zeroS, 3, r.flags, 0, r.body⟩) rfl rfl N4.out (rec_one _) (by unfold maxLen; omega) (by omega) hWs.out ?_)
        intro v' w4 hown' hgrow _
        have K5 := hid (kept_grown' K4.out hgrow (fun k hk => (O4.out.lt k hk).1))
        have O5 : Hid (w4.ownsRow w.heap.size 45 8 v' (k + 1) (flat (((L.take (k + 1)).map toIt).map recOf))) := by
          show World.ownsRow _ _ _ _ _ _ _
          rw [HT.out, List.map_append, List.map_singleton, flat_snoc, rec_to, List.map_map, List.map_take]
          exact hown'
        clear hown' hgrow K4 O4 N4 hWs c0 c1 c2 c3 c4 c5 c6 c7 fr
        go_wp2
        go_roundw
        case rel => exact ⟨k + 1, by omega, by go_num, O5, K5, HM3⟩
        case measure => simp [intOf]; omega
    · obtain rfl : k = len := by omega
      have hlist : L.take k = L := List.take_of_length_le (by rw [H0.out]; exact Nat.le_refl _)
      have HO2 := HO.out
      rw [hlist] at HO2
      have hmay : ∀ z ∈ L.map toIt, z.may := fun z hz => by
        obtain ⟨r, hr, rfl⟩ := List.mem_map.1 hz
        obtain ⟨q, hq, rfl⟩ := List.getElem_of_mem hr
        exact HM.out q hq (by have := H0.out; omega)
      have hll : (L.map toIt).length = k := by rw [List.length_map]; exact H0.out
      have hsz : (itemsL (L.map toIt)).length ≤ 700000 := by
        rw [items_to]
        have := HF0.out
        have := HN.out
        simp only [itemsR, endL, List.length_append, List.length_cons, List.length_nil]
        omega
      rw [← hll] at HO2
      obtain ⟨oa', cap', hv, hI0⟩ := items_read HO2 hmay (by omega)
      have HRow := read_to HO2 rfl hmay
      obtain ⟨S, hS⟩ : ∃ S : ByteArray, S = ⟨(itemsL (L.map toIt)).toArray⟩ := ⟨_, rfl⟩
      have hI := hI0 wr (kept_refl wr) (base_kept HB.out HK.out)
      rw [← hS] at hI
      have hSs : S.size = (itemsL (L.map toIt)).length := by rw [hS, mk_size]
      have hT : (x ++ S ++ y).data.toList.drop x.size = itemsL (L.map toIt) ++ y.data.toList := by
        have e : (x ++ S ++ y).data.toList = x.data.toList ++ (S.data.toList ++ y.data.toList) := by simp
        rw [e, ← size_list x, List.drop_left, hS, mk_list]
      have hTs : (x ++ S ++ y).size = x.size + S.size + y.size := by simp
      have hRd := fun u hu => read_at (x ++ S ++ y) x.size (by rw [hTs]; omega) (by rw [hTs]; have := Hx.out; have := Hy.out; omega) u hu
      rw [hT, read_back _ _ hmay, hTs] at hRd
      have hnext : ((x.size + S.size + y.size : Nat) : Int) - (y.data.toList.length : Int) = (x.size : Int) + (S.size : Int) := by rw [size_list]; omega
      have HR := hid hRd
      have HNx := hid hnext
      have HMay := hid hmay
      have hS7 : S.size ≤ 700000 := by omega
      have hx3 : x.size ≤ 3000 := Hx.out
      have hy3 : y.size ≤ 3000 := Hy.out
      clear hI0 hT hTs hRd hnext hSs hS hmay hsz HF0 HS H5 H4 HM hlist HN
      subst hv
      rw [hll] at hI HRow
      obtain ⟨oa2, cap2, b2, hv2, hrow2⟩ := HRow
      have HRow := hid hrow2
      cases hv2
      clear hrow2 HO2
      generalize L.map toIt = l at *
      go_wp2_with fail
      refine hI.mono ?_
      rintro e w2 ⟨rfl, hk2⟩
      have HK2 := hid (kept_trans HK.out hk2)
      have HRow2 := hid (row_kept HRow.out hk2)
      have hRd := HR.out w2 (base_kept HB.out HK2.out)
      clear hI hk2 HK HRow HR HO
      go_wp2_with fail
      refine hRd.mono ?_
      rintro e w3 ⟨hk3, v3, rfl, ho3⟩
      have HK3 := hid (kept_trans HK2.out hk3)
      have HRow3 := hid (row_kept HRow2.out hk3)
      obtain ⟨oa3, cap3, b3, hv3, hrow3⟩ := read_to ho3 rfl HMay.out
      subst hv3
      rw [hll] at hrow3 ⊢
      rw [HNx.out]
      have HRow4 := hid hrow3
      have hF := fixed_any w3 (base_kept HB.out HK3.out)
      clear hRd hk3 HK2 HRow2 ho3 hrow3
      go_wp2_with fail
      refine hF.mono ?_
      rintro e w4 ⟨rfl, hk4⟩
      have HK4 := hid (kept_trans HK3.out hk4)
      have hSm := same_rows _ _ _ _ _ _ _ _ _ _ w4 (row_kept HRow4.out hk4) (row_kept HRow3.out hk4)
      clear hF hk4 HK3 HRow3 HRow4
      go_wp2_with fail
      refine hSm.mono ?_
      rintro e w5 ⟨rfl, hk5⟩
      have HK5 := hid (kept_trans HK4.out hk5)
      clear hSm hk5 HK4
      go_wp2
      go_ret
      exact ⟨rfl, HK5.out⟩
theorem back_walk (oa : Option Addr) (len cap b o : Nat) (L : List R) (x y : ByteArray) (w : World) (hB : Base w) (hr : Row w oa len cap b o L) (wx : x.size ≤ maxLen) (wy : y.size ≤ maxLen) :
    Calls Tryd.prog 5 #[.slice oa len cap, .string x, .string y] w fun e w' => e = .returned (.bool true) ∧ Kept w w' := by
  cases hg : greatL L with
  | true => exact back_early oa len cap b o L x y w hB hr wx wy (.inl hg)
  | false =>
    by_cases hx : (3000 : Int) < (x.size : Int)
    · exact back_early oa len cap b o L x y w hB hr wx wy (.inr (.inl ⟨hg, hx⟩))
    · by_cases hy : (3000 : Int) < (y.size : Int)
      · exact back_early oa len cap b o L x y w hB hr wx wy (.inr (.inr ⟨hg, hx, hy⟩))
      · exact back_main oa len cap b o L x y w hB hr hg hx hy
end Go.Proofs.YtlbpmehlfihpbaaDoor
