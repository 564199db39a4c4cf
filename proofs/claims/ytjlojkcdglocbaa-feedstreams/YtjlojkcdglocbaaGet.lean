/- The contract of the program's get: it answers what the plain function does, of any row of words. Each word has at most 2^32 bytes. It turns nothing that was there. -/
import Derived.Test.YtjlojkcdglocbaaSet
namespace Go.Proofs.Ytjlojkcdglocbaa
open Go.ChangeShapes Go.WideShapes Go.ChangeAt Go.RowKit
set_option linter.unusedVariables false
set_option linter.unusedSimpArgs false

theorem own_below {W W' : World} {B e size n : Nat} {v : Value} {xs : List Value} (h : W.ownsRow B e size v n xs) (hb : Below W.heap.size W W') : W'.ownsRow B e size v n xs := by
  refine ⟨h.1, ?_⟩
  rcases h.2 with h0 | ⟨g, cap, cur, h1, h2, h3, h4⟩
  · exact .inl h0
  · exact .inr ⟨g, cap, cur, h1, h2, (kept_block (kept_below hb) (Array.getElem?_eq_some_iff.1 h3).1).trans h3, h4⟩
theorem keys_own {w : World} {B n : Nat} {v : Value} {L : List ByteArray} (h : w.ownsRow B 9 1 v n (L.map Value.string)) : Keys w v L ∧ n = L.length ∧ ∀ A m cap, v = .slice (some ⟨A, 0, none⟩) m cap → B ≤ A := by
  have hn : n = L.length := by have := h.1; simpa using this.symm
  refine ⟨?_, hn, ?_⟩
  · rcases h.2 with ⟨rfl, h0⟩ | ⟨g, cap, cur, rfl, hb, hg, hr⟩
    · refine .inl ⟨?_, rfl⟩
      exact List.length_eq_zero_iff.1 (by omega)
    · refine .inr ⟨g, cap, by rw [hn], (Array.getElem?_eq_some_iff.1 hg).1, fun i hi => ?_⟩
      have := h.cellAt i (by omega)
      rw [this]
      simp
  · rintro A m cap rfl
    rcases h.2 with ⟨h0, _⟩ | ⟨g, cap, cur, hv, hb, _⟩
    · cases h0
    · cases hv; exact hb
theorem keys_slice {w : World} {v : Value} {K : List ByteArray} (h : Keys w v K) : ∃ a m c, v = .slice a m c := by
  rcases h with ⟨_, h⟩ | ⟨A, cap, h, _⟩
  · exact ⟨_, _, _, h⟩
  · exact ⟨_, _, _, h⟩
theorem getC_bad (L : List ByteArray) (h : L.length < 1 ∨ 16 < L.length) : getC L = bad rFmt := by
  unfold getC
  rw [if_neg]
  simp only [Bool.and_eq_true, decide_eq_true_eq]
  omega
theorem getC_key (L : List ByteArray) (k : Nat) (hk : k < L.length) (h : keyMay L[k] = false) : getC L = bad rFmt := by
  unfold getC
  rw [if_neg]
  simp only [Bool.and_eq_true, List.all_eq_true]
  intro hh
  have := hh.2 _ (List.getElem_mem hk)
  rw [h] at this
  cases this
theorem getC_good (L : List ByteArray) (h1 : 1 ≤ L.length) (h2 : L.length ≤ 16) (h : ∀ k (hk : k < L.length), keyMay L[k] = true) : getC L = ⟨1, L, 0, 0, false, mt⟩ := by
  unfold getC
  rw [if_pos]
  simp only [Bool.and_eq_true, decide_eq_true_eq, List.all_eq_true]
  refine ⟨⟨h1, h2⟩, fun x hx => ?_⟩
  obtain ⟨k, hk, rfl⟩ := List.getElem_of_mem hx
  exact h k hk
theorem one_at {w : World} {B T : Nat} {x : Value} (h : At w B #[x] T) : ∀ j u, [x][j]? = some u → w.cell? ((⟨B, 0, none⟩ : Addr).add j) = some u := by
  intro j u hj
  have hj0 : j = 0 := by
    have := (List.getElem?_eq_some_iff.1 hj).1
    simpa using this
  subst hj0
  have hu : x = u := by simpa using hj
  subst hu
  have := at_cell h 0
  simpa [Addr.add] using this
theorem one_cell (w : World) (x : Value) (t : TypeId) : ∀ j u, [x][j]? = some u → (w.alloc (.cells #[x] t)).cell? ((⟨w.heap.size, 0, none⟩ : Addr).add j) = some u := one_at (at_new w #[x] t)
set_option maxHeartbeats 1600000 in
theorem get_len (c : Cm) (hc : c = bad rFmt) (a : Option Addr) (n cap : Nat) (h : n < 1 ∨ 16 < n) (w : World) :
    Calls Try.prog 42 #[.slice a n cap] w fun e w' => ∃ kv, e = .returned (.agg #[.int .i64 c.kind, kv, .int .u32 c.flags, .int .i64 c.exp, .string ⟨#[]⟩, .bool c.quiet, .string c.reply]) ∧ Keys w' kv c.keys ∧ Kept w w' := by
  have hz := zero26
  have HA : Hid (At (w.alloc (.cells #[.int .i64 0, .slice none 0 0, .int .u32 0, .int .i64 0, .string ⟨#[]⟩, .bool false, .string ⟨#[]⟩] 38)) w.heap.size #[.int .i64 0, .slice none 0 0, .int .u32 0, .int .i64 0, .string ⟨#[]⟩, .bool false, .string ⟨#[]⟩] 38) := at_new _ _ _
  have HK : Hid (Kept w (w.alloc (.cells #[.int .i64 0, .slice none 0 0, .int .u32 0, .int .i64 0, .string ⟨#[]⟩, .bool false, .string ⟨#[]⟩] 38))) := kept_alloc (kept_refl w) _
  have HY : Hid (∀ (u : World) (a0 a1 a2 a3 a4 a5 a6 : Value), Kept w u → Kept w (set7 u w.heap.size a0 a1 a2 a3 a4 a5 a6)) := fun u a0 a1 a2 a3 a4 a5 a6 h => kept_set7 h (Nat.le_refl _) _ _ _ _ _ _ _
  by_cases h1 : (n : Int) < 1
  · clear h
    go_enter Try.func42, Try.ntmps42
    go_wp2_with fail
    generalize w.alloc (.cells #[.int .i64 0, .slice none 0 0, .int .u32 0, .int .i64 0, .string ⟨#[]⟩, .bool false, .string ⟨#[]⟩] 38) = wa at *
    generalize w.heap.size = X at *
    refine (bad_any _ _).mono ?_
    rintro e w2 ⟨rfl, hk2⟩
    have HA2 := hid (at_kept HA.out hk2)
    have HK2 := hid (kept_trans HK.out hk2)
    clear hk2
    obtain ⟨c0, c1, c2, c3, c4, c5, c6, fr⟩ := at_cells7 HA2.out
    go_wp2_with fail
    refine bodyPost_ret (res1 rfl _ rfl (at_set7 HA2.out _ _ _ _ _ _ _)) rfl ?_
    exact bad_end hc HA2.out HY.out HK2.out
  · have h2 : (16 : Int) < (n : Int) := by omega
    clear h
    go_enter Try.func42, Try.ntmps42
    go_wp2_with fail
    generalize w.alloc (.cells #[.int .i64 0, .slice none 0 0, .int .u32 0, .int .i64 0, .string ⟨#[]⟩, .bool false, .string ⟨#[]⟩] 38) = wa at *
    generalize w.heap.size = X at *
    refine (bad_any _ _).mono ?_
    rintro e w2 ⟨rfl, hk2⟩
    have HA2 := hid (at_kept HA.out hk2)
    have HK2 := hid (kept_trans HK.out hk2)
    clear hk2
    obtain ⟨c0, c1, c2, c3, c4, c5, c6, fr⟩ := at_cells7 HA2.out
    go_wp2_with fail
    refine bodyPost_ret (res1 rfl _ rfl (at_set7 HA2.out _ _ _ _ _ _ _)) rfl ?_
    exact bad_end hc HA2.out HY.out HK2.out
set_option maxHeartbeats 3200000 in
theorem get_any (L : List ByteArray) (A o cap : Nat) (hcap : L.length ≤ cap) (hS : Short L) (w : World) (hl : Lay w A o L) :
    Calls Try.prog 42 #[.slice (some ⟨A, o, none⟩) L.length cap] w fun e w' => ∃ kv, e = .returned (.agg #[.int .i64 (getC L).kind, kv, .int .u32 (getC L).flags, .int .i64 (getC L).exp, .string ⟨#[]⟩, .bool (getC L).quiet, .string (getC L).reply]) ∧ Keys w' kv (getC L).keys ∧ Kept w w' := by
  by_cases hlen : L.length < 1 ∨ 16 < L.length
  · exact get_len _ (getC_bad L hlen) _ _ cap hlen w
  obtain ⟨n, hn⟩ : ∃ n, n = L.length := ⟨_, rfl⟩
  obtain ⟨C, hC⟩ : ∃ C, C = getC L := ⟨_, rfl⟩
  have HC := hid hC
  have HN : Hid (L.length = n) := hn.symm
  have H1 : Hid (1 ≤ n ∧ n ≤ 16) := by show 1 ≤ n ∧ n ≤ 16; omega
  have HL := hid hl
  have HS := hid hS
  rw [← hn, ← hC]
  have d1 : decide ((n : Int) < 1) = false := by simp; omega
  have d2 : decide ((16 : Int) < (n : Int)) = false := by simp; omega
  have hz := zero26
  have HA : Hid (At (w.alloc (.cells #[.int .i64 0, .slice none 0 0, .int .u32 0, .int .i64 0, .string ⟨#[]⟩, .bool false, .string ⟨#[]⟩] 38)) w.heap.size #[.int .i64 0, .slice none 0 0, .int .u32 0, .int .i64 0, .string ⟨#[]⟩, .bool false, .string ⟨#[]⟩] 38) := at_new _ _ _
  have HK : Hid (Kept w (w.alloc (.cells #[.int .i64 0, .slice none 0 0, .int .u32 0, .int .i64 0, .string ⟨#[]⟩, .bool false, .string ⟨#[]⟩] 38))) := kept_alloc (kept_refl w) _
  have HY : Hid (∀ (u : World) (a0 a1 a2 a3 a4 a5 a6 : Value), Kept w u → Kept w (set7 u w.heap.size a0 a1 a2 a3 a4 a5 a6)) := fun u a0 a1 a2 a3 a4 a5 a6 h => kept_set7 h (Nat.le_refl _) _ _ _ _ _ _ _
  obtain ⟨i0, hi, hz0, hz1, hz2⟩ := info_parts (P := Try.prog) (e := 9) (show (Try.prog.info? 9).map (fun i => (i.zero, i.size, i.bytes)) = some (some (.string ⟨#[]⟩), 1, 16) by kernel_rfl)
  obtain ⟨W0, hmk, hown0, hg0⟩ := run_make_own (P := Try.prog) (w.alloc (.cells #[.int .i64 0, .slice none 0 0, .int .u32 0, .int .i64 0, .string ⟨#[]⟩, .bool false, .string ⟨#[]⟩] 38)) (w.alloc (.cells #[.int .i64 0, .slice none 0 0, .int .u32 0, .int .i64 0, .string ⟨#[]⟩, .bool false, .string ⟨#[]⟩] 38)).heap.size 35 9 i0 _ 1 Try.underlying35 hi hz0 hz1 .i64 .i64 n (by rw [hz2]; omega) (by unfold maxLen; omega) (Nat.le_refl _)
  have HB0 : Hid (Below (w.alloc (.cells #[.int .i64 0, .slice none 0 0, .int .u32 0, .int .i64 0, .string ⟨#[]⟩, .bool false, .string ⟨#[]⟩] 38)).heap.size (w.alloc (.cells #[.int .i64 0, .slice none 0 0, .int .u32 0, .int .i64 0, .string ⟨#[]⟩, .bool false, .string ⟨#[]⟩] 38)) W0) := (Below.refl _ _).grown hg0 (Nat.le_refl _) (fun k hk => by cases hk)
  have HO0 := hid hown0
  have HI := hid (And.intro hi (And.intro hz0 (And.intro hz1 hz2)))
  have HNB : Hid (w.heap.size < (w.alloc (.cells #[.int .i64 0, .slice none 0 0, .int .u32 0, .int .i64 0, .string ⟨#[]⟩, .bool false, .string ⟨#[]⟩] 38)).heap.size) := by show _ < _; simp
  have HBK : Hid (∀ u, Below (w.alloc (.cells #[.int .i64 0, .slice none 0 0, .int .u32 0, .int .i64 0, .string ⟨#[]⟩, .bool false, .string ⟨#[]⟩] 38)).heap.size (w.alloc (.cells #[.int .i64 0, .slice none 0 0, .int .u32 0, .int .i64 0, .string ⟨#[]⟩, .bool false, .string ⟨#[]⟩] 38)) u → Kept (w.alloc (.cells #[.int .i64 0, .slice none 0 0, .int .u32 0, .int .i64 0, .string ⟨#[]⟩, .bool false, .string ⟨#[]⟩] 38)) u ∧ (w.alloc (.cells #[.int .i64 0, .slice none 0 0, .int .u32 0, .int .i64 0, .string ⟨#[]⟩, .bool false, .string ⟨#[]⟩] 38)).heap.size ≤ u.heap.size) := fun u h => ⟨kept_below h, h.size⟩
  simp only [World.size_alloc] at hmk HO0 HB0 HBK HNB
  clear hl hS hcap hlen hn hC hown0 hg0 hi hz0 hz1 hz2
  go_enter Try.func42, Try.ntmps42
  go_wp2_with fail
  generalize w.alloc (.cells #[.int .i64 0, .slice none 0 0, .int .u32 0, .int .i64 0, .string ⟨#[]⟩, .bool false, .string ⟨#[]⟩] 38) = wa at *
  generalize w.heap.size = X at *
  generalize X + 1 = B at *
  clear hmk
  go_loopw [3, 5, 20] (fun ks key j wr => ∃ k : Nat, k ≤ n ∧ j = .int .i64 k ∧ Hid (wr.ownsRow B 9 1 ks k ((L.take k).map Value.string)) ∧ Hid (Below B wa wr) ∧ Hid (∀ q (hq : q < L.length), q < k → keyMay L[q] = true)) (fun _ _ j _ => n - (intOf j).toNat)
  case atStart => exact ⟨0, Nat.zero_le _, rfl, HO0, HB0, fun q _ hq => absurd hq (by omega)⟩
  case round =>
    obtain ⟨k, hk, rfl, HO, HB, HG⟩ := hrel
    have HKr : Hid (Kept w wr ∧ At wr X #[.int .i64 0, .slice none 0 0, .int .u32 0, .int .i64 0, .string ⟨#[]⟩, .bool false, .string ⟨#[]⟩] 38 ∧ Lay wr A o L) := ⟨kept_trans HK.out (HBK.out _ HB.out).1, at_kept HA.out (HBK.out _ HB.out).1, lay_kept HL.out (kept_trans HK.out (HBK.out _ HB.out).1)⟩
    by_cases hlt : k < n
    · have hk16 : k < 16 := by have := H1.out; omega
      have hkL : Hid (k < L.length) := by show k < _; rw [HN.out]; exact hlt
      have hx := HKr.out.2.2.2 k hkL.out
      have HXS : Hid (L[k]'hkL.out ∈ L) := List.getElem_mem _
      have HXT : Hid ((L.take (k + 1)).map Value.string = (L.take k).map Value.string ++ [Value.string (L[k]'hkL.out)]) := by
        show _ = _; rw [List.take_succ_eq_append_getElem hkL.out, List.map_append]; rfl
      have HXK : Hid (keyMay (L[k]'hkL.out) = false → C = bad rFmt) := fun h => HC.out.trans (getC_key L k hkL.out h)
      have HXG : Hid (keyMay (L[k]'hkL.out) = true → ∀ q (hq : q < L.length), q < k + 1 → keyMay L[q] = true) := fun h q hq hl => by
        rcases (show q < k ∨ q = k by omega) with h1 | rfl
        · exact HG.out q hq h1
        · exact h
      generalize (L[k]'hkL.out) = x at *
      have hxs : x.size ≤ 4294967296 := HS.out _ HXS.out
      have HM := hid (fun w => KeyMay_any x (by unfold maxLen; omega) w)
      have HCl := hid (fun w => clone_any x (by omega) w)
      clear hxs
      go_wp2_with fail
      refine (HM.out _).mono ?_
      rintro e w1 ⟨rfl, hw⟩
      rw [hw]; clear hw w1
      cases hkm : keyMay x with
      | false =>
        have hc := HXK.out hkm
        clear hkm
        go_wp2_with fail
        refine (bad_any _ _).mono ?_
        rintro e w2 ⟨rfl, hk2⟩
        have HA2 := hid (at_kept HKr.out.2.1 hk2)
        have HK2 := hid (kept_trans HKr.out.1 hk2)
        have hc := hid hc
        clear hk2
        obtain ⟨c0, c1, c2, c3, c4, c5, c6, fr⟩ := at_cells7 HA2.out
        go_wp2_with fail
        refine bodyPost_ret (res1 rfl _ rfl (at_set7 HA2.out _ _ _ _ _ _ _)) rfl ?_
        exact bad_end hc.out HA2.out HY.out HK2.out
      | true =>
        have HNG := hid (HXG.out hkm)
        clear hkm
        go_wp2_with fail
        refine (HCl.out _).mono ?_
        rintro e w2 ⟨rfl, hb2⟩
        have HB2 := hid hb2
        have HO2 := hid ((own_below HO.out hb2).alloc (.cells #[.string x] 9))
        have HBx : Hid (Below B wa w2) := HB.out.trans (hb2.mono (HBK.out _ HB.out).2)
        clear hb2
        go_wp2_with (at_builtin; go_must (refine wpList_append_own _ rfl (.tmp 28) (.tmp 31) 35 rfl B 9 i0 (.string ⟨#[]⟩) 1 16 Try.underlying35 HI.out.1 HI.out.2.1 HI.out.2.2.1 HI.out.2.2.2 rfl (by decide) _ _ _ rfl HO2.out ⟨w2.heap.size, 0, none⟩ 1 1 [.string x] rfl rfl (one_cell _ _ _) (by intro u hu; simp at hu; subst hu; rfl) (by unfold maxLen; have := H1.out; omega) (by have := H1.out; omega) (by have := (HBK.out _ HBx.out).2; simp; omega) ?_; intro v3 w3 hown3 hgrow3 hnil3))
        go_round
        case rel =>
          refine ⟨k + 1, by omega, by go_num, ?_, ?_, HNG⟩
          · show _; rw [HXT.out]; exact hown3
          · exact (HBx.out.alloc (HBK.out _ HBx.out).2 _).grown hgrow3 (by have := (HBK.out _ HBx.out).2; simp; omega) (fun j hj => (HO2.out.lt j hj).1)
        case measure => simp [intOf]; omega
    · have he : k = n := by omega
      subst he
      have HT : Hid (L.take k = L) := by show _ = _; rw [← HN.out]; exact List.take_length
      rw [HT.out] at HO
      have HKO := hid (keys_own HO.out)
      have hc := HC.out.trans (getC_good L (by rw [HN.out]; exact H1.out.1) (by rw [HN.out]; exact H1.out.2) (fun q hq => HG.out q hq (by rw [← HN.out]; exact hq)))
      have hc := hid hc
      obtain ⟨c0, c1, c2, c3, c4, c5, c6, fr⟩ := at_cells7 HKr.out.2.1
      obtain ⟨a3, m3, cap3, rfl⟩ := keys_slice HKO.out.1
      go_wp2_with fail
      refine bodyPost_ret (res1 rfl _ rfl (at_set7 HKr.out.2.1 _ _ _ _ _ _ _)) rfl ?_
      rw [hc.out]
      exact ⟨_, rfl, keys_set7 HKO.out.1 (fun A' n' cap' h => by have h1 := HKO.out.2.2 A' n' cap' h; have h2 := HNB.out; omega) _ _ _ _ _ _ _, HY.out _ _ _ _ _ _ _ _ HKr.out.1⟩
end Go.Proofs.Ytjlojkcdglocbaa
