/- The contracts of the program's Summary and Push. Rows have at most 200 members, texts at most 3000 bytes. -/
import Derived.Test.YtgfmmipbadnhgaaSlMap
import Derived.Test.YtgfmmipbadnhgaaGMore
import Derived.Deep.DeepMust
namespace Go.Proofs.Ytgfmmipbadnhgaa
open Go.ChangeShapes Go.WideShapes Go.ChangeAt Go.RowKit
set_option linter.unusedVariables false
set_option linter.unusedSimpArgs false
set_option maxRecDepth 100000

set_option maxHeartbeats 3200000 in
theorem seenOf_any (l : List R) (hn : l.length ≤ 2000) (v : Value) (w : World) (h : Rg encR 8 w v l) : Calls Try.prog 20 #[v] w (GRowN encS 5 43 (sums l) w) := by
  have HR := hid h
  obtain ⟨a, cap, rfl, -, -, -, -⟩ := h
  have HG : Hid (∀ k, k < l.length → ∃ y, l[k]? = some y) := hid (fun k hk => ⟨l[k], List.getElem?_eq_getElem hk⟩)
  have HP : Hid (0 < l.length → ∃ g o, a = some ⟨g, o, none⟩) := hid (fun hp => by
    obtain ⟨g, o, c, e⟩ := rg_pos HR.out hp
    injection e with e1
    exact ⟨g, o, e1⟩)
  have HT : Hid (l.take l.length = l) := hid List.take_length
  have HEnd : Hid (∀ v u, Og encS 5 43 u w.heap.size v (sums l) → v ≠ .slice none 0 0 → Kept w u → GRowN encS 5 43 (sums l) w (.returned v) u) := hid (fun v u h1 h2 h3 => ⟨v, rfl, h1, h2, h3⟩)
  have HLt : Hid (∀ k, k ≤ l.length → (sums (l.take k)).length = k) := hid (fun k hk => by rw [sums_len, List.length_take]; omega)
  obtain ⟨w0, hmk, o0, k0⟩ := og_make encS_ok tyS (by decide) l.length (by omega) w
  have HO0 := hid o0
  have HK0 := hid k0
  clear o0 k0
  generalize hnn : l.length = n at *
  clear hnn
  go_enter Try.func20, Try.ntmps20
  go_wp2_with fail
  clear hmk
  generalize hB0 : w.heap.size = B0 at *
  have HB0 := hid hB0
  clear hB0
  go_loopw [3, 11] (fun ks j wr => ∃ k : Nat, k ≤ n ∧ j = .int .i64 (k : Int) ∧ Hid (Og encS 5 43 wr B0 ks (sums (l.take k))) ∧ Hid (ks ≠ .slice none 0 0) ∧ Hid (Kept w wr)) (fun _ j _ => n - (intOf j).toNat)
  case atStart => exact ⟨0, Nat.zero_le _, rfl, HO0, hid (by simp), HK0⟩
  case round =>
    obtain ⟨k, hk, rfl, HO, HNn, HKr⟩ := hrel
    clear HO0 HK0
    by_cases hlt : k < n
    · obtain ⟨x, hx⟩ := HG.out k hlt
      obtain ⟨g, o, rfl⟩ := HP.out (by omega)
      have HNx : Hid (sums (l.take (k + 1)) = sums (l.take k) ++ [seen x]) := hid (by rw [take_next hx, sums_app]; rfl)
      obtain ⟨c0, c1, c2, c3, c4, c5, c6, c7⟩ := rg_R (rg_kept encR_ok HR.out HKr.out) hx
      have zs := zeroRv wr
      have HK1 := hid (kept_alloc HKr.out (.cells #[.string x.key, .int .u64 x.s.p, .int .u32 x.s.l, .int .u8 x.s.n, .int .u8 x.kind, .int .u32 x.flags, .int .u64 x.exp, .string x.body] 41))
      have HO1 := hid (og_stays HO.out (kept_alloc (kept_refl wr) (.cells #[.string x.key, .int .u64 x.s.p, .int .u32 x.s.l, .int .u8 x.s.n, .int .u8 x.kind, .int .u32 x.flags, .int .u64 x.exp, .string x.body] 41)))
      clear hx HO
      go_wp2_with fail
      clear c0 c1 c2 c3 c4 c5 c6 c7 zs
      generalize wr.alloc (.cells #[.string x.key, .int .u64 x.s.p, .int .u32 x.s.l, .int .u8 x.s.n, .int .u8 x.kind, .int .u32 x.flags, .int .u64 x.exp, .string x.body] 41) = w1 at *
      refine (seen_any x w1).mono ?_
      rintro e w2 ⟨rfl, k2⟩
      have HK2 := hid (kept_trans HK1.out k2)
      have HO2 := hid (og_stays HO1.out k2)
      clear k2 HK1 HO1
      have HKa := hid (kept_alloc HK2.out (.cells #[.string x.key, .int .u64 x.s.p, .int .u32 x.s.l, .int .u8 x.s.n, .int .u8 x.kind] 43))
      have HOa := hid (og_stays HO2.out (kept_alloc (kept_refl w2) (.cells #[.string x.key, .int .u64 x.s.p, .int .u32 x.s.l, .int .u8 x.s.n, .int .u8 x.kind] 43)))
      have HAl := hid (rg_alone encS_ok (y := seen x) (at_new w2 #[.string x.key, .int .u64 x.s.p, .int .u32 x.s.l, .int .u8 x.s.n, .int .u8 x.kind] 43))
      have HBw : Hid (B0 ≤ (w2.alloc (.cells #[.string x.key, .int .u64 x.s.p, .int .u32 x.s.l, .int .u8 x.s.n, .int .u8 x.kind] 43)).heap.size) := hid (by have := HKa.out.2; have := HB0.out; omega)
      go_wp2_with (at_builtin; go_must (refine wpList_gapp rfl (.tmp 15) (.tmp 18) rfl encS_ok tyS (by decide) B0 _ _ _ _ rfl HOa.out rfl HAl.out (by have := HLt.out k hk; simp; omega) HBw.out ?_; intro v3 w3 hown3 hgrow3 hnil3))
      have HO3 : Hid (Og encS 5 43 w3 B0 v3 (sums (l.take (k + 1)))) := hid (by rw [HNx.out]; exact hown3)
      have HK3 := hid (kept_gr HKa.out hgrow3 (fun j hj => by have := og_lt HOa.out hj; have := HB0.out; omega))
      go_roundw
      case rel => exact ⟨k + 1, by omega, by go_num, HO3, hid (hnil3 HNn.out), HK3⟩
      case measure => simp [intOf]; omega
    · have he : k = n := by omega
      subst he
      rw [HT.out] at HO
      go_wp2_with fail
      go_ret
      exact HEnd.out _ _ HO.out HNn.out HKr.out
set_option maxHeartbeats 3200000 in
theorem sum_is : SumIs := by
  intro l v w hn hs h
  have HSm := hid (sml_sums hs)
  have HSo := hid (fun w h => seenOf_any l (by omega) v w h)
  have HLs := hid (sums_len l)
  have HR := hid h
  have HEnd : Hid (∀ v B u, Og encS 5 43 u B v (sums l) → Kept w u → RowR encS 5 (sums l) w (.returned v) u) := hid (fun v B u h1 h2 => ⟨v, rfl, rg_own encS_ok h1, h2⟩)
  clear hs h
  generalize sums l = t at *
  rw [← HLs.out] at hn
  clear HLs
  go_enter Try.func11, Try.ntmps11
  go_wp2_with fail
  refine (HSo.out w HR.out).mono ?_
  rintro e w1 ⟨v1, rfl, o1, n1, k1⟩
  have HO1 := hid o1
  have HK1 := hid k1
  obtain ⟨q, cap, rfl⟩ := og_some o1 n1
  have HQ : Hid (w.heap.size ≤ q) := hid (og_lt o1 rfl)
  have HG : Hid (∀ k, k < t.length → ∃ y, t[k]? = some y) := hid (fun k hk => ⟨t[k], List.getElem?_eq_getElem hk⟩)
  clear o1 n1 k1 HSo
  generalize hnn : t.length = n at *
  clear hnn
  generalize hB0 : w.heap.size = B0 at *
  have HB0 := hid hB0
  clear hB0
  go_wp2_with fail
  go_loopw [9] (fun j wr => ∃ k : Nat, k ≤ n ∧ j = .int .i64 (k : Int) ∧ Hid (Og encS 5 43 wr B0 (.slice (some ⟨q, 0, none⟩) n cap) t) ∧ Hid (Kept w wr)) (fun j _ => n - (intOf j).toNat)
  case atStart => exact ⟨0, Nat.zero_le _, rfl, HO1, HK1⟩
  case round =>
    obtain ⟨k, hk, rfl, HO, HKr⟩ := hrel
    clear HO1 HK1
    by_cases hlt : k < n
    · obtain ⟨x, hx⟩ := HG.out k hlt
      obtain ⟨cs, ha, hcs⟩ := og_at encS_ok HO.out
      have c0 : wr.cell? ⟨q, k * 5, none⟩ = some (.string x.key) := (at_cell ha _).trans (hcs k x 0 _ hx rfl)
      have hxs : x.key.size ≤ 140737488355328 := by have := HSm.out x (List.mem_of_getElem? hx); omega
      have HX := hid hx
      have HXs := hid hxs
      clear ha hcs hx hxs
      go_wp2_with fail
      clear c0
      refine (clone_any x.key HXs.out _).mono ?_
      rintro e w2 ⟨rfl, k2⟩
      have HO2 := hid (og_stays HO.out (kept_below k2))
      have HK2 := hid (kept_trans HKr.out (kept_below k2))
      obtain ⟨cs, ha, hcs⟩ := og_at encS_ok HO2.out
      have hsame := same_store ha (hcs k x 0 _ HX.out rfl)
      have HO3 := hid (og_block (w' := w2.setCell ⟨q, k * 5, none⟩ (.string x.key)) HO2.out (fun g _ _ _ => hsame g))
      have HK3 := hid (kept_set (X := q) HK2.out (by have := HQ.out; have := HB0.out; omega) (k * 5) (.string x.key))
      have hfr := at_frozen ha (k * 5)
      have c1 : w2.cell? ⟨q, k * 5, none⟩ = some (.string x.key) := (at_cell ha _).trans (hcs k x 0 _ HX.out rfl)
      clear ha hcs hsame k2 HO HKr HO2 HK2
      go_wp2_with fail
      go_roundw
      case rel => exact ⟨k + 1, by omega, by go_num, HO3, HK3⟩
      case measure => simp [intOf]; omega
    · have he : k = n := by omega
      subst he
      go_wp2_with fail
      go_ret
      exact HEnd.out _ _ _ HO.out HKr.out
set_option maxHeartbeats 3200000 in
theorem push_is : PushIs := by
  intro l t v u w hn ht hs hst h hu
  have HSm := hid hs
  have HR := hid h
  have HCn := hid (fun w h => counting_any t (by omega) hst u w h)
  have HU := hid hu
  obtain ⟨a, cap, rfl, -, -, -, -⟩ := h
  have HG : Hid (∀ k, k < l.length → ∃ y, l[k]? = some y) := hid (fun k hk => ⟨l[k], List.getElem?_eq_getElem hk⟩)
  have HP : Hid (0 < l.length → ∃ g o, a = some ⟨g, o, none⟩) := hid (fun hp => by
    obtain ⟨g, o, c, e⟩ := rg_pos HR.out hp
    injection e with e1
    exact ⟨g, o, e1⟩)
  have HT : Hid (l.take l.length = l) := hid List.take_length
  have HEnd : Hid (∀ v B u, Og encR 8 41 u B v (push l t) → Kept w u → RowR encR 8 (push l t) w (.returned v) u) := hid (fun v B u h1 h2 => ⟨v, rfl, rg_own encR_ok h1, h2⟩)
  have HLt : Hid (∀ k, (push (l.take k) t).length ≤ 2000) := hid (fun k => by have := push_len (l.take k) t; rw [List.length_take] at this; omega)
  generalize hnn : l.length = n at *
  clear hnn hs hst hu
  go_enter Try.func14, Try.ntmps14
  go_wp2_with fail
  refine (HCn.out w HU.out).mono ?_
  rintro e w1 ⟨m, c, rfl, g1, hc1, hm1, k1⟩
  have HM1 := hid g1
  have HK1 := hid k1
  clear g1 k1 hc1 HCn HU
  generalize hB0 : w.heap.size = B0 at *
  have HB0 := hid hB0
  clear hB0
  go_wp2_with fail
  go_loopw [6, 13] (fun ks j wr => ∃ k : Nat, k ≤ n ∧ j = .int .i64 (k : Int) ∧ Hid (Og encR 8 41 wr B0 ks (push (l.take k) t)) ∧ Hid (Gm Try.prog mapS wr m (fun q => bestOf q none t) c) ∧ Hid (Kept w wr)) (fun _ j _ => n - (intOf j).toNat)
  case atStart => exact ⟨0, Nat.zero_le _, rfl, hid (og_nil _ _ _ _ _), HM1, HK1⟩
  case round =>
    obtain ⟨k, hk, rfl, HO, HM, HKr⟩ := hrel
    clear HM1 HK1
    by_cases hlt : k < n
    · obtain ⟨x, hx⟩ := HG.out k hlt
      obtain ⟨g, o, rfl⟩ := HP.out (by omega)
      have HNx := hid (push_next hx t)
      have HXs := hid (HSm.out x (List.mem_of_getElem? hx))
      obtain ⟨c0, c1, c2, c3, c4, c5, c6, c7⟩ := rg_R (rg_kept encR_ok HR.out HKr.out) hx
      have zs := zeroRv wr
      have HA1 := hid (at_new wr #[.string x.key, .int .u64 x.s.p, .int .u32 x.s.l, .int .u8 x.s.n, .int .u8 x.kind, .int .u32 x.flags, .int .u64 x.exp, .string x.body] 41)
      have HK1 := hid (kept_alloc HKr.out (.cells #[.string x.key, .int .u64 x.s.p, .int .u32 x.s.l, .int .u8 x.s.n, .int .u8 x.kind, .int .u32 x.flags, .int .u64 x.exp, .string x.body] 41))
      have HO1 := hid (og_stays HO.out (kept_alloc (kept_refl wr) (.cells #[.string x.key, .int .u64 x.s.p, .int .u32 x.s.l, .int .u8 x.s.n, .int .u8 x.kind, .int .u32 x.flags, .int .u64 x.exp, .string x.body] 41)))
      have HM1 := hid (gm_kept HM.out (kept_alloc (kept_refl wr) (.cells #[.string x.key, .int .u64 x.s.p, .int .u32 x.s.l, .int .u8 x.s.n, .int .u8 x.kind, .int .u32 x.flags, .int .u64 x.exp, .string x.body] 41)))
      clear hx HO HM
      go_wp2_with fail
      clear c0 c1 c2 c3 c4 c5 c6 c7 zs
      generalize wr.alloc (.cells #[.string x.key, .int .u64 x.s.p, .int .u32 x.s.l, .int .u8 x.s.n, .int .u8 x.kind, .int .u32 x.flags, .int .u64 x.exp, .string x.body] 41) = w1 at *
      generalize wr.heap.size = X at *
      refine (seen_any x w1).mono ?_
      rintro e w2 ⟨rfl, k2⟩
      have HA2 := hid (at_kept HA1.out k2)
      have HK2 := hid (kept_trans HK1.out k2)
      have HO2 := hid (og_stays HO1.out k2)
      have HM2 := hid (gm_kept HM1.out k2)
      clear k2 HK1 HO1 HM1 HA1
      have hC := lacks_any m c _ (seen x) (by have := HXs.out.1; show x.key.size ≤ maxLen; unfold maxLen; omega) w2 HM2.out
      rw [lack_cov] at hC
      go_wp2_with fail
      refine hC.mono ?_
      rintro e w3 ⟨rfl, k3⟩
      have HA3 := hid (at_kept HA2.out k3)
      have HK3 := hid (kept_trans HK2.out k3)
      have HO3 := hid (og_stays HO2.out k3)
      have HM3 := hid (gm_kept HM2.out k3)
      clear k3 HK2 HO2 HM2 HA2 hC
      cases hc : cov t (seen x) with
      | true =>
        rw [hc, if_pos rfl, List.append_nil] at HNx
        simp only [Bool.not_true]
        go_wp2_with fail
        go_roundw
        case rel => exact ⟨k + 1, by omega, by go_num, hid (by rw [HNx.out]; exact HO3.out), HM3, HK3⟩
        case measure => simp [intOf]; omega
      | false =>
        rw [hc, if_neg (by simp)] at HNx
        simp only [Bool.not_false]
        obtain ⟨x0, x1, x2, x3, x4, x5, x6, x7, -⟩ := at_cells8 HA3.out
        go_wp2_with fail
        clear x0 x1 x2 x3 x4 x5 x6 x7
        refine (fresh_any x (by have := HXs.out.1; omega) (by have := HXs.out.2; omega) w3).mono ?_
        rintro e w4 ⟨rfl, k4⟩
        have HK4 := hid (kept_trans HK3.out k4)
        have HO4 := hid (og_stays HO3.out k4)
        have HM4 := hid (gm_kept HM3.out k4)
        clear k4 HK3 HO3 HM3 HA3
        have HKa := hid (kept_alloc HK4.out (.cells #[.string x.key, .int .u64 x.s.p, .int .u32 x.s.l, .int .u8 x.s.n, .int .u8 x.kind, .int .u32 x.flags, .int .u64 x.exp, .string x.body] 41))
        have HOa := hid (og_stays HO4.out (kept_alloc (kept_refl w4) (.cells #[.string x.key, .int .u64 x.s.p, .int .u32 x.s.l, .int .u8 x.s.n, .int .u8 x.kind, .int .u32 x.flags, .int .u64 x.exp, .string x.body] 41)))
        have HMa := hid (gm_kept HM4.out (kept_alloc (kept_refl w4) (.cells #[.string x.key, .int .u64 x.s.p, .int .u32 x.s.l, .int .u8 x.s.n, .int .u8 x.kind, .int .u32 x.flags, .int .u64 x.exp, .string x.body] 41)))
        have HAl := hid (rg_alone encR_ok (y := x) (at_new w4 #[.string x.key, .int .u64 x.s.p, .int .u32 x.s.l, .int .u8 x.s.n, .int .u8 x.kind, .int .u32 x.flags, .int .u64 x.exp, .string x.body] 41))
        have HBw : Hid (B0 ≤ (w4.alloc (.cells #[.string x.key, .int .u64 x.s.p, .int .u32 x.s.l, .int .u8 x.s.n, .int .u8 x.kind, .int .u32 x.flags, .int .u64 x.exp, .string x.body] 41)).heap.size) := hid (by have := HKa.out.2; have := HB0.out; omega)
        go_wp2_with (at_builtin; go_must (refine wpList_gapp rfl (.tmp 21) (.tmp 24) rfl encR_ok tyR (by decide) B0 _ _ _ _ rfl HOa.out rfl HAl.out (by have := HLt.out k; simp; omega) HBw.out ?_; intro v5 w5 hown5 hgrow5 hnil5))
        have HO5 : Hid (Og encR 8 41 w5 B0 v5 (push (l.take (k + 1)) t)) := hid (by rw [HNx.out]; exact hown5)
        have HM5 := hid (gm_row HMa.out HOa.out hgrow5)
        have HK5 := hid (kept_gr HKa.out hgrow5 (fun j hj => by have := og_lt HOa.out hj; have := HB0.out; omega))
        go_roundw
        case rel => exact ⟨k + 1, by omega, by go_num, HO5, HM5, HK5⟩
        case measure => simp [intOf]; omega
    · have he : k = n := by omega
      subst he
      rw [HT.out] at HO
      go_wp2_with fail
      go_ret
      exact HEnd.out _ _ _ HO.out HKr.out
end Go.Proofs.Ytgfmmipbadnhgaa
