/- CountPlays over whatever answers as the counts must: for any names and any row of calls. -/
import Derived.Test.YtibidhmahjbciaaCtLaw2
namespace Go.Proofs.Ytibidhmahjbciaa
open Go.ChangeShapes Go.WideShapes Go.ChangeAt Go.RowKit
set_option linter.unusedVariables false
set_option linter.unusedSimpArgs false
set_option maxRecDepth 100000

/- What stands between two calls: the counts, and the row of the reference beside them. -/
structure Pl (T : Shape (List Ct)) (W : World) (X : Nat) (names : List ByteArray) (L : List Ct) (F : Nat → Prop) (mv : Value) (w : World) : Prop where
  t : TT T W X L F w
  r : Og encC 2 46 w W.heap.size mv L
  a : ∀ g, mv.ownBlock = some g → ¬ F g
  s : LsOk L
  n : L.map (·.name) = names
section
variable {T : Shape (List Ct)} {W w w1 w2 w3 : World} {X : Nat} {names : List ByteArray} {L : List Ct} {F F' : Nat → Prop} {mv v' : Value}
theorem pl_kept (hT : CtIs T) (h : Pl T W X names L F mv w) (k : Kept w w1) : Pl T W X names L F mv w1 := ⟨tt_kept hT.obj h.t k, og_stays h.r k, h.a, h.s, h.n⟩
theorem pl_add (hT : CtIs T) (h : Pl T W X names L F mv w) (k : Kept w w1) {q : ByteArray} {n : Int} (hn : inU64 n) (ho : Og encC 2 46 w1 w.heap.size v' (addC L q n)) (ht : TT T W X (addC L q n) F' w2) (d : Sd F w1 F' w2) : Pl T W X names (addC L q n) F' v' w2 := by
  have ap : ∀ g, v'.ownBlock = some g → ¬ F g := apart_new hT.obj h.t.t ho (Nat.le_refl _)
  exact ⟨ht, og_low (og_sd ho ap d) h.t.k.2, apart_sd ho ap d, add_lsok h.s q hn, (add_names L q n).trans h.n⟩
theorem pl_rest (hT : CtIs T) (h : Pl T W X names L F mv w) (ht : TT T W X (restC L) F' w1) (ho : Og encC 2 46 w2 w1.heap.size v' (newC names)) (k : Kept w1 w2) : Pl T W X names (restC L) F' v' w2 := by
  have e := rest_new h.n
  have ap : ∀ g, v'.ownBlock = some g → ¬ F' g := apart_new hT.obj ht.t ho (Nat.le_refl _)
  refine ⟨tt_kept hT.obj ht k, ?_, ap, rest_lsok h.s, ?_⟩
  · rw [e]
    exact og_low ho ht.k.2
  · rw [e]
    exact new_names names
end
theorem zeroO (w : World) : (zeroValue 34).run Try.prog w = .ok (.agg #[.bool false, .string ⟨#[]⟩, .int .u64 0]) w := by kernel_rfl
theorem cells3 {w : World} {X T : Nat} {a0 a1 a2 : Value} (h : At w X #[a0, a1, a2] T) : w.cell? ⟨X, 0, none⟩ = some a0 ∧ w.cell? ⟨X, 1, none⟩ = some a1 ∧ w.cell? ⟨X, 2, none⟩ = some a2 := ⟨at_cell h 0, at_cell h 1, at_cell h 2⟩
set_option maxHeartbeats 12800000 in
theorem law1_any {T : Shape (List Ct)} (hT : CtIs T) (names : List ByteArray) (l : List Opn) (hns : ∀ x ∈ names, QOk x) (hl : ∀ x ∈ l, inU64 x.n ∧ TxOk x.name) (vn v : Value) (w : World) (hq : Rg encK 1 w vn names) (h : Rg encO 3 w v l) : Calls Try.prog 3 #[vn, v] w fun e w' => e = .returned (.bool true) ∧ Kept w w' := by
  have HT := hid hT
  have HF := hid (fun u : World => fixed_any hT u)
  have HQ := hid hq
  have HR := hid h
  have hN := hT.new names vn w hns hq
  obtain ⟨na, ncap, rfl, hn1, hn2, -, -⟩ := hq
  obtain ⟨a, cap, rfl, hc1, hc2, -, -⟩ := h
  have HG : Hid (∀ k, k < l.length → ∃ y, l[k]? = some y ∧ inU64 y.n ∧ TxOk y.name) := hid (fun k hk => ⟨l[k], List.getElem?_eq_getElem hk, hl _ (List.getElem_mem hk)⟩)
  have HP : Hid (0 < l.length → ∃ g o, a = some ⟨g, o, none⟩) := hid (fun hp => by
    obtain ⟨g, o, c, e⟩ := rg_pos HR.out hp
    injection e with e1
    exact ⟨g, o, e1⟩)
  have hmx : l.length ≤ maxLen := by omega
  have hnx : names.length ≤ maxLen := by omega
  unfold maxLen at hmx hnx
  have hz := zeroO
  clear hT hl hns hc1 hc2 hn1 hn2
  generalize hm : l.length = m at *
  generalize hq9 : names.length = nl at *
  have HQl := hid hq9
  clear hm hq9
  by_cases hbig : 200 < nl
  · have hd : decide ((200 : Int) < (nl : Int)) = true := by simp; omega
    have hF := HF.out w
    go_enter Try.func3, Try.ntmps3
    go_wp2_with fail
    refine hF.mono ?_
    rintro e w1 ⟨rfl, k1⟩
    have HK := hid k1
    clear k1 hF
    go_wp2_with fail
    go_ret
    exact ⟨rfl, HK.out⟩
  have hd : decide ((200 : Int) < (nl : Int)) = false := by simp; omega
  go_enter Try.func3, Try.ntmps3
  go_wp2_with fail
  refine hN.mono ?_
  rintro e w1 (⟨hmay, X, F, rfl, t1, k1, f1⟩ | ⟨hmay, rfl, k1⟩)
  · have HMay := hid hmay
    have HT1 : Hid (TT T w X (newC names) F w1) := hid ⟨t1, k1, f1⟩
    have hR := rnew_any names _ w1 (rg_kept encK_ok HQ.out k1)
    clear hN t1 k1 f1 hmay
    go_wp2_with fail
    refine hR.mono ?_
    rintro e w2 ⟨mv, b, rfl, hb, ho, k2⟩
    obtain rfl : b = true := hb.2 HMay.out
    have ho2 := ho rfl
    have HPl : Hid (Pl T w X names (newC names) F mv w2) := hid ⟨tt_kept HT.out.obj HT1.out k2, og_low ho2 HT1.out.k.2, apart_new HT.out.obj HT1.out.t ho2 (Nat.le_refl _), new_lsok HMay.out, new_names names⟩
    have hF := HF.out w2
    clear hb ho k2 hR ho2 HT1
    go_wp2_with fail
    refine hF.mono ?_
    rintro e w3 ⟨rfl, k3⟩
    have HPl3 := hid (pl_kept HT.out HPl.out k3)
    clear HPl k3 hF
    go_wp2_with fail
    go_loopw [7, 46] (fun mv j wr => ∃ (k : Nat) (L : List Ct) (F : Nat → Prop), k ≤ m ∧ j = .int .i64 (k : Int) ∧ Hid (Pl T w X names L F mv wr)) (fun _ j _ => m - (intOf j).toNat)
    case atStart => exact ⟨0, _, F, Nat.zero_le _, rfl, HPl3⟩
    case round =>
      obtain ⟨k, L, F3, hk, rfl, HPr⟩ := hrel
      clear HPl3
      by_cases hlt : k < m
      · obtain ⟨x, hx, hx2⟩ := HG.out k hlt
        obtain ⟨g, o, rfl⟩ := HP.out (by omega)
        have HX := hid hx2
        obtain ⟨c0, c1, c2⟩ := rg_O (rg_kept encO_ok HR.out HPr.out.t.k) hx
        have HZ := hid (at_new wr #[.bool x.reset, .string x.name, .int .u64 x.n] 34)
        have ka := kept_alloc (kept_refl wr) (.cells #[.bool x.reset, .string x.name, .int .u64 x.n] 34)
        have HPa := hid (pl_kept HT.out HPr.out ka)
        have HOff : Hid (Off (wr.alloc (.cells #[.bool x.reset, .string x.name, .int .u64 x.n] 34)) F3 wr.heap.size) := hid (off_new HT.out.obj HPr.out.t (Nat.le_refl _) (at_lt HZ.out))
        clear hx hx2 ka HPr
        go_upto_region 12 with fail
        generalize wr.alloc (.cells #[.bool x.reset, .string x.name, .int .u64 x.n] 34) = wa at *
        generalize wr.heap.size = Zo at *
        clear c0 c1 c2
        obtain ⟨z0, z1, z2⟩ := cells3 HZ.out
        by_cases h200 : 200 < k
        · have hd2 : decide ((200 : Int) < (k : Int)) = true := by simp; omega
          have hA := ct_all HT.out HPa.out.t HPa.out.s
          go_wp2_with fail
          refine hA.mono ?_
          rintro e w4 ⟨r, rfl, o4, t4, k4⟩
          have hS := rsame_any L _ _ w4 (rg_own encC_ok o4) (rg_own encC_ok (og_stays HPa.out.r k4))
          have HK4 := hid t4.k
          clear hA o4 t4 k4
          go_wp2_with fail
          refine hS.mono ?_
          rintro e w5 ⟨rfl, k5⟩
          have HK5 := hid (kept_trans HK4.out k5)
          clear k5 hS
          go_wp2_with fail
          go_ret
          exact ⟨rfl, HK5.out⟩
        · have hd2 : decide ((200 : Int) < (k : Int)) = false := by simp; omega
          cases hre : x.reset with
          | true =>
            rw [hre] at z0
            have hA := ct_reset HT.out HPa.out.t HPa.out.s
            go_upto_region 14 with fail
            clear z0
            go_wp2_with fail
            refine hA.mono ?_
            rintro e w4 ⟨r, F4, rfl, o4, a4, t4, d4⟩
            have hS := rsame_any L _ _ w4 (rg_own encC_ok o4) (rg_own encC_ok (og_sd HPa.out.r HPa.out.a d4))
            have HT4 : Hid (TT T w X (restC L) F4 w4) := hid t4
            have HZ4 := hid (at_sd HZ.out HOff.out d4)
            clear hA o4 a4 t4 d4
            go_wp2_with fail
            refine hS.mono ?_
            rintro e w5 ⟨rfl, k5⟩
            have HT5 := hid (tt_kept HT.out.obj HT4.out k5)
            have HZ5 := hid (at_kept HZ4.out k5)
            have hNw := rnew_any names _ w5 (rg_kept encK_ok HQ.out HT5.out.k)
            clear hS k5 HT4 HZ4
            go_wp2_with fail
            refine hNw.mono ?_
            rintro e w6 ⟨v6, b, rfl, hb, ho, k6⟩
            obtain rfl : b = true := hb.2 HMay.out
            have HPl6 := hid (pl_rest HT.out HPa.out HT5.out (ho rfl) k6)
            have HZ6 := hid (at_kept HZ5.out k6)
            clear hb ho k6 hNw HT5 HZ5 HPa HZ HOff
            go_upto_region 21 with fail
            generalize restC L = L6 at HPl6
            have HPd := hid (pl_kept HT.out HPl6.out (kept_drew (kept_refl w6)))
            have HZd := hid (at_kept HZ6.out (kept_drew (kept_refl w6)))
            have hGet := ct_get HT.out HPd.out.t HPd.out.s x.name HX.out.2
            have hS := (cells3 HZd.out).2.1
            have hgg : (getC L6 x.name != getC L6 x.name) = false := by simp
            clear HPl6 HZ6
            refine wp_region_noPanic ?_
            refine wp_region_held_drew (S := (fun w' => (w'.cell? ⟨Zo, 1, none⟩ = some (.string x.name)))) (by kernel_rfl) (hS) (fun hHeld => ?_)
            generalize w6.drew = wd at *
            refine wpAnyH_take (i := 0) (v := .pointer (some ⟨X, 0, none⟩)) rfl (by kernel_rfl) (by kernel_rfl) (by kernel_rfl) (fun _ _ _ h => h) (Or.inl ⟨by rfl, fun w hSw => by (try dsimp only at hSw); go_simp⟩) (by assumption) ?_
            try simp only [List.getElem_toArray, List.getElem_cons_zero, List.getElem_cons_succ, Act.put, List.setIfInBounds_toArray, List.set_cons_zero, List.set_cons_succ]
            refine wpAnyH_take (i := 1) (v := .pointer (some ⟨Zo, 1, none⟩)) rfl (by kernel_rfl) (by kernel_rfl) (by kernel_rfl) (fun _ _ _ h => h) (Or.inl ⟨by rfl, fun w hSw => by (try dsimp only at hSw); go_simp⟩) (by assumption) ?_
            try simp only [List.getElem_toArray, List.getElem_cons_zero, List.getElem_cons_succ, Act.put, List.setIfInBounds_toArray, List.set_cons_zero, List.set_cons_succ]
            refine wpAnyH_take (i := 2) (v := .string x.name) rfl (by kernel_rfl) (by kernel_rfl) (by kernel_rfl) (fun _ _ _ h => h) (Or.inl ⟨by rfl, fun w hSw => by (try dsimp only at hSw); go_simp⟩) (by assumption) ?_
            try simp only [List.getElem_toArray, List.getElem_cons_zero, List.getElem_cons_succ, Act.put, List.setIfInBounds_toArray, List.set_cons_zero, List.set_cons_succ]
            refine wpAnyH_take (i := 4) (v := v6) rfl (by kernel_rfl) (by kernel_rfl) (by kernel_rfl) (fun _ _ _ h => h) (Or.inl ⟨by rfl, fun w hSw => by (try dsimp only at hSw); go_simp⟩) (by assumption) ?_
            try simp only [List.getElem_toArray, List.getElem_cons_zero, List.getElem_cons_succ, Act.put, List.setIfInBounds_toArray, List.set_cons_zero, List.set_cons_succ]
            refine wpAnyH_take (i := 5) (v := .pointer (some ⟨Zo, 1, none⟩)) rfl (by kernel_rfl) (by kernel_rfl) (by kernel_rfl) (fun _ _ _ h => h) (Or.inl ⟨by rfl, fun w hSw => by (try dsimp only at hSw); go_simp⟩) (by assumption) ?_
            try simp only [List.getElem_toArray, List.getElem_cons_zero, List.getElem_cons_succ, Act.put, List.setIfInBounds_toArray, List.set_cons_zero, List.set_cons_succ]
            refine wpAnyH_take (i := 6) (v := .string x.name) rfl (by kernel_rfl) (by kernel_rfl) (by kernel_rfl) (fun _ _ _ h => h) (Or.inl ⟨by rfl, fun w hSw => by (try dsimp only at hSw); go_simp⟩) (by assumption) ?_
            try simp only [List.getElem_toArray, List.getElem_cons_zero, List.getElem_cons_succ, Act.put, List.setIfInBounds_toArray, List.set_cons_zero, List.set_cons_succ]
            refine wpAnyH_ready (rs := [3]) (by kernel_rfl) (by simp) ?_
            refine AllReadyH.cons (i := 3) rfl (fun K hK => ?_) AllReadyH.nil
            go_simp
            refine (hGet).mono ?_
            rintro e w8 ⟨rfl, t8, k8⟩
            have HP8 := hid (pl_kept HT.out HPd.out k8)
            have HZ8 := hid (at_kept HZd.out k8)
            have hS := (cells3 HZ8.out).2.1
            have hRef := rget_any L6 x.name _ w8 (rg_own encC_ok HP8.out.r)
            clear t8 k8 hGet HPd HZd
            clear hHeld
            show K _ _
            refine hK.out _ _ (hS) (fun hHeld => ?_)
            clear hK K
            try simp only [List.getElem_toArray, List.getElem_cons_zero, List.getElem_cons_succ, Act.put, List.setIfInBounds_toArray, List.set_cons_zero, List.set_cons_succ]
            refine wpAnyH_ready (rs := [7]) (by kernel_rfl) (by simp) ?_
            refine AllReadyH.cons (i := 7) rfl (fun K hK => ?_) AllReadyH.nil
            go_simp
            refine (hRef).mono ?_
            rintro e w9 ⟨rfl, k9⟩
            have HP9 := hid (pl_kept HT.out HP8.out k9)
            have HZ9 := hid (at_kept HZ8.out k9)
            have hS := (cells3 HZ9.out).2.1
            clear k9 hRef HP8 HZ8
            clear hHeld
            show K _ _
            refine hK.out _ _ (hS) (fun hHeld => ?_)
            clear hK K
            try simp only [List.getElem_toArray, List.getElem_cons_zero, List.getElem_cons_succ, Act.put, List.setIfInBounds_toArray, List.set_cons_zero, List.set_cons_succ]
            refine wpAnyH_take (i := 8) (v := .bool false) rfl (by kernel_rfl) (by kernel_rfl) (by kernel_rfl) (fun _ _ _ h => h) (Or.inl ⟨by rfl, fun w hSw => by (try dsimp only at hSw); go_simp⟩) (by assumption) ?_
            try simp only [List.getElem_toArray, List.getElem_cons_zero, List.getElem_cons_succ, Act.put, List.setIfInBounds_toArray, List.set_cons_zero, List.set_cons_succ]
            refine wpAnyH_done (by kernel_rfl) ?_ _
            refine NoPanic.normal ?_
            clear hHeld hS
            go_wp2_with fail
            go_roundw
            case rel => exact ⟨k + 1, _, _, by omega, by go_num, HP9⟩
            case measure => simp [intOf]; omega
          | false =>
            rw [hre] at z0
            have hA := radd_any L HPa.out.s.1 HPa.out.s.2 x.name x.n HX.out.1 _ wa (rg_own encC_ok HPa.out.r)
            go_wp2_with fail
            refine hA.mono ?_
            rintro e w4 ⟨v6, rfl, o4, k4⟩
            have hB := ct_add HT.out (tt_kept HT.out.obj HPa.out.t k4) HPa.out.s x.name HX.out.2 HX.out.1
            obtain ⟨y0, y1, y2⟩ := cells3 (at_kept HZ.out k4)
            have HO4 := hid o4
            have HK4 := hid k4
            have hne : (hasC L x.name != hasC L x.name) = false := by simp
            clear hA o4 k4 z0 z1 z2
            generalize hasC L x.name = hb at *
            go_wp2_with fail
            refine hB.mono ?_
            rintro e w6 ⟨F5, rfl, t5, d5⟩
            have HPl6 := hid (pl_add HT.out HPa.out HK4.out HX.out.1 HO4.out t5 d5)
            have HZ6 := hid (at_sd (at_kept HZ.out HK4.out) (off_kept HOff.out HK4.out) d5)
            clear hB t5 d5 HO4 HK4 HPa HZ HOff y0 y1 y2
            go_upto_region 21 with fail
            generalize addC L x.name x.n = L6 at HPl6
            have HPd := hid (pl_kept HT.out HPl6.out (kept_drew (kept_refl w6)))
            have HZd := hid (at_kept HZ6.out (kept_drew (kept_refl w6)))
            have hGet := ct_get HT.out HPd.out.t HPd.out.s x.name HX.out.2
            have hS := (cells3 HZd.out).2.1
            have hgg : (getC L6 x.name != getC L6 x.name) = false := by simp
            clear HPl6 HZ6
            refine wp_region_noPanic ?_
            refine wp_region_held_drew (S := (fun w' => (w'.cell? ⟨Zo, 1, none⟩ = some (.string x.name)))) (by kernel_rfl) (hS) (fun hHeld => ?_)
            generalize w6.drew = wd at *
            refine wpAnyH_take (i := 0) (v := .pointer (some ⟨X, 0, none⟩)) rfl (by kernel_rfl) (by kernel_rfl) (by kernel_rfl) (fun _ _ _ h => h) (Or.inl ⟨by rfl, fun w hSw => by (try dsimp only at hSw); go_simp⟩) (by assumption) ?_
            try simp only [List.getElem_toArray, List.getElem_cons_zero, List.getElem_cons_succ, Act.put, List.setIfInBounds_toArray, List.set_cons_zero, List.set_cons_succ]
            refine wpAnyH_take (i := 1) (v := .pointer (some ⟨Zo, 1, none⟩)) rfl (by kernel_rfl) (by kernel_rfl) (by kernel_rfl) (fun _ _ _ h => h) (Or.inl ⟨by rfl, fun w hSw => by (try dsimp only at hSw); go_simp⟩) (by assumption) ?_
            try simp only [List.getElem_toArray, List.getElem_cons_zero, List.getElem_cons_succ, Act.put, List.setIfInBounds_toArray, List.set_cons_zero, List.set_cons_succ]
            refine wpAnyH_take (i := 2) (v := .string x.name) rfl (by kernel_rfl) (by kernel_rfl) (by kernel_rfl) (fun _ _ _ h => h) (Or.inl ⟨by rfl, fun w hSw => by (try dsimp only at hSw); go_simp⟩) (by assumption) ?_
            try simp only [List.getElem_toArray, List.getElem_cons_zero, List.getElem_cons_succ, Act.put, List.setIfInBounds_toArray, List.set_cons_zero, List.set_cons_succ]
            refine wpAnyH_take (i := 4) (v := v6) rfl (by kernel_rfl) (by kernel_rfl) (by kernel_rfl) (fun _ _ _ h => h) (Or.inl ⟨by rfl, fun w hSw => by (try dsimp only at hSw); go_simp⟩) (by assumption) ?_
            try simp only [List.getElem_toArray, List.getElem_cons_zero, List.getElem_cons_succ, Act.put, List.setIfInBounds_toArray, List.set_cons_zero, List.set_cons_succ]
            refine wpAnyH_take (i := 5) (v := .pointer (some ⟨Zo, 1, none⟩)) rfl (by kernel_rfl) (by kernel_rfl) (by kernel_rfl) (fun _ _ _ h => h) (Or.inl ⟨by rfl, fun w hSw => by (try dsimp only at hSw); go_simp⟩) (by assumption) ?_
            try simp only [List.getElem_toArray, List.getElem_cons_zero, List.getElem_cons_succ, Act.put, List.setIfInBounds_toArray, List.set_cons_zero, List.set_cons_succ]
            refine wpAnyH_take (i := 6) (v := .string x.name) rfl (by kernel_rfl) (by kernel_rfl) (by kernel_rfl) (fun _ _ _ h => h) (Or.inl ⟨by rfl, fun w hSw => by (try dsimp only at hSw); go_simp⟩) (by assumption) ?_
            try simp only [List.getElem_toArray, List.getElem_cons_zero, List.getElem_cons_succ, Act.put, List.setIfInBounds_toArray, List.set_cons_zero, List.set_cons_succ]
            refine wpAnyH_ready (rs := [3]) (by kernel_rfl) (by simp) ?_
            refine AllReadyH.cons (i := 3) rfl (fun K hK => ?_) AllReadyH.nil
            go_simp
            refine (hGet).mono ?_
            rintro e w8 ⟨rfl, t8, k8⟩
            have HP8 := hid (pl_kept HT.out HPd.out k8)
            have HZ8 := hid (at_kept HZd.out k8)
            have hS := (cells3 HZ8.out).2.1
            have hRef := rget_any L6 x.name _ w8 (rg_own encC_ok HP8.out.r)
            clear t8 k8 hGet HPd HZd
            clear hHeld
            show K _ _
            refine hK.out _ _ (hS) (fun hHeld => ?_)
            clear hK K
            try simp only [List.getElem_toArray, List.getElem_cons_zero, List.getElem_cons_succ, Act.put, List.setIfInBounds_toArray, List.set_cons_zero, List.set_cons_succ]
            refine wpAnyH_ready (rs := [7]) (by kernel_rfl) (by simp) ?_
            refine AllReadyH.cons (i := 7) rfl (fun K hK => ?_) AllReadyH.nil
            go_simp
            refine (hRef).mono ?_
            rintro e w9 ⟨rfl, k9⟩
            have HP9 := hid (pl_kept HT.out HP8.out k9)
            have HZ9 := hid (at_kept HZ8.out k9)
            have hS := (cells3 HZ9.out).2.1
            clear k9 hRef HP8 HZ8
            clear hHeld
            show K _ _
            refine hK.out _ _ (hS) (fun hHeld => ?_)
            clear hK K
            try simp only [List.getElem_toArray, List.getElem_cons_zero, List.getElem_cons_succ, Act.put, List.setIfInBounds_toArray, List.set_cons_zero, List.set_cons_succ]
            refine wpAnyH_take (i := 8) (v := .bool false) rfl (by kernel_rfl) (by kernel_rfl) (by kernel_rfl) (fun _ _ _ h => h) (Or.inl ⟨by rfl, fun w hSw => by (try dsimp only at hSw); go_simp⟩) (by assumption) ?_
            try simp only [List.getElem_toArray, List.getElem_cons_zero, List.getElem_cons_succ, Act.put, List.setIfInBounds_toArray, List.set_cons_zero, List.set_cons_succ]
            refine wpAnyH_done (by kernel_rfl) ?_ _
            refine NoPanic.normal ?_
            clear hHeld hS
            go_wp2_with fail
            go_roundw
            case rel => exact ⟨k + 1, _, _, by omega, by go_num, HP9⟩
            case measure => simp [intOf]; omega
      · have he : k = m := by omega
        subst he
        have hA := ct_all HT.out HPr.out.t HPr.out.s
        go_wp2_with fail
        refine hA.mono ?_
        rintro e w4 ⟨r, rfl, o4, t4, k4⟩
        have hS := rsame_any L _ _ w4 (rg_own encC_ok o4) (rg_own encC_ok (og_stays HPr.out.r k4))
        have HK4 := hid t4.k
        clear hA o4 t4 k4
        go_wp2_with fail
        refine hS.mono ?_
        rintro e w5 ⟨rfl, k5⟩
        have HK5 := hid (kept_trans HK4.out k5)
        clear k5 hS
        go_wp2_with fail
        go_ret
        exact ⟨rfl, HK5.out⟩
  · have HMay := hid hmay
    have HK1 := hid k1
    have hR := rnew_any names _ w1 (rg_kept encK_ok HQ.out k1)
    clear hN k1 hmay
    go_wp2_with fail
    refine hR.mono ?_
    rintro e w2 ⟨mv, b, rfl, hb, -, k2⟩
    obtain rfl : b = false := by
      cases b with
      | false => rfl
      | true => exact absurd (hb.1 rfl) HMay.out
    have HK2 := hid (kept_trans HK1.out k2)
    have hF := HF.out w2
    clear hb k2 hR
    go_wp2_with fail
    refine hF.mono ?_
    rintro e w3 ⟨rfl, k3⟩
    have HK3 := hid (kept_trans HK2.out k3)
    clear k3 hF
    go_wp2_with fail
    go_ret
    exact ⟨rfl, HK3.out⟩
end Go.Proofs.Ytibidhmahjbciaa
