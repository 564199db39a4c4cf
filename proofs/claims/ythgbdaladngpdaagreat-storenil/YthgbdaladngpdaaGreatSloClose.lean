/- The contract of closeUp: behind a hole it moves what the plain function moves, and answers the last hole; it turns the table's row alone. -/
import Derived.Test.YthgbdaladngpdaaGreatSloSet
namespace Go.Proofs.YthgbdaladngpdaaGreat.Slo
open Go.ChangeShapes Go.WideShapes Go.ChangeAt Go.RowKit
set_option linter.unusedVariables false
set_option maxRecDepth 100000
set_option linter.unusedSimpArgs false

section
variable {w : World} {X R m most n : Nat} {L : Tb}
theorem tab_set3 (h : Tab w X R m most n L) {o : Nat} (ho : o < m) (s : Sl) : Tab (set3 w R (o * 3) (.bool s.taken) (.string s.key) (.int .i64 s.v)) X R m most n (upd L o s) :=
  ⟨set3_at h.1 (tab_ne h), row_set3 h.2 ho s⟩
theorem small_upd {L : Tb} {s : Sl} (h : ∀ i, (L i).key.size ≤ 1000) (hs : s.key.size ≤ 1000) (a : Nat) (i : Nat) : (upd L a s i).key.size ≤ 1000 := by
  unfold upd; split
  · exact hs
  · exact h i
theorem cells_move {o a : Nat} {b0 b1 b2 : Value} (h : Tab (set3 w R (o * 3) b0 b1 b2) X R m most n (upd L o (L a))) (ha : a < m) (hn : a ≠ o) :
    (set3 w R (o * 3) b0 b1 b2).cell? ⟨X, 0, none⟩ = some (.slice (some ⟨R, 0, none⟩) m m) ∧ (set3 w R (o * 3) b0 b1 b2).cell? ⟨R, a * 3, none⟩ = some (.bool (L a).taken) ∧ (set3 w R (o * 3) b0 b1 b2).cell? ⟨R, a * 3 + 1, none⟩ = some (.string (L a).key) ∧ (set3 w R (o * 3) b0 b1 b2).cell? ⟨R, a * 3 + 2, none⟩ = some (.int .i64 (L a).v) := by
  obtain ⟨g0, g1, g2, _⟩ := row_cells h.2 ha
  rw [upd_ne _ _ hn] at g0 g1 g2
  exact ⟨(at_cells3 h.1).1, g0, g1, g2⟩
end
theorem cl_stop (h : ByteArray → Nat) (m f : Nat) (L : Tb) (o a : Nat) (t : (L a).taken = false) : cl h m f L o a = (L, o) := by
  cases f with
  | zero => rfl
  | succ f => unfold cl; rw [if_neg (by rw [t]; simp)]
theorem cl_on (h : ByteArray → Nat) (m f : Nat) (L : Tb) (o a : Nat) (t : (L a).taken = true) (w : way m o a ≤ way m (h (L a).key) a) : cl h m (f + 1) L o a = cl h m f (upd L o (L a)) a (nxt m a) := by
  rw [cl, if_pos t, if_pos w]
theorem cl_by (h : ByteArray → Nat) (m f : Nat) (L : Tb) (o a : Nat) (t : (L a).taken = true) (w : ¬ way m o a ≤ way m (h (L a).key) a) : cl h m (f + 1) L o a = cl h m f L o (nxt m a) := by
  rw [cl, if_pos t, if_neg w]
set_option maxHeartbeats 3200000 in
theorem close_any {X R m most n : Nat} {L : Tb} (p : Nat) (h4 : m ≤ 4096) (ok : Ok (hm m) m L) (fr : cnt L m < m) (t : (L p).taken = true) (sm : ∀ i, (L i).key.size ≤ 1000) (w : World) (h : Tab w X R m most n L) :
    Calls Tryz.prog 101 #[.pointer (some ⟨X, 0, none⟩), .int .i64 (p : Int)] w fun e w' => e = .returned (.int .i64 (((cl (hm m) m m L p (nxt m p)).2 : Nat) : Int)) ∧ Turns X R w w' ∧ Tab w' X R m most n (cl (hm m) m m L p (nxt m p)).1 ∧ ∀ i, ((cl (hm m) m m L p (nxt m p)).1 i).key.size ≤ 1000 := by
  obtain ⟨e, ce, he⟩ := cl_begin ok fr t
  have hp := ce.ho
  have h0 := ok.pos
  have HH := hid ok.home
  have HC := hid ce
  have HE := hid he
  have HT := hid h
  have HS := hid sm
  clear ok fr t sm h ce he
  generalize hF : cl (hm m) m m L p (nxt m p) = F at *
  have HF := hid hF
  clear hF
  go_enter Tryz.func101, Tryz.ntmps101
  go_wp2_with fail
  refine (behind_any p hp h4 _ HT.out).mono ?_
  rintro e1 w1 ⟨rfl, rfl⟩
  go_wp2_with fail
  go_loopw [1, 5] (fun i j wr => ∃ (f o a : Nat) (L2 : Tb), i = .int .i64 (o : Int) ∧ j = .int .i64 (a : Int) ∧ o < m ∧ a < m ∧ Hid (Cl (hm m) m L2 o a e) ∧ Hid (way m a e ≤ f) ∧ Hid (cl (hm m) m f L2 o a = F) ∧ Hid (Turns X R w1 wr) ∧ Hid (Tab wr X R m most n L2) ∧ Hid (∀ i, (L2 i).key.size ≤ 1000)) (fun _ j _ => way m (intOf j).toNat e)
  case atStart => exact ⟨m, p, nxt m p, L, rfl, rfl, hp, HC.out.ha, HC, HE, HF, turns_refl, HT, HS⟩
  case round =>
    obtain ⟨f, o, a, L2, rfl, rfl, ho, ha, HCl, HW, HFe, HTu, HTb, HSm⟩ := hrel
    clear HC HE HT HS HF
    obtain ⟨c0, c1, c2, fr⟩ := at_cells3 HTb.out.1
    obtain ⟨r0, r1, r2, rf⟩ := row_cells HTb.out.2 ha
    cases t : (L2 a).taken with
    | false =>
      rw [t] at r0
      have HR := hid ((cl_stop (hm m) m f L2 o a t).symm.trans HFe.out)
      clear t
      go_wp2_with fail
      go_ret
      rw [← HR.out]
      exact ⟨rfl, HTu.out, HTb.out, HSm.out⟩
    | true =>
      rw [t] at r0
      have hks : (L2 a).key.size ≤ maxLen := by have := HSm.out a; unfold maxLen; omega
      have HD := hid t
      have hf : ∃ f2, f = f2 + 1 := by
        have h1 := cl_free HCl.out t
        have h2 := HW.out
        cases f with
        | zero => exact absurd (way_inj HCl.out.ha HCl.out.ha HCl.out.he (by rw [way_self]; omega)) h1
        | succ f => exact ⟨f, rfl⟩
      obtain ⟨f2, rfl⟩ := hf
      clear t
      go_wp2_with fail
      refine (home_any (L2 a).key hks h0 h4 _ HTb.out).mono ?_
      rintro e1 w2 ⟨rfl, k2⟩
      go_wp2_with fail
      refine (way_any (hm m (L2 a).key) a (HH.out _) ha h4 _ (tab_kept HTb.out k2)).mono ?_
      rintro e1 w3 ⟨rfl, k3⟩
      go_wp2_with fail
      refine (way_any o a ho ha h4 _ (tab_kept HTb.out (kept_trans k2 k3))).mono ?_
      rintro e1 w4 ⟨rfl, k4⟩
      have HT3 := hid (tab_kept HTb.out (kept_trans (kept_trans k2 k3) k4))
      have HU3 := hid (turns_trans HTu.out (turns_kept (kept_trans (kept_trans k2 k3) k4)))
      clear k2 k3 k4 HTu HTb c0 c1 c2 fr r0 r1 r2 rf
      by_cases hw : way m o a ≤ way m (hm m (L2 a).key) a
      · obtain ⟨c5, hd⟩ := cl_move HH.out HCl.out HD.out hw
        have HC5 := hid c5
        have HD5 := hid hd
        have HF5 := hid ((cl_on (hm m) m f2 L2 o a HD.out hw).symm.trans HFe.out)
        have hw2 : ((way m o a : Nat) : Int) ≤ ((way m (hm m (L2 a).key) a : Nat) : Int) := by omega
        have HN := hid HCl.out.nea
        clear hw c5 hd
        go_wp2_with fail
        have hS : w4.drew.cell? ⟨X, 0, none⟩ = some (.slice (some ⟨R, 0, none⟩) m m) ∧ w4.drew.cell? ⟨R, a * 3, none⟩ = some (.bool (L2 a).taken) ∧ w4.drew.cell? ⟨R, a * 3 + 1, none⟩ = some (.string (L2 a).key) ∧ w4.drew.cell? ⟨R, a * 3 + 2, none⟩ = some (.int .i64 (L2 a).v) := by
          obtain ⟨g0, g1, g2, _⟩ := row_cells HT3.out.2 ha
          exact ⟨(at_cells3 HT3.out.1).1, g0, g1, g2⟩
        replace HT3 := hid (tab_kept HT3.out (kept_drew (kept_refl _)))
        replace HU3 := hid (turns_drew HU3.out)
        have HT5 := hid (tab_set3 HT3.out ho (L2 a))
        have HU5 := hid (turns_set3 HU3.out (o * 3) (.bool (L2 a).taken) (.string (L2 a).key) (.int .i64 (L2 a).v))
        have HS4 := hid (cells_move HT5.out ha HN.out)
        unfold set3 at *
        refine wp_region_noPanic ?_
        refine wp_region_held_drew (S := (fun w' => w'.cell? ⟨X, 0, none⟩ = some (.slice (some ⟨R, 0, none⟩) m m) ∧ w'.cell? ⟨R, a * 3, none⟩ = some (.bool (L2 a).taken) ∧ w'.cell? ⟨R, a * 3 + 1, none⟩ = some (.string (L2 a).key) ∧ w'.cell? ⟨R, a * 3 + 2, none⟩ = some (.int .i64 (L2 a).v))) (by kernel_rfl) (by assumption) (fun hHeld => ?_)
        generalize w4.drew = w5 at *
        refine wpAnyH_take (i := 0) (v := .pointer (some ⟨X, 0, none⟩)) rfl (by kernel_rfl) (by kernel_rfl) (by kernel_rfl) (fun _ _ _ h => h) (Or.inl ⟨by rfl, fun w hSw => by (try dsimp only at hSw); go_simp⟩) (by assumption) ?_
        try simp only [List.getElem_toArray, List.getElem_cons_zero, List.getElem_cons_succ, Act.put, List.setIfInBounds_toArray, List.set_cons_zero, List.set_cons_succ]
        refine wpAnyH_take (i := 1) (v := .pointer (some ⟨X, 0, none⟩)) rfl (by kernel_rfl) (by kernel_rfl) (by kernel_rfl) (fun _ _ _ h => h) (Or.inl ⟨by rfl, fun w hSw => by (try dsimp only at hSw); go_simp⟩) (by assumption) ?_
        try simp only [List.getElem_toArray, List.getElem_cons_zero, List.getElem_cons_succ, Act.put, List.setIfInBounds_toArray, List.set_cons_zero, List.set_cons_succ]
        refine wpAnyH_take (i := 2) (v := .pointer (some ⟨X, 0, none⟩)) rfl (by kernel_rfl) (by kernel_rfl) (by kernel_rfl) (fun _ _ _ h => h) (Or.inl ⟨by rfl, fun w hSw => by (try dsimp only at hSw); go_simp⟩) (by assumption) ?_
        try simp only [List.getElem_toArray, List.getElem_cons_zero, List.getElem_cons_succ, Act.put, List.setIfInBounds_toArray, List.set_cons_zero, List.set_cons_succ]
        refine wpAnyH_take (i := 3) (v := .slice (some ⟨R, 0, none⟩) m m) rfl (by kernel_rfl) (by kernel_rfl) (by kernel_rfl) (fun _ _ _ h => h) (Or.inl ⟨by rfl, fun w hSw => by (try dsimp only at hSw); go_simp⟩) (by assumption) ?_
        try simp only [List.getElem_toArray, List.getElem_cons_zero, List.getElem_cons_succ, Act.put, List.setIfInBounds_toArray, List.set_cons_zero, List.set_cons_succ]
        refine wpAnyH_take (i := 4) (v := .int .i64 (o : Int)) rfl (by kernel_rfl) (by kernel_rfl) (by kernel_rfl) (fun _ _ _ h => h) (Or.inl ⟨by rfl, fun w hSw => by (try dsimp only at hSw); go_simp⟩) (by assumption) ?_
        try simp only [List.getElem_toArray, List.getElem_cons_zero, List.getElem_cons_succ, Act.put, List.setIfInBounds_toArray, List.set_cons_zero, List.set_cons_succ]
        refine wpAnyH_take (i := 5) (v := .pointer (some ⟨X, 0, none⟩)) rfl (by kernel_rfl) (by kernel_rfl) (by kernel_rfl) (fun _ _ _ h => h) (Or.inl ⟨by rfl, fun w hSw => by (try dsimp only at hSw); go_simp⟩) (by assumption) ?_
        try simp only [List.getElem_toArray, List.getElem_cons_zero, List.getElem_cons_succ, Act.put, List.setIfInBounds_toArray, List.set_cons_zero, List.set_cons_succ]
        refine wpAnyH_take (i := 6) (v := .pointer (some ⟨X, 0, none⟩)) rfl (by kernel_rfl) (by kernel_rfl) (by kernel_rfl) (fun _ _ _ h => h) (Or.inl ⟨by rfl, fun w hSw => by (try dsimp only at hSw); go_simp⟩) (by assumption) ?_
        try simp only [List.getElem_toArray, List.getElem_cons_zero, List.getElem_cons_succ, Act.put, List.setIfInBounds_toArray, List.set_cons_zero, List.set_cons_succ]
        refine wpAnyH_take (i := 7) (v := .pointer (some ⟨X, 0, none⟩)) rfl (by kernel_rfl) (by kernel_rfl) (by kernel_rfl) (fun _ _ _ h => h) (Or.inl ⟨by rfl, fun w hSw => by (try dsimp only at hSw); go_simp⟩) (by assumption) ?_
        try simp only [List.getElem_toArray, List.getElem_cons_zero, List.getElem_cons_succ, Act.put, List.setIfInBounds_toArray, List.set_cons_zero, List.set_cons_succ]
        refine wpAnyH_take (i := 8) (v := .slice (some ⟨R, 0, none⟩) m m) rfl (by kernel_rfl) (by kernel_rfl) (by kernel_rfl) (fun _ _ _ h => h) (Or.inl ⟨by rfl, fun w hSw => by (try dsimp only at hSw); go_simp⟩) (by assumption) ?_
        try simp only [List.getElem_toArray, List.getElem_cons_zero, List.getElem_cons_succ, Act.put, List.setIfInBounds_toArray, List.set_cons_zero, List.set_cons_succ]
        refine wpAnyH_take (i := 9) (v := .int .i64 (a : Int)) rfl (by kernel_rfl) (by kernel_rfl) (by kernel_rfl) (fun _ _ _ h => h) (Or.inl ⟨by rfl, fun w hSw => by (try dsimp only at hSw); go_simp⟩) (by assumption) ?_
        try simp only [List.getElem_toArray, List.getElem_cons_zero, List.getElem_cons_succ, Act.put, List.setIfInBounds_toArray, List.set_cons_zero, List.set_cons_succ]
        refine wpAnyH_take (i := 10) (v := .pointer (some ⟨R, a * 3, none⟩)) rfl (by kernel_rfl) (by kernel_rfl) (by kernel_rfl) (fun _ _ _ h => h) (Or.inl ⟨by rfl, fun w hSw => by (try dsimp only at hSw); go_simp⟩) (by assumption) ?_
        try simp only [List.getElem_toArray, List.getElem_cons_zero, List.getElem_cons_succ, Act.put, List.setIfInBounds_toArray, List.set_cons_zero, List.set_cons_succ]
        refine wpAnyH_take (i := 11) (v := .agg #[.bool (L2 a).taken, .string (L2 a).key, .int .i64 (L2 a).v]) rfl (by kernel_rfl) (by kernel_rfl) (by kernel_rfl) (fun _ _ _ h => h) (Or.inl ⟨by rfl, fun w hSw => by (try dsimp only at hSw); go_simp⟩) (by assumption) ?_
        try simp only [List.getElem_toArray, List.getElem_cons_zero, List.getElem_cons_succ, Act.put, List.setIfInBounds_toArray, List.set_cons_zero, List.set_cons_succ]
        refine wpAnyH_take (i := 12) (v := .pointer (some ⟨R, o * 3, none⟩)) rfl (by kernel_rfl) (by kernel_rfl) (by kernel_rfl) (fun _ _ _ h => h) (Or.inl ⟨by rfl, fun w hSw => by (try dsimp only at hSw); go_simp⟩) (by assumption) ?_
        try simp only [List.getElem_toArray, List.getElem_cons_zero, List.getElem_cons_succ, Act.put, List.setIfInBounds_toArray, List.set_cons_zero, List.set_cons_succ]
        refine wpAnyH_ready (rs := [13]) (by kernel_rfl) (by simp) ?_
        refine AllReadyH.cons (i := 13) rfl (fun K hK => ?_) AllReadyH.nil
        obtain ⟨o0, o1, o2, of⟩ := row_cells HT3.out.2 ho
        go_simp
        have hS := HS4.out
        clear hHeld
        show K _ _
        refine hK.out _ _ (by assumption) (fun hHeld => ?_)
        clear hK K
        try simp only [List.getElem_toArray, List.getElem_cons_zero, List.getElem_cons_succ, Act.put, List.setIfInBounds_toArray, List.set_cons_zero, List.set_cons_succ]
        refine wpAnyH_done (by kernel_rfl) ?_ _
        refine NoPanic.normal ?_
        clear hS HS4 o0 o1 o2 of hHeld
        generalize ((w5.setCell ⟨R, o * 3, none⟩ (.bool (L2 a).taken)).setCell ⟨R, o * 3 + 1, none⟩ (.string (L2 a).key)).setCell ⟨R, o * 3 + 2, none⟩ (.int .i64 (L2 a).v) = w6 at *
        go_wp2_with fail
        refine (behind_any a ha h4 _ HT5.out).mono ?_
        rintro e1 w7 ⟨rfl, rfl⟩
        go_wp2_with fail
        go_roundw
        case rel => exact ⟨f2, a, nxt m a, upd L2 o (L2 a), rfl, rfl, ha, HC5.out.ha, HC5, hid (by have := HD5.out; have := HW.out; omega), HF5, HU5, HT5, hid (small_upd HSm.out (HSm.out a) o)⟩
        case measure => have := HD5.out; simp [intOf]; omega
      · obtain ⟨c5, hd⟩ := cl_stay HH.out HCl.out HD.out hw
        have HC5 := hid c5
        have HD5 := hid hd
        have HF5 := hid ((cl_by (hm m) m f2 L2 o a HD.out hw).symm.trans HFe.out)
        have hw2 : ¬ ((way m o a : Nat) : Int) ≤ ((way m (hm m (L2 a).key) a : Nat) : Int) := by omega
        clear hw c5 hd
        go_wp2_with fail
        refine (behind_any a ha h4 _ HT3.out).mono ?_
        rintro e1 w5 ⟨rfl, rfl⟩
        go_wp2_with fail
        go_roundw
        case rel => exact ⟨f2, o, nxt m a, L2, rfl, rfl, ho, HC5.out.ha, HC5, hid (by have := HD5.out; have := HW.out; omega), HF5, HU3, HT3, HSm⟩
        case measure => have := HD5.out; simp [intOf]; omega
end Go.Proofs.YthgbdaladngpdaaGreat.Slo
