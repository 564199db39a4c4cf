/- The walk of the law that any row of calls is answered as the document says. -/
import Derived.Test.YtdmgdmhggmehgaaRefDue
import Derived.Test.YtdmgdmhggmehgaaRefAdd
namespace Go.Proofs.Ytdmgdmhggmehgaa
open Go.ChangeShapes Go.WideShapes Go.ChangeAt Go.RowKit
set_option linter.unusedVariables false
set_option linter.unusedSimpArgs false

/- The wheel and the reference's row, side by side. -/
structure PL (W w : World) (X : Nat) (F : Nat → Prop) (M : List It) (v : Value) (k : Nat) : Prop where
  good : Good w F X M
  mine : Mine W w F
  own : OwnT w 0 v M
  out : ∀ g, v.ownBlock = some g → ¬ F g
  len : M.length ≤ k
section
variable {W w w' : World} {X : Nat} {F F' : Nat → Prop} {M M' : List It} {v : Value} {k : Nat}
theorem pl_kept (h : PL W w X F M v k) (kk : Kept w w') : PL W w' X F M v k := ⟨good_kept h.good kk, mine_kept h.mine kk, ownt_stays h.own kk, h.out, h.len⟩
theorem pl_len (h : PL W w X F M v k) : M.length ≤ k := h.len
theorem ownt_lt {B : Nat} {l : List It} (h : OwnT w B v l) {g : Nat} (hg : v.ownBlock = some g) : B ≤ g ∧ g < w.heap.size := World.ownsRow.lt h g hg
theorem own_out {B : Nat} {l : List It} (h : OwnT w B v l) (hF : ∀ j, F j → j < B) : ∀ g, v.ownBlock = some g → ¬ F g := fun g hg hf => by
  have := (ownt_lt h hg).1
  have := hF g hf
  omega
theorem pl_add (h : PL W w X F M v k) (s : Stp F F' w w') (g : Good w' F' X M') : OwnT w' 0 v M ∧ Good w' F' X M' ∧ Mine W w' F' ∧ True := ⟨ownt_tn h.own s.1 h.out, g, mine_stp h.mine s, trivial⟩
theorem pl_new {w3 : World} {B : Nat} (g : Good w F X M) (m : Mine W w F) (_ : True) (kk : Kept w w3) (o : OwnT w3 B v M) (hB : w.heap.size ≤ B) (hl : M.length ≤ k) : PL W w3 X F M v k :=
  ⟨good_kept g kk, mine_kept m kk, ownt_low o (Nat.zero_le _), own_out o (fun j hj => Nat.lt_of_lt_of_le (good_low g j hj) hB), hl⟩
theorem pl_row {B : Nat} (g : Good w F X M) (m : Mine W w F) (o : OwnT w B v M) (ho : ∀ g, v.ownBlock = some g → ¬ F g) (hl : M.length ≤ k) : PL W w X F M v k := ⟨g, m, ownt_low o (Nat.zero_le _), ho, hl⟩
theorem add_len {x : It} {k : Int} {n : Nat} (h : M.length ≤ n) : (ins x (wo M k)).length ≤ n + 1 := by
  rw [(ins_perm _ _).length_eq]
  have := wo_len M k
  simp; omega
end
set_option maxHeartbeats 12800000 in
set_option maxRecDepth 100000 in
theorem plays_walk (oa : Option Addr) (len cap b o : Nat) (S : Nat → Opx) (w : World) (hr : Ops w oa len cap b o S) : Calls Try.prog 3 #[.slice oa len cap] w fun e w' => e = .returned (.bool true) ∧ Kept w w' := by
  have h1 := hr.1
  have h2 := hr.2.1
  unfold maxLen at h2
  have HRw := hid hr
  clear hr
  go_enter Try.func3, Try.ntmps3
  go_wp2_with fail
  refine (new_any _).mono ?_
  rintro e w1 ⟨X, F1, rfl, k1, g1, f1⟩
  have HP1 : Hid (PL w w1 X F1 [] (.slice none 0 0) 0) := hid ⟨g1, ⟨k1, f1⟩, ownt_nil w1 0, fun g hg => (by cases hg), Nat.le_refl _⟩
  clear k1 g1 f1
  go_upto_block 0 with fail
  go_cut [4] (fun m wx => Hid (Kept w wx))
  case first =>
    go_wp2_with fail
    go_loopw [4, 14] (fun m i wr => ∃ (j : Nat) (F : Nat → Prop) (M : List It), j ≤ len ∧ i = .int .i64 (j : Int) ∧ Hid (PL w wr X F M m j)) (fun m i _ => len - (intOf i).toNat)
    case atStart => exact ⟨0, F1, [], Nat.zero_le _, rfl, HP1⟩
    case round =>
      obtain ⟨j, F, M, hj, rfl, HP⟩ := hrel
      clear HP1
      by_cases hlt : j < len
      · obtain ⟨rfl, hb⟩ := HRw.out.2.2.2.1 (by omega)
        obtain ⟨c0, c1, c2⟩ := (ops_kept HRw.out HP.out.mine.1).2.2.2.2.1 j hlt
        have hs := HRw.out.2.2.2.2.2 j hlt
        generalize S j = s at *
        have HPa := hid (at_new wr #[.int .i64 s.kind, .int .i64 s.id, .int .u64 s.t] 28)
        have HA := hid (pl_kept HP.out (kept_alloc (kept_refl wr) (.cells #[.int .i64 s.kind, .int .i64 s.id, .int .u64 s.t] 28)))
        by_cases e0 : 200 < j
        · have e1 : (200 : Int) < (j : Int) := by omega
          clear e0
          go_wp2_with fail
          go_meet
          case rel => exact hid HA.out.mine.1
        · have e1 : decide ((200 : Int) < (j : Int)) = false := by simp; omega
          have hj2 : j ≤ 200 := by omega
          clear e0
          obtain ⟨wa, hwa⟩ : ∃ wa, wr.alloc (.cells #[.int .i64 s.kind, .int .i64 s.id, .int .u64 s.t] 28) = wa := ⟨_, rfl⟩
          obtain ⟨P, hPp⟩ : ∃ P, wr.heap.size = P := ⟨_, rfl⟩
          have HPF : Hid (¬ F P) := hid (fun hf => by have := good_low HP.out.good P hf; omega)
          rw [hwa] at HPa HA
          rw [hPp] at HPa
          have HLa : Hid (M.length ≤ j) := hid HP.out.len
          obtain ⟨p0, p1, p2, pf⟩ := at_cells3 HPa.out
          by_cases hk0 : s.kind = 0
          · have q0 : (s.kind == 0) = true := by simpa using hk0
            clear hk0
            go_wp2_with fail
            refine (add_any s.id s.t hs.1 hs.2 (by have := HA.out.len; omega) _ HA.out.good).mono ?_
            rintro e w2 ⟨rfl, F2, s2, g2⟩
            have HB := hid (pl_add HA.out s2 g2)
            have HP2 := hid (at_tn HPa.out s2.1 HPF.out)
            obtain ⟨p0, p1, p2, pf⟩ := at_cells3 HP2.out
            have hadds := adds_any M (by have := HA.out.len; omega) _ s.id s.t w2 (rdm_own HB.out.1)
            clear s2 g2 HA
            go_wp2_with fail
            refine hadds.mono ?_
            rintro e w3 ⟨v3, rfl, o3, k3⟩
            have HF := hid (pl_new HB.out.2.1 HB.out.2.2.1 HB.out.2.2.2 k3 o3 (Nat.le_refl _) (add_len HLa.out))
            have HNL : Hid ((ins (s.t, s.id) (wo M s.id)).length ≤ 1000) := hid (by have := add_len (x := (s.t, s.id)) (k := s.id) HLa.out; omega)
            clear hadds o3 k3 HB p0 p1 p2 pf HP2
            have HLn := hid (pl_len HF.out)
            clear HP HPa
            obtain ⟨ma, mc, rfl, hrd⟩ := rdm_own HF.out.own
            have hnx := next_any HNL.out _ HF.out.good
            have hle := len_any _ HF.out.good
            have hml := HNL.out
            cases hM : ins (s.t, s.id) (wo M s.id) with
            | nil =>
              rw [hM] at hnx hle
              replace hnx : Calls Try.prog 15 #[.pointer (some ⟨X, 0, none⟩)] w3 fun e w' => e = .returned (.tuple #[.int .u64 0, .bool false]) ∧ w' = w3 := hnx
              replace hle : Calls Try.prog 16 #[.pointer (some ⟨X, 0, none⟩)] w3 fun e w' => e = .returned (.int .i64 0) ∧ w' = w3 := hle
              have e7 : (([] : List It)).length = 0 := rfl
              have HF2 := HF
              rw [hM, e7] at HF2
              rw [e7]
              clear e7 hrd hM HF
              go_wp2_with fail
              refine hnx.mono ?_
              rintro e w3 ⟨rfl, rfl⟩
              clear hnx
              go_wp2_with fail
              refine hle.mono ?_
              rintro e w3 ⟨rfl, rfl⟩
              clear hle
              go_wp2_with fail
              go_roundw
              case rel => exact ⟨j + 1, _, _, by omega, by go_num, HF2⟩
              case measure => simp [intOf]; omega
            | cons y t =>
              rw [hM] at hnx hle hrd hml
              replace hnx : Calls Try.prog 15 #[.pointer (some ⟨X, 0, none⟩)] w3 fun e w' => e = .returned (.tuple #[.int .u64 y.1, .bool true]) ∧ w' = w3 := hnx
              obtain ⟨g9, rfl, h9⟩ := hrd (by simp)
              have c9 := (h9 0 y rfl).2
              have e7 : (y :: t).length = t.length + 1 := rfl
              have hne : (y.1 != y.1) = false := by simp
              have HF2 := HF
              rw [hM, e7] at HF2
              rw [e7] at hle hml ⊢
              have hng : ¬ ((t.length : Int) + 1 ≤ 0) := by omega
              have hng2 : (0 : Int) < (t.length : Int) + 1 := by omega
              clear e7 h9 hM HF
              go_wp2_with fail
              refine hnx.mono ?_
              rintro e w3 ⟨rfl, rfl⟩
              clear hnx
              go_wp2_with fail
              refine hle.mono ?_
              rintro e w3 ⟨rfl, rfl⟩
              clear hle
              go_wp2_with fail
              go_roundw
              case rel => exact ⟨j + 1, _, _, by omega, by go_num, HF2⟩
              case measure => simp [intOf]; omega
          · have q0 : (s.kind == 0) = false := by simpa using hk0
            by_cases hk1 : s.kind = 1
            · have q1 : (s.kind == 1) = true := by simpa using hk1
              clear hk0 hk1
              have hwith := without_any M (by have := HA.out.len; omega) u4 s.id wa (rdm_own HA.out.own)
              go_wp2_with fail
              refine hwith.mono ?_
              rintro e w2 ⟨v2, rfl, o2, k2⟩
              have HG2 := hid (good_kept HA.out.good k2)
              have HM2 := hid (mine_kept HA.out.mine k2)
              have HP2 := hid (at_kept HPa.out k2)
              obtain ⟨p0, p1, p2, pf⟩ := at_cells3 HP2.out
              have HO2 := hid o2
              have HLw : Hid (wa.heap.size ≤ w2.heap.size) := hid k2.2
              have HFw := hid (good_low HA.out.good)
              have hdrop := drop_any s.id hs.1 (by have := HA.out.len; omega) w2 HG2.out
              have hne : (hasM M s.id != hasM M s.id) = false := by simp
              have hNL : M.length ≤ 1000 := by have := HA.out.len; omega
              clear hwith o2 k2 HA
              go_wp2_with fail
              refine hdrop.mono ?_
              rintro e w3 ⟨rfl, t3, g3⟩
              have HF := hid (pl_row g3 (mine_tn HM2.out t3) (ownt_tn HO2.out t3 (own_out HO2.out HFw.out)) (own_out HO2.out HFw.out) (Nat.le_trans (wo_len M s.id) (Nat.le_succ_of_le HLa.out)))
              have HNL : Hid ((wo M s.id).length ≤ 1000) := hid (Nat.le_trans (wo_len M s.id) hNL)
              clear hdrop t3 g3 p0 p1 p2 pf HP2 HO2 HG2 HM2 HFw
              generalize hasM M s.id = bb at *
              have HLn := hid (pl_len HF.out)
              clear HP HPa
              obtain ⟨ma, mc, rfl, hrd⟩ := rdm_own HF.out.own
              have hnx := next_any HNL.out _ HF.out.good
              have hle := len_any _ HF.out.good
              have hml := HNL.out
              cases hM : wo M s.id with
              | nil =>
                rw [hM] at hnx hle
                replace hnx : Calls Try.prog 15 #[.pointer (some ⟨X, 0, none⟩)] w3 fun e w' => e = .returned (.tuple #[.int .u64 0, .bool false]) ∧ w' = w3 := hnx
                replace hle : Calls Try.prog 16 #[.pointer (some ⟨X, 0, none⟩)] w3 fun e w' => e = .returned (.int .i64 0) ∧ w' = w3 := hle
                have e7 : (([] : List It)).length = 0 := rfl
                have HF2 := HF
                rw [hM, e7] at HF2
                rw [e7]
                clear e7 hrd hM HF
                go_wp2_with fail
                refine hnx.mono ?_
                rintro e w3 ⟨rfl, rfl⟩
                clear hnx
                go_wp2_with fail
                refine hle.mono ?_
                rintro e w3 ⟨rfl, rfl⟩
                clear hle
                go_wp2_with fail
                go_roundw
                case rel => exact ⟨j + 1, _, _, by omega, by go_num, HF2⟩
                case measure => simp [intOf]; omega
              | cons y t =>
                rw [hM] at hnx hle hrd hml
                replace hnx : Calls Try.prog 15 #[.pointer (some ⟨X, 0, none⟩)] w3 fun e w' => e = .returned (.tuple #[.int .u64 y.1, .bool true]) ∧ w' = w3 := hnx
                obtain ⟨g9, rfl, h9⟩ := hrd (by simp)
                have c9 := (h9 0 y rfl).2
                have e7 : (y :: t).length = t.length + 1 := rfl
                have hne : (y.1 != y.1) = false := by simp
                have HF2 := HF
                rw [hM, e7] at HF2
                rw [e7] at hle hml ⊢
                have hng : ¬ ((t.length : Int) + 1 ≤ 0) := by omega
                have hng2 : (0 : Int) < (t.length : Int) + 1 := by omega
                clear e7 h9 hM HF
                go_wp2_with fail
                refine hnx.mono ?_
                rintro e w3 ⟨rfl, rfl⟩
                clear hnx
                go_wp2_with fail
                refine hle.mono ?_
                rintro e w3 ⟨rfl, rfl⟩
                clear hle
                go_wp2_with fail
                go_roundw
                case rel => exact ⟨j + 1, _, _, by omega, by go_num, HF2⟩
                case measure => simp [intOf]; omega
            · have q1 : (s.kind == 1) = false := by simpa using hk1
              clear hk0 hk1
              have hdues := dues_any M (by have := HA.out.len; omega) u4 s.t wa (rdm_own HA.out.own)
              go_wp2_with fail
              refine hdues.mono ?_
              rintro e w2 ⟨v2, z2, rfl, l2, o2, k2⟩
              have HG2 := hid (good_kept HA.out.good k2)
              have HM2 := hid (mine_kept HA.out.mine k2)
              have HP2 := hid (at_kept HPa.out k2)
              obtain ⟨p0, p1, p2, pf⟩ := at_cells3 HP2.out
              have HO2 := hid o2
              have HL2 := hid l2
              have HFw := hid (good_low HA.out.good)
              have hdue := due_any s.t (by have := HA.out.len; omega) w2 HG2.out
              have hNL : M.length ≤ 1000 := by have := HA.out.len; omega
              clear hdues l2 o2 k2 HA
              go_wp2_with fail
              refine hdue.mono ?_
              rintro e w3 ⟨v3, rfl, o3, t3, g3⟩
              have HL3 := hid (rw_own (own_tn HL2.out t3 HFw.out))
              have HI3 := hid (rw_own o3)
              have HF3 := hid (pl_row g3 (mine_tn HM2.out t3) (ownt_tn HO2.out t3 (own_out HO2.out HFw.out)) (own_out HO2.out HFw.out) (Nat.le_trans (aft_len M s.t) (Nat.le_succ_of_le HLa.out)))
              have hsame := same_any (ids (due M s.t)) (by rw [ids_len]; have := due_len M s.t; omega) v3 v2 w3 HI3.out HL3.out
              clear hdue t3 g3 o3 p0 p1 p2 pf HP2 HO2 HL2 HG2 HM2 HFw HL3 HI3
              go_wp2_with fail
              refine hsame.mono ?_
              rintro e w4 ⟨rfl, k4⟩
              have HF := hid (pl_kept HF3.out k4)
              have HNL : Hid ((aft M s.t).length ≤ 1000) := hid (Nat.le_trans (aft_len M s.t) hNL)
              clear hsame k4 HF3
              have HLn := hid (pl_len HF.out)
              clear HP HPa
              obtain ⟨ma, mc, rfl, hrd⟩ := rdm_own HF.out.own
              have hnx := next_any HNL.out _ HF.out.good
              have hle := len_any _ HF.out.good
              have hml := HNL.out
              cases hM : aft M s.t with
              | nil =>
                rw [hM] at hnx hle
                replace hnx : Calls Try.prog 15 #[.pointer (some ⟨X, 0, none⟩)] w4 fun e w' => e = .returned (.tuple #[.int .u64 0, .bool false]) ∧ w' = w4 := hnx
                replace hle : Calls Try.prog 16 #[.pointer (some ⟨X, 0, none⟩)] w4 fun e w' => e = .returned (.int .i64 0) ∧ w' = w4 := hle
                have e7 : (([] : List It)).length = 0 := rfl
                have HF2 := HF
                rw [hM, e7] at HF2
                rw [e7]
                clear e7 hrd hM HF
                go_wp2_with fail
                refine hnx.mono ?_
                rintro e w4 ⟨rfl, rfl⟩
                clear hnx
                go_wp2_with fail
                refine hle.mono ?_
                rintro e w4 ⟨rfl, rfl⟩
                clear hle
                go_wp2_with fail
                go_roundw
                case rel => exact ⟨j + 1, _, _, by omega, by go_num, HF2⟩
                case measure => simp [intOf]; omega
              | cons y t =>
                rw [hM] at hnx hle hrd hml
                replace hnx : Calls Try.prog 15 #[.pointer (some ⟨X, 0, none⟩)] w4 fun e w' => e = .returned (.tuple #[.int .u64 y.1, .bool true]) ∧ w' = w4 := hnx
                obtain ⟨g9, rfl, h9⟩ := hrd (by simp)
                have c9 := (h9 0 y rfl).2
                have e7 : (y :: t).length = t.length + 1 := rfl
                have hne : (y.1 != y.1) = false := by simp
                have HF2 := HF
                rw [hM, e7] at HF2
                rw [e7] at hle hml ⊢
                have hng : ¬ ((t.length : Int) + 1 ≤ 0) := by omega
                have hng2 : (0 : Int) < (t.length : Int) + 1 := by omega
                clear e7 h9 hM HF
                go_wp2_with fail
                refine hnx.mono ?_
                rintro e w4 ⟨rfl, rfl⟩
                clear hnx
                go_wp2_with fail
                refine hle.mono ?_
                rintro e w4 ⟨rfl, rfl⟩
                clear hle
                go_wp2_with fail
                go_roundw
                case rel => exact ⟨j + 1, _, _, by omega, by go_num, HF2⟩
                case measure => simp [intOf]; omega
      · go_wp2_with fail
        go_meet
        case rel => exact hid HP.out.mine.1
  case rest =>
    have HKc : Hid (Kept w wc) := hcut
    clear hcut
    go_wp2_with fail
    refine (fixed_any _).mono ?_
    rintro e w2 ⟨rfl, k2⟩
    go_wp2_with fail
    go_ret
    exact ⟨rfl, kept_trans HKc.out k2⟩
end Go.Proofs.Ytdmgdmhggmehgaa
