/- The contracts of the landed probe's shuffle and ping. -/
import Derived.Test.YtgmcjnhijgnadaaPrCode3
import Derived.Test.YtgmcjnhijgnadaaPrRef6
import Derived.Test.YtgmcjnhijgnadaaGTn
import Derived.Deep.CutBlock
import Derived.Deep.DeepCutAuto
namespace Go.Proofs.Ytgmcjnhijgnadaa
open Go.ChangeShapes Go.WideShapes Go.ChangeAt Go.RowKit
set_option linter.unusedVariables false
set_option linter.unusedSimpArgs false
set_option maxRecDepth 100000

/- The probe's memory. -/
structure Pm (w : World) (X : Nat) (sf : Int) (rv : Value) (place : Nat) (wv : Value) (row : List Int) (ws : List Wt) : Prop where
  a : At w X #[.int .u8 sf, rv, .int .i64 (place : Int), wv] 78
  r : Og encU 1 5 w 0 rv row
  w : Og encW 2 86 w 0 wv ws
def Fp (X : Nat) (rv wv : Value) (b : Nat) : Prop := b = X ∨ rv.ownBlock = some b ∨ wv.ownBlock = some b
theorem pm_kept {w w' : World} {X : Nat} {sf : Int} {rv wv : Value} {place : Nat} {row : List Int} {ws : List Wt} (h : Pm w X sf rv place wv row ws) (k : Kept w w') : Pm w' X sf rv place wv row ws := ⟨at_kept h.a k, og_stays h.r k, og_stays h.w k⟩
theorem pm_place {w : World} {X : Nat} {sf : Int} {rv wv : Value} {place : Nat} {row : List Int} {ws : List Wt} (h : Pm w X sf rv place wv row ws) (k : Nat) : Pm (w.setCell ⟨X, 2, none⟩ (.int .i64 (k : Int))) X sf rv k wv row ws :=
  ⟨at_set h.a 2 _, og_block h.r (fun g cur hg ha => Below.heap_setCell _ _ _ _ (at_ne ha h.a (by decide))), og_block h.w (fun g cur hg ha => Below.heap_setCell _ _ _ _ (at_ne ha h.a (by decide)))⟩
theorem pm_waits {w : World} {X : Nat} {sf : Int} {rv wv wv' : Value} {place : Nat} {row : List Int} {ws' : List Wt} (a : At w X #[.int .u8 sf, rv, .int .i64 (place : Int), wv] 78) (r : Og encU 1 5 w 0 rv row) (o : Og encW 2 86 w 0 wv' ws') : Pm (w.setCell ⟨X, 3, none⟩ wv') X sf rv place wv' row ws' :=
  ⟨at_set a 3 _, og_block r (fun g cur hg ha => Below.heap_setCell _ _ _ _ (at_ne ha a (by decide))), og_block o (fun g cur hg ha => Below.heap_setCell _ _ _ _ (at_ne ha a (by decide)))⟩
theorem pm_turn {w w' : World} {X G L cap : Nat} {sf : Int} {wv : Value} {place : Nat} {row row' : List Int} {ws : List Wt} (h : Pm w X sf (.slice (some ⟨G, 0, none⟩) L cap) place wv row ws) (o : Og encU 1 5 w' 0 (.slice (some ⟨G, 0, none⟩) L cap) row') (t : Turn G w w') : Pm w' X sf (.slice (some ⟨G, 0, none⟩) L cap) place wv row' ws := by
  obtain ⟨cs, hc⟩ := og_type h.r
  exact ⟨at_turn h.a t (at_ne h.a hc (by decide)), o, og_block h.w (fun g cur hg ha => t.2.2.2 g (at_lt ha) (at_ne ha hc (by decide)))⟩
set_option maxHeartbeats 12800000 in
theorem shuffle_any {X G L cap : Nat} {sf : Int} {place : Nat} {wv : Value} {row : List Int} {ws : List Wt} (hL1 : 1 ≤ L) (hL : L ≤ 64) (x : Int) (hx : 0 ≤ x) (hx2 : x < 18446744073709551616) (w : World) (h : Pm w X sf (.slice (some ⟨G, 0, none⟩) L cap) place wv row ws) :
    Calls Try.prog 36 #[.pointer (some ⟨X, 0, none⟩), .int .u64 x] w fun e w' => e = .returned (.tuple #[]) ∧ Pm w' X sf (.slice (some ⟨G, 0, none⟩) L cap) place wv (shuf x (L - 1) row) ws ∧ Turn G w w' := by
  have HP := hid h
  obtain ⟨q0, q1, q2, q3⟩ := at_cells4 h.a
  have HLn : Hid (row.length = L) := hid (og_len encU_ok h.r).1
  have hw : IntKind.i64.wrap ((L : Int) - 1) = (L : Int) - 1 := IntWalk.i64_in _ (by omega)
  have HLL : Hid (L ≤ 64) := hid hL
  clear h
  go_enter Try.func36, Try.ntmps36
  go_wp2_with fail
  clear q0 q1 q2 q3 hw
  go_loopw [4] (fun iv wr => ∃ (i : Nat) (r : List Int), i < L ∧ iv = .int .i64 (i : Int) ∧ Hid (shuf x i r = shuf x (L - 1) row) ∧ Hid (r.length = L) ∧ Hid (Pm wr X sf (.slice (some ⟨G, 0, none⟩) L cap) place wv r ws) ∧ Hid (Turn G w wr)) (fun iv _ => (intOf iv).toNat)
  case atStart => exact ⟨L - 1, row, by omega, by congr 1; omega, hid rfl, HLn, HP, hid (Turn.refl _ _)⟩
  case round =>
    obtain ⟨i, r, hi, rfl, HS, HLr, HPr, HTr⟩ := hrel
    clear HP HLn
    by_cases hi1 : 1 ≤ i
    · have hiz : (1 : Int) ≤ (i : Int) := by omega
      have hC := fun u => two_any x (i : Int) u
      have w1 : IntKind.u64.wrap (i : Int) = (i : Int) := by rw [IntKind.wrap_u64]; omega
      have w2 : IntKind.i64.wrap ((i : Int) + 1) = (i : Int) + 1 := IntWalk.i64_in _ (by omega)
      have w3 : IntKind.u64.wrap ((i : Int) + 1) = (i : Int) + 1 := by rw [IntKind.wrap_u64]; omega
      have w4 : IntKind.i64.wrap ((i : Int) - 1) = (i : Int) - 1 := IntWalk.i64_in _ (by omega)
      have hjm := jx_mod hx hx2 (show i ≤ 64 by omega)
      have HJ : Hid (jx x i ≤ i) := hid (jx_le x i)
      have HSp : Hid (shuf x (i - 1) (swp r i (jx x i)) = shuf x (L - 1) row) := hid (by rw [← shuf_pred x hi1]; exact HS.out)
      obtain ⟨j, hjj⟩ : ∃ j, jx x i = j := ⟨_, rfl⟩
      rw [hjj] at hjm HJ HSp
      clear hjj
      have w5 : IntKind.u64.wrap (j : Int) = (j : Int) := by rw [IntKind.wrap_u64]; have := HJ.out; omega
      have w6 : IntKind.i64.wrap (j : Int) = (j : Int) := IntWalk.i64_in _ (by have := HJ.out; omega)
      have hdz : ((i : Int) + 1 == 0) = false := by rw [beq_eq_false_iff_ne]; omega
      obtain ⟨a, hra⟩ : ∃ a, r[i]? = some a := ⟨r[i]'(by have := HLr.out; omega), List.getElem?_eq_getElem (by have := HLr.out; omega)⟩
      obtain ⟨b, hrb⟩ : ∃ b, r[j]? = some b := ⟨r[j]'(by have := HLr.out; have := HJ.out; omega), List.getElem?_eq_getElem (by have := HLr.out; have := HJ.out; omega)⟩
      have hrb2 := set_at (i := i) (b := b) (by have := HLr.out; omega) hrb
      rw [← swp_at hra hrb] at HSp
      have hOd : Og encU 1 5 wr.drew 0 (.slice (some ⟨G, 0, none⟩) L cap) r := og_stays HPr.out.r (kept_drew (kept_refl wr))
      have ca := rg_U (rg_own encU_ok hOd) hra
      have cb := rg_U (rg_own encU_ok hOd) hrb
      rw [Nat.zero_add] at ca cb
      have cf := og_frozen hOd
      have hO9 := og_putU hOd hra b
      have cc := rg_U (rg_own encU_ok hO9) hrb2
      rw [Nat.zero_add] at cc
      have cg := og_frozen hO9
      have hO10 := og_putU hO9 hrb2 a
      have hXd := at_drew HPr.out.a
      obtain ⟨cs, hcs⟩ := og_type hOd
      have nXG : X ≠ G := at_ne hXd hcs (by decide)
      have hT10 : Turn G wr ((wr.drew.setCell ⟨G, i, none⟩ (.int .u8 b)).setCell ⟨G, j, none⟩ (.int .u8 a)) := turn_set (turn_set (turn_drew (Turn.refl G wr)) i _) j _
      have HP10 := hid (pm_turn HPr.out hO10 hT10)
      have HT10 := hid (HTr.out.trans hT10)
      have HL10 : Hid (((r.set i b).set j a).length = L) := hid (by rw [List.length_set, List.length_set]; exact HLr.out)
      have hS0 : wr.cell? ⟨X, 1, none⟩ = some (.slice (some ⟨G, 0, none⟩) L cap) := at_cell HPr.out.a 1
      have hSd : wr.drew.cell? ⟨X, 1, none⟩ = some (.slice (some ⟨G, 0, none⟩) L cap) := at_cell hXd 1
      have hS1 : (wr.drew.setCell ⟨G, i, none⟩ (.int .u8 b)).cell? ⟨X, 1, none⟩ = some (.slice (some ⟨G, 0, none⟩) L cap) := at_cell (at_other hXd nXG i _) 1
      have hS2 : ((wr.drew.setCell ⟨G, i, none⟩ (.int .u8 b)).setCell ⟨G, j, none⟩ (.int .u8 a)).cell? ⟨X, 1, none⟩ = some (.slice (some ⟨G, 0, none⟩) L cap) := at_cell (at_other (at_other hXd nXG i _) nXG j _) 1
      have hiL : (i : Int) < (L : Int) := by omega
      have hjL : (j : Int) < (L : Int) := by have := HJ.out; omega
      clear hra hrb hrb2 hOd hO9 hO10 hXd hcs hT10 HPr HTr HS HLr hx hx2
      go_wp2_with (go_at_call 44; refine (hC _).mono ?_; rintro e w' ⟨rfl, e2⟩; have e3 := e2.symm; subst e3; clear e2)
      clear hC w1 w2 w3 hjm hdz w5
      refine wp_region_noPanic ?_
      refine wp_region_held_drew (S := (fun w' => (w'.cell? ⟨X, 1, none⟩ = some (.slice (some ⟨G, 0, none⟩) L cap)))) (by kernel_rfl) (by assumption) (fun hHeld => ?_)
      generalize wr.drew = wd at *
      refine wpAnyH_take (i := 0) (v := .pointer (some ⟨X, 0, none⟩)) rfl (by kernel_rfl) (by kernel_rfl) (by kernel_rfl) (fun _ _ _ h => h) (Or.inl ⟨by rfl, fun w hSw => by (try dsimp only at hSw); go_simp⟩) (by assumption) ?_
      try simp only [List.getElem_toArray, List.getElem_cons_zero, List.getElem_cons_succ, Act.put, List.setIfInBounds_toArray, List.set_cons_zero, List.set_cons_succ]
      refine wpAnyH_take (i := 1) (v := .pointer (some ⟨X, 0, none⟩)) rfl (by kernel_rfl) (by kernel_rfl) (by kernel_rfl) (fun _ _ _ h => h) (Or.inl ⟨by rfl, fun w hSw => by (try dsimp only at hSw); go_simp⟩) (by assumption) ?_
      try simp only [List.getElem_toArray, List.getElem_cons_zero, List.getElem_cons_succ, Act.put, List.setIfInBounds_toArray, List.set_cons_zero, List.set_cons_succ]
      refine wpAnyH_take (i := 2) (v := .pointer (some ⟨X, 1, none⟩)) rfl (by kernel_rfl) (by kernel_rfl) (by kernel_rfl) (fun _ _ _ h => h) (Or.inl ⟨by rfl, fun w hSw => by (try dsimp only at hSw); go_simp⟩) (by assumption) ?_
      try simp only [List.getElem_toArray, List.getElem_cons_zero, List.getElem_cons_succ, Act.put, List.setIfInBounds_toArray, List.set_cons_zero, List.set_cons_succ]
      refine wpAnyH_take (i := 3) (v := .slice (some ⟨G, 0, none⟩) L cap) rfl (by kernel_rfl) (by kernel_rfl) (by kernel_rfl) (fun _ _ _ h => h) (Or.inl ⟨by rfl, fun w hSw => by (try dsimp only at hSw); go_simp⟩) (by assumption) ?_
      try simp only [List.getElem_toArray, List.getElem_cons_zero, List.getElem_cons_succ, Act.put, List.setIfInBounds_toArray, List.set_cons_zero, List.set_cons_succ]
      refine wpAnyH_take (i := 4) (v := .int .i64 (i : Int)) rfl (by kernel_rfl) (by kernel_rfl) (by kernel_rfl) (fun _ _ _ h => h) (Or.inl ⟨by rfl, fun w hSw => by (try dsimp only at hSw); go_simp⟩) (by assumption) ?_
      try simp only [List.getElem_toArray, List.getElem_cons_zero, List.getElem_cons_succ, Act.put, List.setIfInBounds_toArray, List.set_cons_zero, List.set_cons_succ]
      refine wpAnyH_take (i := 5) (v := .pointer (some ⟨X, 0, none⟩)) rfl (by kernel_rfl) (by kernel_rfl) (by kernel_rfl) (fun _ _ _ h => h) (Or.inl ⟨by rfl, fun w hSw => by (try dsimp only at hSw); go_simp⟩) (by assumption) ?_
      try simp only [List.getElem_toArray, List.getElem_cons_zero, List.getElem_cons_succ, Act.put, List.setIfInBounds_toArray, List.set_cons_zero, List.set_cons_succ]
      refine wpAnyH_take (i := 6) (v := .pointer (some ⟨X, 0, none⟩)) rfl (by kernel_rfl) (by kernel_rfl) (by kernel_rfl) (fun _ _ _ h => h) (Or.inl ⟨by rfl, fun w hSw => by (try dsimp only at hSw); go_simp⟩) (by assumption) ?_
      try simp only [List.getElem_toArray, List.getElem_cons_zero, List.getElem_cons_succ, Act.put, List.setIfInBounds_toArray, List.set_cons_zero, List.set_cons_succ]
      refine wpAnyH_take (i := 7) (v := .pointer (some ⟨X, 1, none⟩)) rfl (by kernel_rfl) (by kernel_rfl) (by kernel_rfl) (fun _ _ _ h => h) (Or.inl ⟨by rfl, fun w hSw => by (try dsimp only at hSw); go_simp⟩) (by assumption) ?_
      try simp only [List.getElem_toArray, List.getElem_cons_zero, List.getElem_cons_succ, Act.put, List.setIfInBounds_toArray, List.set_cons_zero, List.set_cons_succ]
      refine wpAnyH_take (i := 8) (v := .slice (some ⟨G, 0, none⟩) L cap) rfl (by kernel_rfl) (by kernel_rfl) (by kernel_rfl) (fun _ _ _ h => h) (Or.inl ⟨by rfl, fun w hSw => by (try dsimp only at hSw); go_simp⟩) (by assumption) ?_
      try simp only [List.getElem_toArray, List.getElem_cons_zero, List.getElem_cons_succ, Act.put, List.setIfInBounds_toArray, List.set_cons_zero, List.set_cons_succ]
      refine wpAnyH_take (i := 9) (v := .int .u64 (j : Int)) rfl (by kernel_rfl) (by kernel_rfl) (by kernel_rfl) (fun _ _ _ h => h) (Or.inl ⟨by rfl, fun w hSw => by (try dsimp only at hSw); go_simp⟩) (by assumption) ?_
      try simp only [List.getElem_toArray, List.getElem_cons_zero, List.getElem_cons_succ, Act.put, List.setIfInBounds_toArray, List.set_cons_zero, List.set_cons_succ]
      refine wpAnyH_take (i := 10) (v := .pointer (some ⟨X, 0, none⟩)) rfl (by kernel_rfl) (by kernel_rfl) (by kernel_rfl) (fun _ _ _ h => h) (Or.inl ⟨by rfl, fun w hSw => by (try dsimp only at hSw); go_simp⟩) (by assumption) ?_
      try simp only [List.getElem_toArray, List.getElem_cons_zero, List.getElem_cons_succ, Act.put, List.setIfInBounds_toArray, List.set_cons_zero, List.set_cons_succ]
      refine wpAnyH_take (i := 11) (v := .pointer (some ⟨X, 0, none⟩)) rfl (by kernel_rfl) (by kernel_rfl) (by kernel_rfl) (fun _ _ _ h => h) (Or.inl ⟨by rfl, fun w hSw => by (try dsimp only at hSw); go_simp⟩) (by assumption) ?_
      try simp only [List.getElem_toArray, List.getElem_cons_zero, List.getElem_cons_succ, Act.put, List.setIfInBounds_toArray, List.set_cons_zero, List.set_cons_succ]
      refine wpAnyH_take (i := 12) (v := .pointer (some ⟨X, 1, none⟩)) rfl (by kernel_rfl) (by kernel_rfl) (by kernel_rfl) (fun _ _ _ h => h) (Or.inl ⟨by rfl, fun w hSw => by (try dsimp only at hSw); go_simp⟩) (by assumption) ?_
      try simp only [List.getElem_toArray, List.getElem_cons_zero, List.getElem_cons_succ, Act.put, List.setIfInBounds_toArray, List.set_cons_zero, List.set_cons_succ]
      refine wpAnyH_take (i := 13) (v := .slice (some ⟨G, 0, none⟩) L cap) rfl (by kernel_rfl) (by kernel_rfl) (by kernel_rfl) (fun _ _ _ h => h) (Or.inl ⟨by rfl, fun w hSw => by (try dsimp only at hSw); go_simp⟩) (by assumption) ?_
      try simp only [List.getElem_toArray, List.getElem_cons_zero, List.getElem_cons_succ, Act.put, List.setIfInBounds_toArray, List.set_cons_zero, List.set_cons_succ]
      refine wpAnyH_take (i := 14) (v := .int .u64 (j : Int)) rfl (by kernel_rfl) (by kernel_rfl) (by kernel_rfl) (fun _ _ _ h => h) (Or.inl ⟨by rfl, fun w hSw => by (try dsimp only at hSw); go_simp⟩) (by assumption) ?_
      try simp only [List.getElem_toArray, List.getElem_cons_zero, List.getElem_cons_succ, Act.put, List.setIfInBounds_toArray, List.set_cons_zero, List.set_cons_succ]
      refine wpAnyH_take (i := 15) (v := .pointer (some ⟨G, j, none⟩)) rfl (by kernel_rfl) (by kernel_rfl) (by kernel_rfl) (fun _ _ _ h => h) (Or.inl ⟨by rfl, fun w hSw => by (try dsimp only at hSw); go_simp⟩) (by assumption) ?_
      try simp only [List.getElem_toArray, List.getElem_cons_zero, List.getElem_cons_succ, Act.put, List.setIfInBounds_toArray, List.set_cons_zero, List.set_cons_succ]
      refine wpAnyH_take (i := 17) (v := .pointer (some ⟨X, 0, none⟩)) rfl (by kernel_rfl) (by kernel_rfl) (by kernel_rfl) (fun _ _ _ h => h) (Or.inl ⟨by rfl, fun w hSw => by (try dsimp only at hSw); go_simp⟩) (by assumption) ?_
      try simp only [List.getElem_toArray, List.getElem_cons_zero, List.getElem_cons_succ, Act.put, List.setIfInBounds_toArray, List.set_cons_zero, List.set_cons_succ]
      refine wpAnyH_take (i := 18) (v := .pointer (some ⟨X, 0, none⟩)) rfl (by kernel_rfl) (by kernel_rfl) (by kernel_rfl) (fun _ _ _ h => h) (Or.inl ⟨by rfl, fun w hSw => by (try dsimp only at hSw); go_simp⟩) (by assumption) ?_
      try simp only [List.getElem_toArray, List.getElem_cons_zero, List.getElem_cons_succ, Act.put, List.setIfInBounds_toArray, List.set_cons_zero, List.set_cons_succ]
      refine wpAnyH_take (i := 19) (v := .pointer (some ⟨X, 1, none⟩)) rfl (by kernel_rfl) (by kernel_rfl) (by kernel_rfl) (fun _ _ _ h => h) (Or.inl ⟨by rfl, fun w hSw => by (try dsimp only at hSw); go_simp⟩) (by assumption) ?_
      try simp only [List.getElem_toArray, List.getElem_cons_zero, List.getElem_cons_succ, Act.put, List.setIfInBounds_toArray, List.set_cons_zero, List.set_cons_succ]
      refine wpAnyH_take (i := 20) (v := .slice (some ⟨G, 0, none⟩) L cap) rfl (by kernel_rfl) (by kernel_rfl) (by kernel_rfl) (fun _ _ _ h => h) (Or.inl ⟨by rfl, fun w hSw => by (try dsimp only at hSw); go_simp⟩) (by assumption) ?_
      try simp only [List.getElem_toArray, List.getElem_cons_zero, List.getElem_cons_succ, Act.put, List.setIfInBounds_toArray, List.set_cons_zero, List.set_cons_succ]
      refine wpAnyH_take (i := 21) (v := .int .i64 (i : Int)) rfl (by kernel_rfl) (by kernel_rfl) (by kernel_rfl) (fun _ _ _ h => h) (Or.inl ⟨by rfl, fun w hSw => by (try dsimp only at hSw); go_simp⟩) (by assumption) ?_
      try simp only [List.getElem_toArray, List.getElem_cons_zero, List.getElem_cons_succ, Act.put, List.setIfInBounds_toArray, List.set_cons_zero, List.set_cons_succ]
      refine wpAnyH_take (i := 22) (v := .pointer (some ⟨G, i, none⟩)) rfl (by kernel_rfl) (by kernel_rfl) (by kernel_rfl) (fun _ _ _ h => h) (Or.inl ⟨by rfl, fun w hSw => by (try dsimp only at hSw); go_simp⟩) (by assumption) ?_
      try simp only [List.getElem_toArray, List.getElem_cons_zero, List.getElem_cons_succ, Act.put, List.setIfInBounds_toArray, List.set_cons_zero, List.set_cons_succ]
      refine wpAnyH_ready (rs := [16, 23]) (by kernel_rfl) (by simp) ?_
      refine AllReadyH.cons (i := 16) rfl (fun K hK => ?_) ?_
      · go_simp
        have hS := hSd
        clear hHeld
        show K _ _
        refine hK.out _ _ (by assumption) (fun hHeld => ?_)
        clear hK K
        try simp only [List.getElem_toArray, List.getElem_cons_zero, List.getElem_cons_succ, Act.put, List.setIfInBounds_toArray, List.set_cons_zero, List.set_cons_succ]
        refine wpAnyH_ready (rs := [23]) (by kernel_rfl) (by simp) ?_
        refine AllReadyH.cons (i := 23) rfl (fun K hK => ?_) AllReadyH.nil
        go_simp
        have hS := hSd
        clear hHeld
        show K _ _
        refine hK.out _ _ (by assumption) (fun hHeld => ?_)
        clear hK K
        try simp only [List.getElem_toArray, List.getElem_cons_zero, List.getElem_cons_succ, Act.put, List.setIfInBounds_toArray, List.set_cons_zero, List.set_cons_succ]
        refine wpAnyH_take (i := 24) (v := .pointer (some ⟨G, i, none⟩)) rfl (by kernel_rfl) (by kernel_rfl) (by kernel_rfl) (fun _ _ _ h => h) (Or.inl ⟨by rfl, fun w hSw => by (try dsimp only at hSw); go_simp⟩) (by assumption) ?_
        try simp only [List.getElem_toArray, List.getElem_cons_zero, List.getElem_cons_succ, Act.put, List.setIfInBounds_toArray, List.set_cons_zero, List.set_cons_succ]
        refine wpAnyH_ready (rs := [25]) (by kernel_rfl) (by simp) ?_
        refine AllReadyH.cons (i := 25) rfl (fun K hK => ?_) AllReadyH.nil
        go_simp
        have hS := hS1
        clear hHeld
        show K _ _
        refine hK.out _ _ (by assumption) (fun hHeld => ?_)
        clear hK K
        try simp only [List.getElem_toArray, List.getElem_cons_zero, List.getElem_cons_succ, Act.put, List.setIfInBounds_toArray, List.set_cons_zero, List.set_cons_succ]
        refine wpAnyH_take (i := 26) (v := .pointer (some ⟨G, j, none⟩)) rfl (by kernel_rfl) (by kernel_rfl) (by kernel_rfl) (fun _ _ _ h => h) (Or.inl ⟨by rfl, fun w hSw => by (try dsimp only at hSw); go_simp⟩) (by assumption) ?_
        try simp only [List.getElem_toArray, List.getElem_cons_zero, List.getElem_cons_succ, Act.put, List.setIfInBounds_toArray, List.set_cons_zero, List.set_cons_succ]
        refine wpAnyH_ready (rs := [27]) (by kernel_rfl) (by simp) ?_
        refine AllReadyH.cons (i := 27) rfl (fun K hK => ?_) AllReadyH.nil
        go_simp
        have hS := hS2
        clear hHeld
        show K _ _
        refine hK.out _ _ (by assumption) (fun hHeld => ?_)
        clear hK K
        try simp only [List.getElem_toArray, List.getElem_cons_zero, List.getElem_cons_succ, Act.put, List.setIfInBounds_toArray, List.set_cons_zero, List.set_cons_succ]
        refine wpAnyH_done (by kernel_rfl) ?_ _
        refine NoPanic.normal ?_
        clear hHeld hS hSd hS0 hS1 hS2 ca cb cc cf cg nXG
        go_wp2_with fail
        go_roundw
        case rel => exact ⟨i - 1, _, by omega, by congr 1; omega, HSp, HL10, HP10, HT10⟩
        case measure => simp [intOf]; omega
      refine AllReadyH.cons (i := 23) rfl (fun K hK => ?_) AllReadyH.nil
      go_simp
      have hS := hSd
      clear hHeld
      show K _ _
      refine hK.out _ _ (by assumption) (fun hHeld => ?_)
      clear hK K
      try simp only [List.getElem_toArray, List.getElem_cons_zero, List.getElem_cons_succ, Act.put, List.setIfInBounds_toArray, List.set_cons_zero, List.set_cons_succ]
      refine wpAnyH_ready (rs := [16]) (by kernel_rfl) (by simp) ?_
      refine AllReadyH.cons (i := 16) rfl (fun K hK => ?_) AllReadyH.nil
      go_simp
      have hS := hSd
      clear hHeld
      show K _ _
      refine hK.out _ _ (by assumption) (fun hHeld => ?_)
      clear hK K
      try simp only [List.getElem_toArray, List.getElem_cons_zero, List.getElem_cons_succ, Act.put, List.setIfInBounds_toArray, List.set_cons_zero, List.set_cons_succ]
      refine wpAnyH_take (i := 24) (v := .pointer (some ⟨G, i, none⟩)) rfl (by kernel_rfl) (by kernel_rfl) (by kernel_rfl) (fun _ _ _ h => h) (Or.inl ⟨by rfl, fun w hSw => by (try dsimp only at hSw); go_simp⟩) (by assumption) ?_
      try simp only [List.getElem_toArray, List.getElem_cons_zero, List.getElem_cons_succ, Act.put, List.setIfInBounds_toArray, List.set_cons_zero, List.set_cons_succ]
      refine wpAnyH_ready (rs := [25]) (by kernel_rfl) (by simp) ?_
      refine AllReadyH.cons (i := 25) rfl (fun K hK => ?_) AllReadyH.nil
      go_simp
      have hS := hS1
      clear hHeld
      show K _ _
      refine hK.out _ _ (by assumption) (fun hHeld => ?_)
      clear hK K
      try simp only [List.getElem_toArray, List.getElem_cons_zero, List.getElem_cons_succ, Act.put, List.setIfInBounds_toArray, List.set_cons_zero, List.set_cons_succ]
      refine wpAnyH_take (i := 26) (v := .pointer (some ⟨G, j, none⟩)) rfl (by kernel_rfl) (by kernel_rfl) (by kernel_rfl) (fun _ _ _ h => h) (Or.inl ⟨by rfl, fun w hSw => by (try dsimp only at hSw); go_simp⟩) (by assumption) ?_
      try simp only [List.getElem_toArray, List.getElem_cons_zero, List.getElem_cons_succ, Act.put, List.setIfInBounds_toArray, List.set_cons_zero, List.set_cons_succ]
      refine wpAnyH_ready (rs := [27]) (by kernel_rfl) (by simp) ?_
      refine AllReadyH.cons (i := 27) rfl (fun K hK => ?_) AllReadyH.nil
      go_simp
      have hS := hS2
      clear hHeld
      show K _ _
      refine hK.out _ _ (by assumption) (fun hHeld => ?_)
      clear hK K
      try simp only [List.getElem_toArray, List.getElem_cons_zero, List.getElem_cons_succ, Act.put, List.setIfInBounds_toArray, List.set_cons_zero, List.set_cons_succ]
      refine wpAnyH_done (by kernel_rfl) ?_ _
      refine NoPanic.normal ?_
      clear hHeld hS hSd hS0 hS1 hS2 ca cb cc cf cg nXG
      go_wp2_with fail
      go_roundw
      case rel => exact ⟨i - 1, _, by omega, by congr 1; omega, HSp, HL10, HP10, HT10⟩
      case measure => simp [intOf]; omega
    · have hi0 : i = 0 := by omega
      have hiz : ¬ (1 : Int) ≤ (i : Int) := by omega
      have HE : Hid (r = shuf x (L - 1) row) := hid (by rw [← HS.out, hi0]; rfl)
      clear hi0 HS
      go_wp2_with fail
      go_end0
      exact ⟨rfl, by rw [← HE.out]; exact HPr.out, HTr.out⟩
def rowN (L place : Nat) (x : Int) (row : List Int) : List Int := if place = L then shuf x (L - 1) row else row
def placeN (L place : Nat) : Nat := if place = L then 0 else place
def waitN (ws : List Wt) (a : Int) : List Wt := if isW ws a then ws else ws ++ [⟨a, 0⟩]
def PingC (X G L cap : Nat) (sf : Int) (place : Nat) (wv : Value) (row : List Int) (ws : List Wt) (x : Int) (w : World) (e : Ending) (w' : World) : Prop := ∃ (a : Int) (wv' : Value), e = .returned (.int .u8 a) ∧ (rowN L place x row)[placeN L place]? = some a ∧ Pm w' X sf (.slice (some ⟨G, 0, none⟩) L cap) (placeN L place + 1) wv' (rowN L place x row) (waitN ws a) ∧ Tn (Fp X (.slice (some ⟨G, 0, none⟩) L cap) wv) w w' ∧ ∀ b, wv'.ownBlock = some b → wv.ownBlock = some b ∨ w.heap.size ≤ b
set_option maxHeartbeats 12800000 in
theorem ping_any {X G L cap : Nat} {sf : Int} {place : Nat} {wv : Value} {row : List Int} {ws : List Wt} (hL1 : 1 ≤ L) (hL : L ≤ 64) (hpl : place ≤ L) (hws : ws.length ≤ 256) (x : Int) (hx : 0 ≤ x) (hx2 : x < 18446744073709551616) (w : World) (h : Pm w X sf (.slice (some ⟨G, 0, none⟩) L cap) place wv row ws) :
    Calls Try.prog 27 #[.pointer (some ⟨X, 0, none⟩), .int .u64 x] w (PingC X G L cap sf place wv row ws x w) := by
  have HP := hid h
  have HB : Hid (1 ≤ L ∧ L ≤ 64 ∧ place ≤ L ∧ ws.length ≤ 256) := hid ⟨hL1, hL, hpl, hws⟩
  have HSh : Hid (∀ u, Pm u X sf (.slice (some ⟨G, 0, none⟩) L cap) place wv row ws → Calls Try.prog 36 #[.pointer (some ⟨X, 0, none⟩), .int .u64 x] u fun e w' => e = .returned (.tuple #[]) ∧ Pm w' X sf (.slice (some ⟨G, 0, none⟩) L cap) place wv (shuf x (L - 1) row) ws ∧ Turn G u w') := hid (fun u hu => shuffle_any hL1 hL x hx hx2 u hu)
  obtain ⟨q0, q1, q2, q3⟩ := at_cells4 h.a
  have HLr : Hid ((rowN L place x row).length = L) := hid (by
    have h1 := (og_len encU_ok h.r).1
    unfold rowN
    split
    · rw [shuf_len, h1]
    · exact h1)
  obtain ⟨pl, hplN⟩ : ∃ pl, placeN L place = pl := ⟨_, rfl⟩
  have hplt : pl < L := by rw [← hplN]; unfold placeN; split <;> omega
  clear h hL1 hL hws hx hx2
  go_enter Try.func27, Try.ntmps27
  go_wp2_with fail
  go_quiet (fail)
  go_upto_if 15 with fail
  go_cut [16, 17, 18, 19, 20, 21] (fun s16 s17 s18 s19 s20 s21 wx => Hid (Pm wx X sf (.slice (some ⟨G, 0, none⟩) L cap) pl wv (rowN L place x row) ws) ∧ Hid (Tn (Fp X (.slice (some ⟨G, 0, none⟩) L cap) wv) w wx))
  case first =>
    by_cases hp : place = L
    · have hd : ((place : Int) == (L : Int)) = true := by rw [beq_iff_eq]; omega
      have hC := HSh.out (w.drewN nq) (pm_kept HP.out (kept_drewN (kept_refl w) _))
      have HN : Hid (shuf x (L - 1) row = rowN L place x row ∧ (0 : Nat) = pl) := hid ⟨by unfold rowN; rw [if_pos hp], by rw [← hplN]; unfold placeN; rw [if_pos hp]⟩
      clear hp HSh hplN q0 q1 q2 q3
      go_wp2_with (go_at_call 36; refine hC.mono ?_; rintro e w1 ⟨rfl, p1, t1⟩; have HP1 := hid p1; have HT1 := hid t1; obtain ⟨c0, c1, c2, c3⟩ := at_cells4 p1.a; have cf := at_frozen p1.a; clear p1 t1)
      go_meet
      case rel =>
        refine ⟨hid ?_, hid ?_⟩
        · have := pm_place HP1.out 0
          rw [HN.out.1, HN.out.2] at this
          rw [← HN.out.2] at this ⊢
          exact this
        · refine tn_comp (tn_comp (tn_kept (kept_drewN (kept_refl w) nq)) (tn_turn HT1.out) (fun b hb => .inl (.inr (.inl (by rw [hb]; rfl))))) (tn_set w1 X 2 _) (fun b hb => .inl (.inl hb))
    · have hd : ((place : Int) == (L : Int)) = false := by rw [beq_eq_false_iff_ne]; omega
      have HN : Hid (row = rowN L place x row ∧ place = pl) := hid ⟨by unfold rowN; rw [if_neg hp], by rw [← hplN]; unfold placeN; rw [if_neg hp]⟩
      clear hp HSh hplN q0 q1 q2 q3
      go_wp2_with fail
      go_meet
      case rel =>
        refine ⟨hid ?_, hid (tn_kept (kept_drewN (kept_refl w) nq))⟩
        rw [← HN.out.1, ← HN.out.2]
        exact pm_kept HP.out (kept_drewN (kept_refl w) _)
  case rest =>
    obtain ⟨HPc, HTc⟩ := hcut
    clear HP HSh q0 q1 q2 q3
    have HPl : Hid (placeN L place = pl) := hid hplN
    have HRt : Hid (rowN L place x row = rowN L place x row) := hid rfl
    obtain ⟨rt, hrt⟩ : ∃ rt, rowN L place x row = rt := ⟨_, rfl⟩
    rw [hrt] at HPc HLr
    obtain ⟨a, hra⟩ : ∃ a, rt[pl]? = some a := ⟨rt[pl]'(by have := HLr.out; omega), List.getElem?_eq_getElem (by have := HLr.out; omega)⟩
    have HRa := hid hra
    have HRr := hid hrt
    obtain ⟨q0, q1, q2, q3⟩ := at_cells4 HPc.out.a
    have cg := rg_U (rg_own encU_ok HPc.out.r) hra
    rw [Nat.zero_add] at cg
    have hzp : (pl : Int) < (L : Int) := by omega
    have hwp : IntKind.i64.wrap ((pl : Int) + 1) = (pl : Int) + 1 := IntWalk.i64_in _ (by have := HB.out; omega)
    clear hra hrt hplN HRt
    go_wp2_with fail
    go_quiet (fail)
    have HPd := hid (pm_kept HPc.out (kept_drewN (kept_refl wc) nq))
    obtain ⟨r0, r1, r2, r3⟩ := at_cells4 HPd.out.a
    have rf := at_frozen HPd.out.a
    have HPe : Hid (Pm ((wc.drewN nq).setCell ⟨X, 2, none⟩ (.int .i64 ((pl : Int) + 1))) X sf (.slice (some ⟨G, 0, none⟩) L cap) (pl + 1) wv rt ws) := hid (pm_place HPd.out (pl + 1))
    have HTe := hid (tn_comp (tn_next HTc.out (kept_drewN (kept_refl wc) nq)) (tn_set _ X 2 (.int .i64 ((pl : Int) + 1))) (fun b hb => .inl (.inl hb)))
    have hC := waitof_any (by have := HB.out; omega) a _ HPe.out.a (rg_own encW_ok HPe.out.w)
    clear cg q0 q1 q2 q3 HPc HTc
    obtain ⟨we, hwe⟩ : ∃ u, (wc.drewN nq).setCell ⟨X, 2, none⟩ (.int .i64 ((pl : Int) + 1)) = u := ⟨_, rfl⟩
    rw [hwe] at HPe HTe hC
    go_wp2_with fail
    clear hwe r0 r1 r2 r3 rf HPd hwp hzp
    refine hC.mono ?_
    rintro e w1 ⟨z, rfl, hz, k1⟩
    have HP1 := hid (pm_kept HPe.out k1)
    have HT1 := hid (tn_next HTe.out k1)
    have HSz : Hid (w.heap.size ≤ w1.heap.size) := hid HT1.out.2.2.1
    clear hC k1 HPe HTe
    rcases hz with ⟨rfl, hz⟩ | ⟨i, rfl, hz⟩
    · have HN : Hid (waitN ws a = ws ++ [⟨a, 0⟩]) := hid (by unfold waitN; rw [isW_no hz]; rfl)
      clear hz
      obtain ⟨c0, c1, c2, c3⟩ := at_cells4 HP1.out.a
      have ka := kept_alloc (kept_refl w1) (.cells #[.int .u8 a, .int .i64 0] 86)
      have HPa := hid (pm_kept HP1.out ka)
      have HTa := hid (tn_next HT1.out ka)
      have HAl := hid (rg_alone encW_ok (y := (⟨a, 0⟩ : Wt)) (at_new w1 #[.int .u8 a, .int .i64 0] 86))
      have hB0 : Hid (0 ≤ (w1.alloc (.cells #[.int .u8 a, .int .i64 0] 86)).heap.size) := hid (Nat.zero_le _)
      have HWs : Hid (ws.length + 1 ≤ 4096) := hid (by have := HB.out; omega)
      have hzw := zeroPW
      obtain ⟨wa, wc2, hwv, -, -⟩ := og_is encW_ok HPa.out.w
      subst hwv
      clear ka
      go_wp2_with (at_builtin; go_must (refine wpList_gappL rfl (.tmp 47) (.tmp 50) rfl encW_ok tyPW (by decide) 0 _ _ _ _ [⟨a, 0⟩] rfl HPa.out.w rfl (by simp) HAl.out (by simpa using HWs.out) hB0.out ?_; intro v3 w3 hown3 hgrow3 hland3; have hX3 := at_beside HPa.out.a HPa.out.w (by decide) hgrow3; have hR3 := og_beside HPa.out.r HPa.out.w (by decide) hgrow3; obtain ⟨d0, d1, d2, d3⟩ := at_cells4 hX3; have df := at_frozen hX3; have HP3 := hid (pm_waits hX3 hR3 hown3); have ht2 := tn_grown hgrow3; have HT3 : Hid (Tn (Fp X (.slice (some ⟨G, 0, none⟩) L cap) (.slice wa ws.length wc2)) w (w3.setCell ⟨X, 3, none⟩ v3)) := hid (tn_comp (tn_comp HTa.out ht2 (fun b hb => Or.inl (Or.inr (Or.inr hb)))) (tn_set w3 X 3 v3) (fun b hb => Or.inl (Or.inl hb))); clear ht2; have HLd := hid hland3; have HSz2 : Hid (w1.heap.size ≤ (w1.alloc (.cells #[.int .u8 a, .int .i64 0] 86)).heap.size) := hid (by simp); obtain ⟨va, vc, hv3, -, -⟩ := og_is encW_ok hown3; obtain ⟨ln, hln⟩ : ∃ ln, (ws ++ [(⟨a, 0⟩ : Wt)]).length = ln := ⟨_, rfl⟩; rw [hln] at hv3; clear hln hX3 hR3 hown3 hgrow3 hland3; subst hv3))
      go_ret
      refine ⟨a, .slice va ln vc, rfl, ?_, ?_, HT3.out, fun b hb => ?_⟩
      · rw [HRr.out, HPl.out]; exact HRa.out
      · rw [HRr.out, HPl.out, HN.out]; exact HP3.out
      · rcases HLd.out b hb with e | e
        · exact .inl e
        · exact .inr (by have := HSz.out; have := HSz2.out; omega)
    · have HN : Hid (waitN ws a = ws) := hid (by unfold waitN; rw [isW_yes hz]; rfl)
      clear hz
      have hiz : ¬ (i : Int) < 0 := by omega
      go_wp2_with fail
      go_ret
      refine ⟨a, wv, rfl, ?_, ?_, HT1.out, fun b hb => .inl hb⟩
      · rw [HRr.out, HPl.out]; exact HRa.out
      · rw [HRr.out, HPl.out, HN.out]; exact HP1.out
end Go.Proofs.Ytgmcjnhijgnadaa
