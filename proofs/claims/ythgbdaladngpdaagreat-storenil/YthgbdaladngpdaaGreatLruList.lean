/- A list in memory that has just these numbers, in this order (Good); the contracts of Use, Drop, Oldest and New. -/
import Derived.Test.YthgbdaladngpdaaGreatLruLinks
import Derived.Laws.MakeOwn
import Derived.Deep.RegionHeld3
namespace Go.Proofs.YthgbdaladngpdaaGreat.Lru
open Go.ChangeShapes Go.WideShapes Go.ChangeAt Go.RowKit
set_option linter.unusedVariables false
set_option maxRecDepth 100000
set_option linter.unusedSimpArgs false

/- A list in memory. -/
structure Good (w : World) (X R n : Nat) (l : List Nat) : Prop where
  some : 1 ≤ n
  low : n ≤ 1024
  ring : ∃ A B, Lst w X R n A B ∧ Ring n A B l
section
variable {w w' : World} {X R n : Nat} {l : List Nat}
theorem good_kept (g : Good w X R n l) (k : Kept w w') : Good w' X R n l := by
  obtain ⟨h1, h2, A, B, h, r⟩ := g
  exact ⟨h1, h2, A, B, lst_kept h k, r⟩
theorem good_alloc (g : Good w X R n l) (o : Obj) : Good (w.alloc o) X R n l := good_kept g (kept_alloc (kept_refl w) o)
theorem good_once (g : Good w X R n l) : l.Nodup := by obtain ⟨_, _, A, B, _, r⟩ := g; exact r.once
theorem good_lt (g : Good w X R n l) : ∀ x, x ∈ l → x < n := by obtain ⟨_, _, A, B, _, r⟩ := g; exact r.low
theorem once_len : ∀ (n : Nat) (l : List Nat), l.Nodup → (∀ x, x ∈ l → x < n) → l.length ≤ n
  | 0, [], _, _ => Nat.le_refl _
  | 0, x :: l, _, h => absurd (h x (by simp)) (by omega)
  | n + 1, l, hd, h => by
    have h1 := once_len n (wo l n) (wo_nodup hd) (fun x hx => by have := h x (mem_wo.1 hx).1; have := (mem_wo.1 hx).2; omega)
    by_cases hn : n ∈ l
    · obtain ⟨p, q, rfl⟩ := List.append_of_mem hn
      rw [wo_mid hd] at h1
      simp at h1 ⊢
      omega
    · rw [wo_not hn] at h1
      omega
theorem good_len (g : Good w X R n l) : l.length ≤ n := once_len n l (good_once g) (good_lt g)
end
theorem use_nil (i : Int) (w : World) : Calls Tryz.prog 49 #[.pointer none, .int .i64 i] w fun e w' => e = .returned (.int .i64 1) ∧ w' = w := by
  go_enter Tryz.func49, Tryz.ntmps49
  go_wp2_with (go_at_call 82; refine (may_nil i _).mono ?_; rintro e w1 ⟨rfl, rfl⟩)
  go_ret
  exact ⟨rfl, rfl⟩
theorem drop_nil (i : Int) (w : World) : Calls Tryz.prog 75 #[.pointer none, .int .i64 i] w fun e w' => e = .returned (.bool false) ∧ w' = w := by
  go_enter Tryz.func75, Tryz.ntmps75
  go_wp2_with (go_at_call 82; refine (may_nil i _).mono ?_; rintro e w1 ⟨rfl, rfl⟩)
  go_ret
  exact ⟨rfl, rfl⟩
theorem oldest_nil (w : World) : Calls Tryz.prog 103 #[.pointer none] w fun e w' => e = .returned (.tuple #[.int .i64 0, .bool false]) ∧ w' = w := by
  go_enter Tryz.func103, Tryz.ntmps103
  go_wp2_with fail
  go_ret2
  exact ⟨rfl, rfl⟩

/- A number that it may not have. -/
set_option maxHeartbeats 800000 in
theorem use_bad {X R n : Nat} {l : List Nat} (i : Int) (hi : ¬ (0 ≤ i ∧ i < (n : Int))) (w : World) (g : Good w X R n l) :
    Calls Tryz.prog 49 #[.pointer (some ⟨X, 0, none⟩), .int .i64 i] w fun e w' => e = .returned (.int .i64 1) ∧ w' = w := by
  obtain ⟨h1, h2, A, B, h, r⟩ := g
  have hM := may_any h2 i w h
  rw [decide_eq_false hi] at hM
  clear h r hi
  go_enter Tryz.func49, Tryz.ntmps49
  go_wp2_with fail
  refine hM.mono ?_
  rintro e w1 ⟨rfl, rfl⟩
  go_wp2_with fail
  go_ret
  exact ⟨rfl, rfl⟩
set_option maxHeartbeats 800000 in
theorem drop_bad {X R n : Nat} {l : List Nat} (i : Int) (hi : ¬ (0 ≤ i ∧ i < (n : Int))) (w : World) (g : Good w X R n l) :
    Calls Tryz.prog 75 #[.pointer (some ⟨X, 0, none⟩), .int .i64 i] w fun e w' => e = .returned (.bool false) ∧ w' = w := by
  obtain ⟨h1, h2, A, B, h, r⟩ := g
  have hM := may_any h2 i w h
  rw [decide_eq_false hi] at hM
  clear h r hi
  go_enter Tryz.func75, Tryz.ntmps75
  go_wp2_with fail
  refine hM.mono ?_
  rintro e w1 ⟨rfl, rfl⟩
  go_wp2_with fail
  go_ret
  exact ⟨rfl, rfl⟩
set_option maxHeartbeats 800000 in
theorem use_any {X R n : Nat} {l : List Nat} (i : Nat) (hi : i < n) (w : World) (g : Good w X R n l) :
    Calls Tryz.prog 49 #[.pointer (some ⟨X, 0, none⟩), .int .i64 (i : Int)] w fun e w' => e = .returned (.int .i64 0) ∧ Turn R w w' ∧ Good w' X R n (i :: wo l i) := by
  obtain ⟨h1, h2, A, B, h, r⟩ := g
  have hM := may_any h2 (i : Int) w h
  rw [decide_eq_true (by omega)] at hM
  have hb := ring_bound r (Nat.le_of_lt hi)
  have hO := out_any h2 i (Nat.le_of_lt hi) hb.1 hb.2 w h
  have r2 := ring_out r hi
  have hb2 := ring_bound r2 (Nat.le_refl n)
  have HR := hid (ring_put r2 hi (fun hx => (mem_wo.1 hx).2 rfl))
  have HP := hid (fun w1 (h : Lst w1 X R n (upd (upd A (B i) (A i)) i i) (upd (upd B (A i) (B i)) i i)) => put_any h2 i (Nat.le_of_lt hi) hb2.2 w1 h)
  clear h r r2 hb hb2
  generalize upd (upd A (B i) (A i)) i i = A2 at *
  generalize upd (upd B (A i) (B i)) i i = B2 at *
  go_enter Tryz.func49, Tryz.ntmps49
  go_wp2_with fail
  refine hM.mono ?_
  rintro e w1 ⟨rfl, rfl⟩
  go_wp2_with fail
  refine hO.mono ?_
  rintro e w2 ⟨rfl, t2, l2⟩
  go_wp2_with fail
  refine (HP.out w2 l2).mono ?_
  rintro e w3 ⟨rfl, t3, l3⟩
  go_wp2_with fail
  go_ret
  exact ⟨rfl, t2.trans t3, h1, h2, _, _, l3, HR.out⟩
set_option maxHeartbeats 800000 in
theorem drop_any {X R n : Nat} {l : List Nat} (i : Nat) (hi : i < n) (w : World) (g : Good w X R n l) :
    Calls Tryz.prog 75 #[.pointer (some ⟨X, 0, none⟩), .int .i64 (i : Int)] w fun e w' => e = .returned (.bool (decide (i ∈ l))) ∧ Turn R w w' ∧ Good w' X R n (wo l i) := by
  obtain ⟨h1, h2, A, B, h, r⟩ := g
  have hM := may_any h2 (i : Int) w h
  rw [decide_eq_true (by omega)] at hM
  obtain ⟨c0, r0, r1, cf, rf⟩ := lst_cells h (Nat.le_of_lt hi)
  have hin : i ≤ n := Nat.le_of_lt hi
  have ht := ring_there r hi
  by_cases hl : i ∈ l
  · have hb := ring_bound r (Nat.le_of_lt hi)
    have hO := out_any h2 i (Nat.le_of_lt hi) hb.1 hb.2 w h
    have HR := hid (ring_out r hi)
    have hne : ((B i : Int) == (i : Int)) = false := by
      have : B i ≠ i := fun e => ht.1 e hl
      simp; omega
    rw [decide_eq_true hl]
    clear h r hb ht hl
    generalize upd (upd A (B i) (A i)) i i = A2 at *
    generalize upd (upd B (A i) (B i)) i i = B2 at *
    generalize B i = b at *
    go_enter Tryz.func75, Tryz.ntmps75
    go_wp2_with fail
    refine hM.mono ?_
    rintro e w1 ⟨rfl, rfl⟩
    go_wp2_with fail
    refine hO.mono ?_
    rintro e w2 ⟨rfl, t2, l2⟩
    go_wp2_with fail
    go_ret
    exact ⟨rfl, t2, h1, h2, _, _, l2, HR.out⟩
  · have hne : ((B i : Int) == (i : Int)) = true := by
      have : B i = i := ht.2 hl
      simp; omega
    rw [decide_eq_false hl, wo_not hl]
    have HG := hid (Good.mk h1 h2 ⟨A, B, h, r⟩)
    clear h r ht hl
    generalize B i = b at *
    go_enter Tryz.func75, Tryz.ntmps75
    go_wp2_with fail
    refine hM.mono ?_
    rintro e w1 ⟨rfl, rfl⟩
    go_wp2_with fail
    go_ret
    exact ⟨rfl, Turn.refl R _, HG.out⟩
/- Any number. -/
theorem use_int {X R n : Nat} {l : List Nat} (i : Int) (w : World) (g : Good w X R n l) :
    Calls Tryz.prog 49 #[.pointer (some ⟨X, 0, none⟩), .int .i64 i] w fun e w' => ∃ l', e = .returned (.int .i64 (if 0 ≤ i ∧ i < (n : Int) then 0 else 1)) ∧ Turn R w w' ∧ Good w' X R n l' ∧ l' = if 0 ≤ i ∧ i < (n : Int) then i.toNat :: wo l i.toNat else l := by
  by_cases h : 0 ≤ i ∧ i < (n : Int)
  · obtain ⟨k, rfl⟩ := Int.eq_ofNat_of_zero_le h.1
    refine (use_any k (by omega) w g).mono ?_
    rintro e w' ⟨rfl, t, g'⟩
    refine ⟨_, by rw [if_pos h], t, g', ?_⟩
    rw [if_pos h]; simp
  · refine (use_bad i h w g).mono ?_
    rintro e w' ⟨rfl, rfl⟩
    exact ⟨l, by rw [if_neg h], Turn.refl R _, g, by rw [if_neg h]⟩
theorem drop_int {X R n : Nat} {l : List Nat} (i : Int) (w : World) (g : Good w X R n l) :
    Calls Tryz.prog 75 #[.pointer (some ⟨X, 0, none⟩), .int .i64 i] w fun e w' => e = .returned (.bool (decide (0 ≤ i ∧ i.toNat ∈ l))) ∧ Turn R w w' ∧ Good w' X R n (if 0 ≤ i then wo l i.toNat else l) := by
  by_cases h : 0 ≤ i ∧ i < (n : Int)
  · obtain ⟨k, rfl⟩ := Int.eq_ofNat_of_zero_le h.1
    refine (drop_any k (by omega) w g).mono ?_
    rintro e w' ⟨rfl, t, g'⟩
    refine ⟨says_bool (by simp), t, ?_⟩
    rw [if_pos h.1]; simpa using g'
  · refine (drop_bad i h w g).mono ?_
    rintro e w' ⟨rfl, rfl⟩
    have hm : 0 ≤ i → i.toNat ∉ l := fun h0 hx => by have := good_lt g _ hx; omega
    refine ⟨says_bool (by symm; rw [decide_eq_false]; exact fun hx => hm hx.1 hx.2), Turn.refl R _, ?_⟩
    split
    · rename_i h0; rw [wo_not (hm h0)]; exact g
    · exact g
def oldI (l : List Nat) : Int := if h : l = [] then 0 else (l.getLast h : Int)
set_option maxHeartbeats 1600000 in
theorem oldest_any {X R n : Nat} {l : List Nat} (w : World) (g : Good w X R n l) :
    Calls Tryz.prog 103 #[.pointer (some ⟨X, 0, none⟩)] w fun e w' => e = .returned (.tuple #[.int .i64 (oldI l), .bool (!l.isEmpty)]) ∧ Kept w w' := by
  have HG := hid g
  obtain ⟨h1, h2, A, B, h, r⟩ := g
  have hE := fun w1 (h : Lst w1 X R n A B) => end_any h2 w1 h
  have HL := hid h
  have hla := ring_last r
  have hA := (ring_bound r (Nat.le_refl n)).1
  obtain ⟨c0, r0, r1, cf, rf⟩ := lst_cells h (Nat.le_refl n)
  by_cases hl : l = []
  · have ha : ((A n : Int) == (n : Int)) = true := by rw [dif_pos hl] at hla; simp [hla]
    have HO : Hid (oldI l = 0 ∧ (!l.isEmpty) = false) := hid (by subst hl; exact ⟨rfl, rfl⟩)
    clear h r hla hl
    generalize A n = a at *
    go_enter Tryz.func103, Tryz.ntmps103
    go_wp2_with fail
    go_quiet ((go_at_call 105; exact Calls.quiet_of_same (hE _ HL.out)))
    replace HL := hid (lst_kept HL.out (kept_drewN (kept_refl w) nq))
    go_wp2_with fail
    refine (hE _ HL.out).mono ?_
    rintro e w2 ⟨rfl, rfl⟩
    go_wp2_with fail
    go_ret2
    rw [HO.out.1, HO.out.2]
    exact ⟨rfl, kept_drewN (kept_refl w) nq⟩
  · have ha : ((A n : Int) == (n : Int)) = false := by
      rw [dif_neg hl] at hla
      have := r.low _ (List.getLast_mem hl)
      simp; omega
    have HO : Hid (oldI l = (A n : Int) ∧ (!l.isEmpty) = true) := hid (by
      rw [hla, dif_neg hl]; unfold oldI; rw [dif_neg hl]
      refine ⟨rfl, ?_⟩
      cases l with
      | nil => exact absurd rfl hl
      | cons x t => rfl)
    clear h r hla hl
    generalize A n = a at *
    go_enter Tryz.func103, Tryz.ntmps103
    go_wp2_with fail
    go_quiet ((go_at_call 105; exact Calls.quiet_of_same (hE _ HL.out)))
    replace HL := hid (lst_kept HL.out (kept_drewN (kept_refl w) nq))
    go_wp2_with fail
    refine (hE _ HL.out).mono ?_
    rintro e w2 ⟨rfl, rfl⟩
    go_wp2_with fail
    go_ret2
    rw [HO.out.1, HO.out.2]
    exact ⟨rfl, kept_drewN (kept_refl w) nq⟩
end Go.Proofs.YthgbdaladngpdaaGreat.Lru
