/- Two sets compared; the contract of the landed Moved. -/
import Derived.Test.YtfdnfnnagchjcaaRgOwn
import Derived.Test.YtfdnfnnagchjcaaClone
import Derived.Deep.RegionHeld3
namespace Go.Proofs.Ytfdnfnnagchjcaa
open Go.ChangeShapes Go.WideShapes Go.ChangeAt Go.RowKit
set_option linter.unusedVariables false
set_option linter.unusedSimpArgs false
set_option maxRecDepth 100000

/- Are two sets the same? -/
def eqL (p q : Int → Bool) (is : List Nat) : Bool := is.all (fun k => p (k : Int) == q (k : Int))
theorem part_bv (p : Int → Bool) {k : Nat} (h : k < 64) (w : World) : (part 4 (bv p) (k * 1)).run Try.prog w = .ok (.bool (p (k : Int))) w := by
  rw [Nat.mul_one]
  simp [part, isAgg, run_underlying Try.underlying4, bv_get p h]
theorem run_items (d : Nat) (p q : Int → Bool) (w : World) : ∀ is : List Nat, (∀ k ∈ is, k < 64) → (Op.eqItems (d + 1) 4 1 (bv p) (bv q) is).run Try.prog w = .ok (eqL p q is) w
  | [], _ => by simp [Op.eqItems, eqL]
  | i :: is, h => by
    have ih := run_items d p q w is (fun k hk => h k (List.mem_cons_of_mem _ hk))
    have hi := h i (by simp)
    simp only [Op.eqItems, Sem.run_bind, part_bv p hi, part_bv q hi, Result.andThen_ok, run_equalIn_bool w d 4 _ _ Try.underlying4]
    cases hb : (p (i : Int) == q (i : Int)) with
    | false => simp [eqL, hb]
    | true =>
      simp only [Bool.not_true, Bool.false_eq_true, if_false]
      rw [ih]
      simp [eqL, hb]
theorem info4 : (Try.prog.info? 4).isSome = true := by kernel_rfl
theorem cells4 : Try.prog.cellsOf 4 = 1 := by kernel_rfl
theorem neqS (p q : Int → Bool) (w : World) : (binOp .neq 41 (.agg (bv p)) (.agg (bv q))).run Try.prog w = .ok (.bool (!eqL p q (List.range 64))) w := by
  obtain ⟨i4, h4⟩ := Option.isSome_iff_exists.1 info4
  rw [run_neq_struct, run_equalIn_array w 9999 (bv p) (bv q) Try.underlying41 h4, cells4, run_items 9998 p q w _ (fun k hk => List.mem_range.1 hk)]
  rfl
theorem guardS : Try.prog.eqGuardType Try.prog.depth 41 = false := by kernel_rfl
theorem exec_neq {op : Oper} {act : Act} {w : World} {xs ys : Array Value} {r : Bool} {u : TypeId} (x y : Operand) (ho : op.op = .binOp .neq 41 x y u) (hx : act.eval x = .agg xs) (hy : act.eval y = .agg ys) (hr : ∀ w, (binOp .neq 41 (.agg xs) (.agg ys)).run Try.prog w = .ok (.bool r) w) : (execOp act.eval op).run Try.prog w = .ok (.value (.bool r)) w := by
  unfold execOp
  simp [ho, hx, hy, eqGuard, Sem.run_bind, Sem.run_pure, Result.andThen_ok, run_program, guardS, hr]
theorem exec_loadS {op : Oper} {act : Act} {w : World} (x : Operand) {Z : Nat} {cs : Array Value} (ho : op.op = .load 41 x) (hx : act.eval x = .pointer (some ⟨Z, 0, none⟩)) (hld : (loadVar 41 ⟨Z, 0, none⟩).run Try.prog w = .ok (.agg cs) w) : (execOp act.eval op).run Try.prog w = .ok (.value (.agg cs)) w := by
  unfold execOp
  simp only [ho, hx, Instr.loadAt, Instr.sureAddr, Sem.run_bind, Sem.run_pure, Result.andThen_ok, hld]
theorem own_nodup (W : Int → Int) (p : Int → Bool) : (own W p).Nodup := by
  rcases own_cases W p with ⟨e, g⟩ | ⟨a, e, g1, g2⟩ | ⟨a, b, e, g1, g2⟩
  · rw [e]; simp
  · rw [e]; simp
  · rw [e]
    have := (wo_true.1 (bst_some g2).has).2
    simp [Ne.symm this]
theorem eqL_same {x y : List Int} (hx : ∀ n ∈ x, 0 ≤ n ∧ n < 64) (hy : ∀ n ∈ y, 0 ≤ n ∧ n < 64) (nx : x.Nodup) (ny : y.Nodup) (lx : x.length ≤ 2) : eqL (mem x) (mem y) (List.range 64) = sameO x y := by
  rw [Bool.eq_iff_iff]
  unfold eqL sameO
  rw [List.all_eq_true, Bool.and_eq_true, decide_eq_true_eq, List.all_eq_true]
  constructor
  · intro h
    have key : ∀ n, n ∈ x ↔ n ∈ y := fun n => by
      by_cases hn : 0 ≤ n ∧ n < 64
      · have := h n.toNat (List.mem_range.2 (by omega))
        rw [show ((n.toNat : Nat) : Int) = n by omega, beq_iff_eq] at this
        unfold mem at this
        rw [Bool.eq_iff_iff, decide_eq_true_eq, decide_eq_true_eq] at this
        exact this
      · exact ⟨fun h => absurd (hx n h) hn, fun h => absurd (hy n h) hn⟩
    have hp : x.Perm y := (List.perm_ext_iff_of_nodup nx ny).2 key
    exact ⟨hp.length_eq, fun n hn => by unfold mem; rw [decide_eq_true_eq]; exact (key n).1 hn⟩
  · rintro ⟨hl, hs⟩ k hk
    have sub : x ⊆ y := fun n hn => by have := hs n hn; unfold mem at this; rwa [decide_eq_true_eq] at this
    rw [beq_iff_eq]
    unfold mem
    rw [Bool.eq_iff_iff, decide_eq_true_eq, decide_eq_true_eq]
    refine ⟨fun h => sub h, fun h => ?_⟩
    match x, y, lx, hl, nx, sub, h with
    | [], [], _, _, _, _, h => exact h
    | [a], [b], _, _, _, sub, h =>
      have := sub (List.mem_singleton.2 rfl)
      rw [List.mem_singleton] at this h ⊢
      rw [h, this]
    | [a, b], [c, d], _, _, nx, sub, h =>
      have h1 := sub (show a ∈ [a, b] by simp)
      have h2 := sub (show b ∈ [a, b] by simp)
      have h3 : a ≠ b := by simpa using nx
      simp only [List.mem_cons, List.not_mem_nil, or_false] at h1 h2 h ⊢
      omega
    | _ :: _ :: _ :: _, _, lx, _, _, _, _ => simp at lx
theorem owners_sets (key : ByteArray) (a b : List Int) : eqL (mem (owners key a)) (mem (owners key b)) (List.range 64) = sameO (owners key a) (owners key b) :=
  eqL_same (fun n hn => ⟨(owners_in hn).1, (owners_in hn).2.1⟩) (fun n hn => ⟨(owners_in hn).1, (owners_in hn).2.1⟩) (own_nodup _ _) (own_nodup _ _) (owners_len _ _)
theorem owners_u8 (key : ByteArray) (l : List Int) : U8 (owners key l) := fun n hn => ⟨(owners_in hn).1, by have := (owners_in hn).2.1; omega⟩
set_option maxHeartbeats 6400000 in
theorem moved_is : MovedIs := by
  intro l a b v u z w hl hk hab ha hb h hu hz
  have HR := hid h
  have HSa := hid (set_any a ha u w hu)
  have HSb := hid (fun w' (k : Kept w w') => set_any b hb z w' (rg_kept encU_ok hz k))
  have HKs := hid hk
  have HTx := hid (fun (key : ByteArray) (h : key.size ≤ 1000) u => text_any key (by unfold maxLen; omega) u)
  have HOw := hid (fun (key : ByteArray) (c : List Int) u' => owns_t (textI key.data.toList key.size) (mem c) u')
  have HSt := hid (fun (key : ByteArray) (c : List Int) v u' h => set_any (owners key c) (owners_u8 key c) v u' h)
  have HWq := hid wq_wt
  have HNeq := hid (fun (key : ByteArray) u' => neqS (mem (owners key a)) (mem (owners key b)) u')
  have HSets := hid (fun key => owners_sets key a b)
  have HCl := hid (fun (s : ByteArray) (h : s.size ≤ 1000) u => clone_any s (by omega) u)
  obtain ⟨d, cap, rfl, -, -, -, -⟩ := h
  have HG : Hid (∀ k, k < l.length → ∃ y, l[k]? = some y) := hid (fun k hk => ⟨l[k], List.getElem?_eq_getElem hk⟩)
  have HP : Hid (0 < l.length → ∃ g o, d = some ⟨g, o, none⟩) := hid (fun hp => by
    obtain ⟨g, o, c, e⟩ := rg_pos HR.out hp
    injection e with e1
    exact ⟨g, o, e1⟩)
  have HT : Hid (l.take l.length = l) := hid List.take_length
  have HLt : Hid (∀ k, (moved (l.take k) a b).length ≤ 50) := hid (fun k => by have := moved_len (l.take k) a b; rw [List.length_take] at this; omega)
  have HEnd : Hid (∀ v u B, Og encK 1 9 u B v (moved l a b) → Kept w u → RowR encK 1 (moved l a b) w (.returned v) u) := hid (fun v u B h1 h2 => ⟨v, rfl, rg_own encK_ok h1, h2⟩)
  have hl2 : l.length ≤ 50 := hl
  clear hu hz hk ha hb hab hl
  generalize hnn : l.length = n at *
  clear hnn
  go_enter Try.func19, Try.ntmps19
  go_wp2_with fail
  refine HSa.out.mono ?_
  rintro e w1 ⟨rfl, k1⟩
  have HK1 := hid k1
  have hSb := HSb.out w1 k1
  clear k1 HSa HSb
  obtain ⟨na, hna⟩ : ∃ na, bv (mem a) = na := ⟨_, rfl⟩
  have HNa := hid hna
  rw [hna]
  clear hna
  go_wp2_with fail
  refine hSb.mono ?_
  rintro e w2 ⟨rfl, k2⟩
  have HK2 := hid (kept_trans HK1.out k2)
  clear k2 HK1 hSb
  obtain ⟨nb, hnb⟩ : ∃ nb, bv (mem b) = nb := ⟨_, rfl⟩
  have HNb := hid hnb
  rw [hnb]
  clear hnb
  have hz := zeroS
  obtain ⟨P, hP⟩ : ∃ P, w2.heap.size = P := ⟨_, rfl⟩
  obtain ⟨w3, hw3⟩ : ∃ w3, w2.alloc (.cells (bv (fun _ => false)) 41) = w3 := ⟨_, rfl⟩
  have a3 := at_new w2 (bv (fun _ => false)) 41
  have k3 := kept_alloc (kept_refl w2) (.cells (bv (fun _ => false)) 41)
  have s3 : w3.heap.size = P + 1 := by rw [← hw3, ← hP]; simp
  rw [hw3] at a3 k3
  rw [hP] at a3
  obtain ⟨Q, hQ⟩ : ∃ Q, w3.heap.size = Q := ⟨_, rfl⟩
  obtain ⟨w4, hw4⟩ : ∃ w4, w3.alloc (.cells (bv (fun _ => false)) 41) = w4 := ⟨_, rfl⟩
  have a4 := at_new w3 (bv (fun _ => false)) 41
  have k4 := kept_alloc (kept_refl w3) (.cells (bv (fun _ => false)) 41)
  rw [hw4] at a4 k4
  rw [hQ] at a4
  have b3 := at_kept a3 k4
  have st1 := storeS (q := mem a) b3
  have A5 := at_setRow (cs := bv (mem a)) b3
  have hPQ : P ≠ Q := by omega
  have B5 : At (w4.setRow P (bv (mem a))) Q (bv (fun _ => false)) 41 := (setRow_other (Ne.symm hPQ)).trans a4
  have K5 : Kept w (w4.setRow P (bv (mem a))) := kept_setRow (kept_trans HK2.out (kept_trans k3 k4)) (by have := HK2.out.2; omega) _
  generalize w4.setRow P (bv (mem a)) = w5 at *
  have st2 := storeS (q := mem b) B5
  have A6 : At (w5.setRow Q (bv (mem b))) P (bv (mem a)) 41 := (setRow_other hPQ).trans A5
  have B6 := at_setRow (cs := bv (mem b)) B5
  have K6 : Kept w (w5.setRow Q (bv (mem b))) := kept_setRow K5 (by have := HK2.out.2; omega) _
  generalize w5.setRow Q (bv (mem b)) = W0 at *
  rw [HNa.out] at st1
  rw [HNb.out] at st2
  have HST1 := hid st1
  have HST2 := hid st2
  have HKW := hid K6
  have HS : Hid (∀ u, Kept W0 u → (loadVar 41 ⟨P, 0, none⟩).run Try.prog u = .ok (.agg na) u ∧ (loadVar 41 ⟨Q, 0, none⟩).run Try.prog u = .ok (.agg nb) u) := hid (fun u k => ⟨by have := loadS (at_kept A6 k); rw [HNa.out] at this; exact this, by have := loadS (at_kept B6 k); rw [HNb.out] at this; exact this⟩)
  clear a3 k3 s3 a4 k4 b3 st1 st2 A5 B5 K5 A6 B6 K6 hPQ
  go_wp2_with (first | (refine wpList_storeS rfl _ _ rfl P rfl na rfl _ HST1.out ?_) | (refine wpList_storeS rfl _ _ rfl Q rfl nb rfl _ HST2.out ?_))
  clear hz hw3 hw4 hP hQ HST1 HST2
  generalize hB0 : W0.heap.size = B0 at *
  have HB0 := hid hB0
  clear hB0
  go_loopw [9, 19] (fun ks j wr => ∃ k : Nat, k ≤ n ∧ j = .int .i64 (k : Int) ∧ Hid (Og encK 1 9 wr B0 ks (moved (l.take k) a b)) ∧ Hid (Kept W0 wr)) (fun _ j _ => n - (intOf j).toNat)
  case atStart => exact ⟨0, Nat.zero_le _, rfl, hid (og_nil _ _ _ _ _), hid (kept_refl _)⟩
  case round =>
    obtain ⟨k, hk, rfl, HO, HKr⟩ := hrel
    by_cases hlt : k < n
    · obtain ⟨x, hx⟩ := HG.out k hlt
      obtain ⟨g, o, rfl⟩ := HP.out (by omega)
      have HXs := hid (HKs.out x (List.mem_of_getElem? hx))
      have HNx := hid (moved_next hx a b)
      have c0 := rg_K (rg_kept encK_ok HR.out (kept_trans HKW.out HKr.out)) hx
      have hT := HTx.out x HXs.out wr
      have h2 := HOw.out x a
      have h6 := HOw.out x b
      rw [HWq.out] at h2 h6
      have H2 : Hid (∀ u', Calls Try.prog 25 #[.int .u64 (textI x.data.toList x.size), .agg na] u' (GRowC encU 1 5 (owners x a) u')) := hid (by rw [← HNa.out]; exact h2)
      have H6 : Hid (∀ u', Calls Try.prog 25 #[.int .u64 (textI x.data.toList x.size), .agg nb] u' (GRowC encU 1 5 (owners x b) u')) := hid (by rw [← HNb.out]; exact h6)
      obtain ⟨ma, hma⟩ : ∃ ma, bv (mem (owners x a)) = ma := ⟨_, rfl⟩
      obtain ⟨mb, hmb⟩ : ∃ mb, bv (mem (owners x b)) = mb := ⟨_, rfl⟩
      have H3 : Hid (∀ v u', Rg encU 1 u' v (owners x a) → Calls Try.prog 26 #[v] u' fun e w' => e = .returned (.agg ma) ∧ Kept u' w') := hid (by rw [← hma]; exact HSt.out x a)
      have H7 : Hid (∀ v u', Rg encU 1 u' v (owners x b) → Calls Try.prog 26 #[v] u' fun e w' => e = .returned (.agg mb) ∧ Kept u' w') := hid (by rw [← hmb]; exact HSt.out x b)
      obtain ⟨r, hr⟩ : ∃ r, (!sameO (owners x a) (owners x b)) = r := ⟨_, rfl⟩
      have HNq : Hid (∀ u', (binOp .neq 41 (.agg ma) (.agg mb)).run Try.prog u' = .ok (.bool r) u') := hid (by rw [← hma, ← hmb, ← hr, ← HSets.out]; exact HNeq.out x)
      have HRr := hid hr
      generalize textI x.data.toList x.size = t at *
      clear hx h2 h6 hma hmb hr
      go_wp2_with fail
      refine hT.mono ?_
      rintro e wr ⟨rfl, rfl⟩
      clear hT c0
      go_wp2_with fail
      have hS0 := HS.out wr HKr.out
      have HKz := hid (kept_drew HKr.out)
      have HOz := hid (og_stays HO.out (kept_drew (kept_refl wr)))
      have hS1 := HS.out wr.drew HKz.out
      clear HO HKr
      refine wp_region_noPanic ?_
      refine wp_region_held_drew (S := (fun w' => (loadVar 41 ⟨P, 0, none⟩).run Try.prog w' = .ok (.agg na) w' ∧ (loadVar 41 ⟨Q, 0, none⟩).run Try.prog w' = .ok (.agg nb) w')) (by kernel_rfl) (by assumption) (fun hHeld => ?_)
      generalize wr.drew = wz at *
      refine wpAnyH_take (i := 0) (v := .int .u64 t) rfl (by kernel_rfl) (by kernel_rfl) (by kernel_rfl) (fun _ _ _ h => h) (Or.inl ⟨by rfl, fun w hSw => by (try dsimp only at hSw); go_simp⟩) (by assumption) ?_
      try simp only [List.getElem_toArray, List.getElem_cons_zero, List.getElem_cons_succ, Act.put, List.setIfInBounds_toArray, List.set_cons_zero, List.set_cons_succ]
      refine wpAnyH_take (i := 1) (v := .agg na) rfl (by kernel_rfl) (by kernel_rfl) (by kernel_rfl) (fun _ _ _ h => h) (Or.inl ⟨by rfl, fun w hSw => exec_loadS _ rfl rfl hSw.1⟩) (by assumption) ?_
      try simp only [List.getElem_toArray, List.getElem_cons_zero, List.getElem_cons_succ, Act.put, List.setIfInBounds_toArray, List.set_cons_zero, List.set_cons_succ]
      refine wpAnyH_take (i := 4) (v := .int .u64 t) rfl (by kernel_rfl) (by kernel_rfl) (by kernel_rfl) (fun _ _ _ h => h) (Or.inl ⟨by rfl, fun w hSw => by (try dsimp only at hSw); go_simp⟩) (by assumption) ?_
      try simp only [List.getElem_toArray, List.getElem_cons_zero, List.getElem_cons_succ, Act.put, List.setIfInBounds_toArray, List.set_cons_zero, List.set_cons_succ]
      refine wpAnyH_take (i := 5) (v := .agg nb) rfl (by kernel_rfl) (by kernel_rfl) (by kernel_rfl) (fun _ _ _ h => h) (Or.inl ⟨by rfl, fun w hSw => exec_loadS _ rfl rfl hSw.2⟩) (by assumption) ?_
      try simp only [List.getElem_toArray, List.getElem_cons_zero, List.getElem_cons_succ, Act.put, List.setIfInBounds_toArray, List.set_cons_zero, List.set_cons_succ]
      refine wpAnyH_ready (rs := [2]) (by kernel_rfl) (by simp) ?_
      refine AllReadyH.cons (i := 2) rfl (fun K hK => ?_) AllReadyH.nil
      go_simp
      refine (H2.out _).mono ?_
      rintro e wn2 ⟨v2, rfl, o2, k⟩
      have HRa := hid (rg_own encU_ok o2)
      replace HKz := hid (kept_trans HKz.out k)
      replace HOz := hid (og_stays HOz.out k)
      clear k
      have hS := HS.out _ HKz.out
      clear hHeld
      show K _ _
      refine hK.out _ _ (by assumption) (fun hHeld => ?_)
      clear hK K
      try simp only [List.getElem_toArray, List.getElem_cons_zero, List.getElem_cons_succ, Act.put, List.setIfInBounds_toArray, List.set_cons_zero, List.set_cons_succ]
      refine wpAnyH_ready (rs := [3]) (by kernel_rfl) (by simp) ?_
      refine AllReadyH.cons (i := 3) rfl (fun K hK => ?_) AllReadyH.nil
      go_simp
      refine (H3.out _ _ HRa.out).mono ?_
      rintro e wn3 ⟨rfl, k⟩
      replace HKz := hid (kept_trans HKz.out k)
      replace HOz := hid (og_stays HOz.out k)
      clear k
      have hS := HS.out _ HKz.out
      clear hHeld
      show K _ _
      refine hK.out _ _ (by assumption) (fun hHeld => ?_)
      clear hK K
      try simp only [List.getElem_toArray, List.getElem_cons_zero, List.getElem_cons_succ, Act.put, List.setIfInBounds_toArray, List.set_cons_zero, List.set_cons_succ]
      refine wpAnyH_ready (rs := [6]) (by kernel_rfl) (by simp) ?_
      refine AllReadyH.cons (i := 6) rfl (fun K hK => ?_) AllReadyH.nil
      go_simp
      refine (H6.out _).mono ?_
      rintro e wn6 ⟨v6, rfl, o6, k⟩
      have HRb := hid (rg_own encU_ok o6)
      replace HKz := hid (kept_trans HKz.out k)
      replace HOz := hid (og_stays HOz.out k)
      clear k
      have hS := HS.out _ HKz.out
      clear hHeld
      show K _ _
      refine hK.out _ _ (by assumption) (fun hHeld => ?_)
      clear hK K
      try simp only [List.getElem_toArray, List.getElem_cons_zero, List.getElem_cons_succ, Act.put, List.setIfInBounds_toArray, List.set_cons_zero, List.set_cons_succ]
      refine wpAnyH_ready (rs := [7]) (by kernel_rfl) (by simp) ?_
      refine AllReadyH.cons (i := 7) rfl (fun K hK => ?_) AllReadyH.nil
      go_simp
      refine (H7.out _ _ HRb.out).mono ?_
      rintro e wn7 ⟨rfl, k⟩
      replace HKz := hid (kept_trans HKz.out k)
      replace HOz := hid (og_stays HOz.out k)
      clear k
      have hS := HS.out _ HKz.out
      clear hHeld
      show K _ _
      refine hK.out _ _ (by assumption) (fun hHeld => ?_)
      clear hK K
      try simp only [List.getElem_toArray, List.getElem_cons_zero, List.getElem_cons_succ, Act.put, List.setIfInBounds_toArray, List.set_cons_zero, List.set_cons_succ]
      refine wpAnyH_take (i := 8) (v := .bool r) rfl (by kernel_rfl) (by kernel_rfl) (by kernel_rfl) (fun _ _ _ h => h) (Or.inl ⟨by rfl, fun w hSw => exec_neq _ _ rfl rfl rfl HNq.out⟩) (by assumption) ?_
      try simp only [List.getElem_toArray, List.getElem_cons_zero, List.getElem_cons_succ, Act.put, List.setIfInBounds_toArray, List.set_cons_zero, List.set_cons_succ]
      refine wpAnyH_done (by kernel_rfl) ?_ _
      refine NoPanic.normal ?_
      clear hS0 hS1 hS hHeld HRa HRb o2 o6 H2 H3 H6 H7 HNq HOw HSt HNeq HSets HTx HS
      cases r with
      | false =>
        have HNy : Hid (moved (l.take (k + 1)) a b = moved (l.take k) a b) := hid (by
          rw [HNx.out, if_pos (by have := HRr.out; simpa using this), List.append_nil])
        clear HNx HRr
        go_wp2_with fail
        go_roundw
        case rel => exact ⟨k + 1, by omega, by go_num, hid (by rw [HNy.out]; exact HOz.out), HKz⟩
        case measure => simp [intOf]; omega
      | true =>
        have HNy : Hid (moved (l.take (k + 1)) a b = moved (l.take k) a b ++ [x]) := hid (by
          rw [HNx.out, if_neg (by have := HRr.out; simpa using this)])
        have hC := HCl.out x HXs.out wn7
        clear HNx HRr
        go_wp2_with fail
        refine hC.mono ?_
        rintro e w8 ⟨rfl, b8⟩
        have HK8 := hid (kept_trans HKz.out (kept_below b8))
        have HO8 := hid (og_stays HOz.out (kept_below b8))
        have HKa := hid (kept_alloc HK8.out (.cells #[.string x] 9))
        have HOx := hid (og_stays HO8.out (kept_alloc (kept_refl w8) (.cells #[.string x] 9)))
        have HAl := hid (rg_alone encK_ok (y := x) (at_new w8 #[.string x] 9))
        have HBw : Hid (B0 ≤ (w8.alloc (.cells #[.string x] 9)).heap.size) := hid (by have := HKa.out.2; have := HB0.out; omega)
        clear hC b8 HKz HOz
        go_wp2_with (at_builtin; go_must (refine wpList_gapp rfl (.tmp 34) (.tmp 37) rfl encK_ok tyK (by decide) B0 _ _ _ _ rfl HOx.out rfl HAl.out (by have := HLt.out k; simp; omega) HBw.out ?_; intro v3 w9 hown3 hgrow3 hnil3))
        have HO3 : Hid (Og encK 1 9 w9 B0 v3 (moved (l.take (k + 1)) a b)) := hid (by rw [HNy.out]; exact hown3)
        have HK3 := hid (kept_gr HKa.out hgrow3 (fun j hj => by have := og_lt HOx.out hj; have := HB0.out; omega))
        go_roundw
        case rel => exact ⟨k + 1, by omega, by go_num, HO3, HK3⟩
        case measure => simp [intOf]; omega
    · have he : k = n := by omega
      subst he
      rw [HT.out] at HO
      go_wp2_with fail
      go_ret
      exact HEnd.out _ _ _ HO.out (kept_trans HKW.out HKr.out)
end Go.Proofs.Ytfdnfnnagchjcaa
