/- The contract of the law's flip: it turns a new tree's leaves as a row says, and answers them. -/
import Derived.Test.YtpfelbbhhoilpaaOpen
import Derived.Deep.CutBlock
import Derived.Deep.DeepCutAuto
namespace Go.Proofs.Ytpfelbbhhoilpaa
open Go.ChangeShapes Go.WideShapes Go.ChangeAt Go.RowKit
set_option linter.unusedVariables false
set_option linter.unusedSimpArgs false
set_option maxRecDepth 100000

theorem zero31 (w : World) : (zeroValue 31).run Try.prog w = .ok (.agg (nv (fun _ => 0) 64)) w := by kernel_rfl
theorem info31 : (Try.prog.info? 31).map (·.size) = some 64 := by kernel_rfl
theorem load31 {w : World} {Z : Nat} {N : Nat → Int} (h : At w Z (nv N 64) 31) : (loadVar 31 ⟨Z, 0, none⟩).run Try.prog w = .ok (.agg (nv N 64)) w :=
  run_loadVar_row _ _ 31 31 _ (0, 0) _ h Try.underlying31 rfl (by rw [nv_size]; exact info31)
theorem store31 {w : World} {Z : Nat} {N M : Nat → Int} (h : At w Z (nv M 64) 31) : (storeVar 31 ⟨Z, 0, none⟩ (.agg (nv N 64))).run Try.prog w = .ok () (w.setRow Z (nv N 64)) :=
  run_storeVar_row _ _ 31 31 _ _ h (by rw [nv_size]; exact info31) (by rw [nv_size, nv_size]) (nv_one N 64)
theorem wpList_load31 {ops : Array Oper} {rest : List Oper} {op : Oper} {act : Act} {w : World} {Q : Exit → Act → World → Prop} (hgd : op.guard = none) (x : Operand) (ho : op.op = .load 31 x) (Z : Nat) (hx : act.eval x = .pointer (some ⟨Z, 0, none⟩)) (cs : Array Value)
    (hld : (loadVar 31 ⟨Z, 0, none⟩).run Try.prog w = .ok (.agg cs) w) (h : wpList Try.prog ops Q rest (act.put op.dst (.agg cs)) w) : wpList Try.prog ops Q (op :: rest) act w :=
  wpList_plain hgd fun _ hK => by
    unfold Oper.wp execOp
    simp only [ho, hx, Instr.loadAt, Instr.sureAddr, Sem.run_bind, Sem.run_pure, Result.andThen_ok, hld]
    exact hK _ _ h
theorem wpList_store31 {ops : Array Oper} {rest : List Oper} {op : Oper} {act : Act} {w : World} {Q : Exit → Act → World → Prop} (hgd : op.guard = none) (x y : Operand) (ho : op.op = .store 31 x y) (Z : Nat) (hx : act.eval x = .pointer (some ⟨Z, 0, none⟩)) (cs : Array Value) (hy : act.eval y = .agg cs) (w2 : World)
    (hst : (storeVar 31 ⟨Z, 0, none⟩ (.agg cs)).run Try.prog w = .ok () w2) (h : wpList Try.prog ops Q rest (act.put op.dst undef) w2) : wpList Try.prog ops Q (op :: rest) act w :=
  wpList_plain hgd fun _ hK => by
    unfold Oper.wp execOp
    simp only [ho, hx, hy, Instr.storeAt, Instr.sureAddr, Sem.run_bind, Sem.run_pure, Result.andThen_ok, hst]
    exact hK _ _ h
theorem res31 {fn : Func} {p : Tmp} (h : fn.results = #[.cell p 31]) (tmps : Array Value) {w : World} {Z : Nat} {cs : Array Value} (hp : tmps.getD p undef = .pointer (some ⟨Z, 0, none⟩)) (hld : (loadVar 31 ⟨Z, 0, none⟩).run Try.prog w = .ok (.agg cs) w) :
    (results fn tmps).run Try.prog w = .ok (.agg cs) w := by
  have hp' : tmps[p]?.getD undef = .pointer (some ⟨Z, 0, none⟩) := by simpa using hp
  simp [results, h, asAddr, Sem.run_bind, Sem.run_pure, Result.andThen, hp', hld]
/- As many as are gone through. -/
def mn (len : Nat) : Nat := if len ≤ 101 then len else 101
theorem mn_end {len : Nat} (h : len ≤ 101) : mn len = len := if_pos h
theorem mn_cut {len : Nat} (h : 101 < len) : mn len = 101 := if_neg (by omega)
def FlipsC (X : Nat) (M : Nat → Int) (w : World) (e : Ending) (w' : World) : Prop := e = .returned (.agg (nv M 64)) ∧ Turn X w w' ∧ Tr w' X M
theorem row_turn {w w' : World} {X : Nat} {L : Nat → Int} {oa : Option Addr} {len cap b o : Nat} {S : Nat → Fx} (h : Row w oa len cap b o S) (hX : 0 < len → b ≠ X) (t : Turn X w w') : Row w' oa len cap b o S := by
  obtain ⟨h1, h2, h3, h4, h5, h6⟩ := h
  refine ⟨h1, h2, h3, fun hl => ⟨(h4 hl).1, Nat.lt_of_lt_of_le (h4 hl).2 t.2.2.1⟩, fun i hi => ?_, h6⟩
  obtain ⟨c0, c1⟩ := h5 i hi
  have hb := (h4 (by omega)).2
  have e := t.2.2.2 b hb (hX (by omega))
  exact ⟨(World.cell?_of_block (w := w) e).trans c0, (World.cell?_of_block (w := w) e).trans c1⟩
set_option maxHeartbeats 6400000 in
theorem flips_any {X : Nat} {oa : Option Addr} {len cap b o : Nat} {S : Nat → Fx} (w : World) (hT : Tr w X (fun _ => 0)) (hr : Row w oa len cap b o S) (hbX : 0 < len → b ≠ X) :
    Calls Try.prog 12 #[.pointer (some ⟨X, 0, none⟩), .slice oa len cap] w (FlipsC X (fl S (mn len)) w) := by
  have hz := zero28
  have hz31 := zero31
  have h1 := hr.1
  have h2 := hr.2.1
  unfold maxLen at h2
  obtain ⟨R, hR⟩ : ∃ R, w.heap.size = R := ⟨_, rfl⟩
  obtain ⟨w1, hw1⟩ : ∃ w1, w.alloc (.cells (nv (fun _ => 0) 64) 31) = w1 := ⟨_, rfl⟩
  have a1 := at_new w (nv (fun _ => 0) 64) 31
  have k1 := kept_alloc (kept_refl w) (.cells (nv (fun _ => 0) 64) 31)
  have s1 : w1.heap.size = R + 1 := by rw [← hw1, ← hR]; simp
  rw [hw1] at a1 k1
  rw [hR] at a1
  obtain ⟨Z, hZ⟩ : ∃ Z, w1.heap.size = Z := ⟨_, rfl⟩
  obtain ⟨w2, hw2⟩ : ∃ w2, w1.alloc (.cells (nv (fun _ => 0) 64) 31) = w2 := ⟨_, rfl⟩
  have a2 := at_new w1 (nv (fun _ => 0) 64) 31
  have k2 := kept_alloc (kept_refl w1) (.cells (nv (fun _ => 0) 64) 31)
  rw [hw2] at a2 k2
  rw [hZ] at a2
  have HA1 := hid (at_kept a1 k2)
  have HA2 := hid a2
  have HK2 := hid (kept_trans k1 k2)
  have HT2 := hid (tr_kept hT HK2.out)
  have HRw := hid hr
  have HNE : Hid (R ≠ Z ∧ w.heap.size ≤ R ∧ w.heap.size ≤ Z ∧ X < w.heap.size) := hid ⟨by omega, by omega, by omega, tr_lt hT⟩
  have HBX := hid hbX
  clear a1 k1 s1 a2 k2 hr hT hbX
  have HT0 : Hid (Turn X w w2) := hid (turn_kept HK2.out)
  have HBs : Hid (∀ u, Turn X w u → Row u oa len cap b o S) := hid (fun u t => row_turn (L := fun _ => 0) HRw.out HBX.out t)
  have HO : Hid (∀ u, Tr u X (fl S (mn len)) → At u Z (nv (fl S (mn len)) 64) 31 → At u R (nv (fun _ => 0) 64) 31 → Turn X w u → (loadVar 31 ⟨Z, 0, none⟩).run Try.prog u = .ok (.agg (nv (fl S (mn len)) 64)) u ∧ (storeVar 31 ⟨R, 0, none⟩ (.agg (nv (fl S (mn len)) 64))).run Try.prog u = .ok () (u.setRow R (nv (fl S (mn len)) 64)) ∧ (loadVar 31 ⟨R, 0, none⟩).run Try.prog (u.setRow R (nv (fl S (mn len)) 64)) = .ok (.agg (nv (fl S (mn len)) 64)) (u.setRow R (nv (fl S (mn len)) 64)) ∧ FlipsC X (fl S (mn len)) w (.returned (.agg (nv (fl S (mn len)) 64))) (u.setRow R (nv (fl S (mn len)) 64))) := hid (fun u h1 h2 h3 h4 => by
    have hne : X ≠ R := by have := HNE.out; omega
    refine ⟨load31 h2, store31 h3, load31 (at_setRow h3), rfl, ?_, ⟨?_, h1.2⟩⟩
    · exact ⟨h4.1, h4.2.1, by rw [setRow_size]; exact h4.2.2.1, fun k hk hn => (setRow_other (by have := HNE.out.2.1; omega)).trans (h4.2.2.2 k hk hn)⟩
    · exact (setRow_other hne).trans h1.1)
  go_enter Try.func12, Try.ntmps12
  go_upto_block 0 with fail
  go_cut [10] (fun i wx => Hid (Tr wx X (fl S (mn len))) ∧ Hid (At wx Z (nv (fl S (mn len)) 64) 31) ∧ Hid (At wx R (nv (fun _ => 0) 64) 31) ∧ Hid (Turn X w wx))
  case first =>
    clear HO
    go_wp2_with fail
    go_loopw [10] (fun i wr => ∃ j : Nat, j ≤ len ∧ j ≤ 101 ∧ i = .int .i64 j ∧ Hid (Tr wr X (fl S j)) ∧ Hid (At wr Z (nv (fl S j) 64) 31) ∧ Hid (At wr R (nv (fun _ => 0) 64) 31) ∧ Hid (Turn X w wr)) (fun i _ => len - (intOf i).toNat)
    case atStart => exact ⟨0, Nat.zero_le _, Nat.zero_le _, rfl, HT2, HA2, HA1, HT0⟩
    case round =>
      obtain ⟨j, hj, hj2, rfl, HTr, HZr, HRr, HTn⟩ := hrel
      clear HT2 HA2 HA1 HT0
      by_cases hlt : j < len
      · obtain ⟨rfl, hb⟩ := HRw.out.2.2.2.1 (by omega)
        obtain ⟨c0, c1⟩ := (HBs.out _ HTn.out).2.2.2.2.1 j hlt
        have HFn : Hid (fl S (j + 1) = flipO (S j) (fl S j)) := hid rfl
        generalize S j = s at *
        obtain ⟨i, x⟩ := s
        have HP := hid (at_new wr #[.int .i64 i, .int .u64 x] 28)
        have HTa := hid (tr_kept HTr.out (kept_alloc (kept_refl wr) (.cells #[.int .i64 i, .int .u64 x] 28)))
        have HZa := hid (at_alloc HZr.out (.cells #[.int .i64 i, .int .u64 x] 28))
        have HRa := hid (at_alloc HRr.out (.cells #[.int .i64 i, .int .u64 x] 28))
        have HTna := hid (turn_alloc HTn.out (.cells #[.int .i64 i, .int .u64 x] 28))
        have HQ : Hid (wr.heap.size ≠ X ∧ wr.heap.size ≠ Z) := hid ⟨fun e => by have := tr_lt HTr.out; omega, fun e => by have := at_lt HZr.out; omega⟩
        by_cases e0 : 100 < j
        · have e1 : (100 : Int) < (j : Int) := by omega
          have hj101 : j = 101 := by omega
          have HM : Hid (fl S j = fl S (mn len)) := hid (by rw [mn_cut (by omega), hj101])
          clear e0 hj101 HFn
          go_wp2_with fail
          go_meet
          case rel => exact ⟨hid (by rw [← HM.out]; exact HTa.out), hid (by rw [← HM.out]; exact HZa.out), HRa, HTna⟩
        · have e1 : decide ((100 : Int) < (j : Int)) = false := by simp; omega
          have HJ : Hid (j + 1 ≤ 101) := hid (by omega)
          clear e0
          obtain ⟨p0, p1, pf⟩ : (wr.alloc (.cells #[.int .i64 i, .int .u64 x] 28)).cell? ⟨wr.heap.size, 0, none⟩ = some (.int .i64 i) ∧ (wr.alloc (.cells #[.int .i64 i, .int .u64 x] 28)).cell? ⟨wr.heap.size, 1, none⟩ = some (.int .u64 x) ∧ ∀ j, (wr.alloc (.cells #[.int .i64 i, .int .u64 x] 28)).frozen? ⟨wr.heap.size, j, none⟩ = false := ⟨at_cell HP.out 0, at_cell HP.out 1, at_frozen HP.out⟩
          have HF := hid (flip_any (f := ⟨i, x⟩) _ HTa.out)
          by_cases hok : okI i
          · rw [if_pos hok] at HF
            go_wp2_with fail
            refine HF.out.mono ?_
            rintro e w4 ⟨rfl, t4, r4⟩
            rw [flipO_ok hok] at HFn r4
            obtain ⟨i, rfl⟩ := Int.eq_ofNat_of_zero_le hok.1
            have hi64 : i < 64 := by have := hok.2; omega
            have HT4 := hid r4
            have HZ4 := hid (at_turn HZa.out t4 (by have := HNE.out; omega))
            have HR4 := hid (at_turn HRa.out t4 (by have := HNE.out; omega))
            have HTn4 := hid (HTna.out.trans t4)
            have HP4 := hid (at_turn HP.out t4 HQ.out.1)
            clear t4 r4 HF p0 p1 pf c0 c1 HTa HZa HRa HTna HP HTr HZr HRr HTn hok
            generalize hq : wr.heap.size = Q at *
            clear hq
            go_wp2_with fail
            have b1 : (i : Int) < 64 := by omega
            have d1 : ¬ (64 : Int) ≤ (i : Int) := by omega
            have hS0 : w4.cell? ⟨Q, 0, none⟩ = some (.int .i64 (i : Int)) ∧ w4.cell? ⟨Q, 1, none⟩ = some (.int .u64 x) := ⟨at_cell HP4.out 0, at_cell HP4.out 1⟩
            have hS5 : w4.drew.cell? ⟨Q, 0, none⟩ = some (.int .i64 (i : Int)) ∧ w4.drew.cell? ⟨Q, 1, none⟩ = some (.int .u64 x) := hS0
            replace HZ4 := hid (at_drew HZ4.out)
            replace HR4 := hid (at_drew HR4.out)
            replace HP4 := hid (at_drew HP4.out)
            replace HTn4 := hid (turn_drew HTn4.out)
            replace HT4 := hid (tr_kept HT4.out (kept_drew (kept_refl w4)))
            have c0 : w4.drew.cell? ⟨Z, i, none⟩ = some (.int .u64 (fl S j i)) := (at_cell HZ4.out i).trans (nv_get _ hi64)
            have cf : ∀ j, w4.drew.frozen? ⟨Z, j, none⟩ = false := at_frozen HZ4.out
            have HZ6 := hid (at_set HZ4.out i (.int .u64 (xo (fl S j i) x)))
            have HR6 := hid (at_other HR4.out (show R ≠ Z from HNE.out.1) i (.int .u64 (xo (fl S j i) x)))
            have HP6 := hid (at_other HP4.out (show Q ≠ Z from HQ.out.2) i (.int .u64 (xo (fl S j i) x)))
            have HTn6 := hid (turn_new HTn4.out (X := Z) HNE.out.2.2.1 i (.int .u64 (xo (fl S j i) x)))
            have HT6 := hid (show Tr (w4.drew.setCell ⟨Z, i, none⟩ (.int .u64 (xo (fl S j i) x))) X _ from ⟨at_other HT4.out.1 (show X ≠ Z by have := HNE.out; omega) i _, HT4.out.2⟩)
            have HS6 : Hid ((w4.drew.setCell ⟨Z, i, none⟩ (.int .u64 (xo (fl S j i) x))).cell? ⟨Q, 0, none⟩ = some (.int .i64 (i : Int)) ∧ (w4.drew.setCell ⟨Z, i, none⟩ (.int .u64 (xo (fl S j i) x))).cell? ⟨Q, 1, none⟩ = some (.int .u64 x)) := hid ⟨at_cell HP6.out 0, at_cell HP6.out 1⟩
            rw [nv_set _ hi64] at HZ6
            have hxo : bits .xor .u64 (fl S j i) x = xo (fl S j i) x := rfl
            refine wp_region_noPanic ?_
            refine wp_region_held_drew (S := (fun w' => (w'.cell? ⟨Q, 0, none⟩ = some (.int .i64 (i : Int))) ∧ (w'.cell? ⟨Q, 1, none⟩ = some (.int .u64 x)))) (by kernel_rfl) (by assumption) (fun hHeld => ?_)
            generalize w4.drew = w5 at *
            refine wpAnyH_take (i := 0) (v := .pointer (some ⟨Q, 0, none⟩)) rfl (by kernel_rfl) (by kernel_rfl) (by kernel_rfl) (fun _ _ _ h => h) (Or.inl ⟨by rfl, fun w hSw => by (try dsimp only at hSw); go_simp⟩) (by assumption) ?_
            try simp only [List.getElem_toArray, List.getElem_cons_zero, List.getElem_cons_succ, Act.put, List.setIfInBounds_toArray, List.set_cons_zero, List.set_cons_succ]
            refine wpAnyH_take (i := 1) (v := .int .i64 (i : Int)) rfl (by kernel_rfl) (by kernel_rfl) (by kernel_rfl) (fun _ _ _ h => h) (Or.inl ⟨by rfl, fun w hSw => by (try dsimp only at hSw); go_simp⟩) (by assumption) ?_
            try simp only [List.getElem_toArray, List.getElem_cons_zero, List.getElem_cons_succ, Act.put, List.setIfInBounds_toArray, List.set_cons_zero, List.set_cons_succ]
            refine wpAnyH_take (i := 2) (v := .pointer (some ⟨Z, i, none⟩)) rfl (by kernel_rfl) (by kernel_rfl) (by kernel_rfl) (fun _ _ _ h => h) (Or.inl ⟨by rfl, fun w hSw => by (try dsimp only at hSw); go_simp⟩) (by assumption) ?_
            try simp only [List.getElem_toArray, List.getElem_cons_zero, List.getElem_cons_succ, Act.put, List.setIfInBounds_toArray, List.set_cons_zero, List.set_cons_succ]
            refine wpAnyH_take (i := 4) (v := .pointer (some ⟨Q, 1, none⟩)) rfl (by kernel_rfl) (by kernel_rfl) (by kernel_rfl) (fun _ _ _ h => h) (Or.inl ⟨by rfl, fun w hSw => by (try dsimp only at hSw); go_simp⟩) (by assumption) ?_
            try simp only [List.getElem_toArray, List.getElem_cons_zero, List.getElem_cons_succ, Act.put, List.setIfInBounds_toArray, List.set_cons_zero, List.set_cons_succ]
            refine wpAnyH_take (i := 5) (v := .int .u64 x) rfl (by kernel_rfl) (by kernel_rfl) (by kernel_rfl) (fun _ _ _ h => h) (Or.inl ⟨by rfl, fun w hSw => by (try dsimp only at hSw); go_simp⟩) (by assumption) ?_
            try simp only [List.getElem_toArray, List.getElem_cons_zero, List.getElem_cons_succ, Act.put, List.setIfInBounds_toArray, List.set_cons_zero, List.set_cons_succ]
            refine wpAnyH_ready (rs := [3]) (by kernel_rfl) (by simp) ?_
            refine AllReadyH.cons (i := 3) rfl (fun K hK => ?_) AllReadyH.nil
            go_simp
            have hS := hS5
            clear hHeld
            show K _ _
            refine hK.out _ _ (by assumption) (fun hHeld => ?_)
            clear hK K
            try simp only [List.getElem_toArray, List.getElem_cons_zero, List.getElem_cons_succ, Act.put, List.setIfInBounds_toArray, List.set_cons_zero, List.set_cons_succ]
            refine wpAnyH_take (i := 6) (v := .int .u64 (xo (fl S j i) x)) rfl (by kernel_rfl) (by kernel_rfl) (by kernel_rfl) (fun _ _ _ h => h) (Or.inl ⟨by rfl, fun w hSw => by (try dsimp only at hSw); go_simp⟩) (by assumption) ?_
            try simp only [List.getElem_toArray, List.getElem_cons_zero, List.getElem_cons_succ, Act.put, List.setIfInBounds_toArray, List.set_cons_zero, List.set_cons_succ]
            refine wpAnyH_take (i := 7) (v := .pointer (some ⟨Z, i, none⟩)) rfl (by kernel_rfl) (by kernel_rfl) (by kernel_rfl) (fun _ _ _ h => h) (Or.inl ⟨by rfl, fun w hSw => by (try dsimp only at hSw); go_simp⟩) (by assumption) ?_
            try simp only [List.getElem_toArray, List.getElem_cons_zero, List.getElem_cons_succ, Act.put, List.setIfInBounds_toArray, List.set_cons_zero, List.set_cons_succ]
            refine wpAnyH_ready (rs := [8]) (by kernel_rfl) (by simp) ?_
            refine AllReadyH.cons (i := 8) rfl (fun K hK => ?_) AllReadyH.nil
            go_simp
            have hS := HS6.out
            clear hHeld
            show K _ _
            refine hK.out _ _ (by assumption) (fun hHeld => ?_)
            clear hK K
            try simp only [List.getElem_toArray, List.getElem_cons_zero, List.getElem_cons_succ, Act.put, List.setIfInBounds_toArray, List.set_cons_zero, List.set_cons_succ]
            refine wpAnyH_done (by kernel_rfl) ?_ _
            refine NoPanic.normal ?_
            go_wp2_with fail
            go_roundw
            case rel => exact ⟨j + 1, by omega, HJ.out, by go_num, hid (by rw [HFn.out]; exact HT6.out), hid (by rw [HFn.out]; exact HZ6.out), HR6, HTn6⟩
            case measure => simp [intOf]; omega
          · rw [if_neg hok] at HF
            go_wp2_with fail
            refine HF.out.mono ?_
            rintro e w4 ⟨rfl, t4, r4⟩
            have HT4 := hid r4
            rw [← HFn.out] at HT4
            rw [flipO_bad hok] at HFn
            have HZ4 := hid (at_turn HZa.out t4 (by have := HNE.out; omega))
            have HR4 := hid (at_turn HRa.out t4 (by have := HNE.out; omega))
            have HTn4 := hid (HTna.out.trans t4)
            clear t4 r4 HF p0 p1 pf c0 c1 HTa HZa HRa HTna HP HTr HZr HRr HTn hok
            go_wp2_with fail
            go_roundw
            case rel => exact ⟨j + 1, by omega, HJ.out, by go_num, HT4, hid (by rw [HFn.out]; exact HZ4.out), HR4, HTn4⟩
            case measure => simp [intOf]; omega
      · have he : j = len := by omega
        have HM : Hid (fl S j = fl S (mn len)) := hid (by rw [mn_end (by omega), he])
        clear he
        go_wp2_with fail
        go_meet
        case rel => exact ⟨hid (by rw [← HM.out]; exact HTr.out), hid (by rw [← HM.out]; exact HZr.out), HRr, HTn⟩
  case rest =>
    obtain ⟨HTr, HZr, HRr, HTn⟩ := hcut
    obtain ⟨e1, e2, e3, e4⟩ := HO.out _ HTr.out HZr.out HRr.out HTn.out
    have HF := hid e4
    have HL1 := hid e1
    have HL2 := hid e2
    have HL3 := hid e3
    clear e1 e2 e3 e4 HO HTr HZr HRr HTn
    generalize nv (fl S (mn len)) 64 = na at *
    go_wp2_with (first | (refine wpList_load31 rfl _ rfl Z rfl na HL1.out ?_) | (refine wpList_store31 rfl _ _ rfl R rfl na rfl _ HL2.out ?_))
    exact bodyPost_ret (res31 Try.results12 _ rfl HL3.out) rfl HF.out
end Go.Proofs.Ytpfelbbhhoilpaa
