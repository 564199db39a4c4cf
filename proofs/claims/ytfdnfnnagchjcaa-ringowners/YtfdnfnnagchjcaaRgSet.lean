/- Sets of nodes in memory: 64 truths in one block (bv); the contracts of the landed weight, setOf and heaviest. -/
import Derived.Test.YtfdnfnnagchjcaaRgFixed
import Derived.ChangeKeysEq
namespace Go.Proofs.Ytfdnfnnagchjcaa
open Go.ChangeShapes Go.WideShapes Go.ChangeAt Go.RowKit
set_option linter.unusedVariables false
set_option linter.unusedSimpArgs false
set_option maxRecDepth 100000

theorem wt_any (t n : Int) (h1 : 0 ≤ n) (h2 : n < 256) (w : World) : Calls Try.prog 21 #[.int .u64 t, .int .u8 n] w fun e w' => e = .returned (.int .u64 (twoI t (n + 1))) ∧ w' = w := by
  have e1 := u64_wrap n h1 (by omega)
  have e2 := u64_wrap (n + 1) (by omega) (by omega)
  clear h1 h2
  go_enter Try.func21, Try.ntmps21
  go_wp2_with fail
  refine (two_any _ _ _).mono ?_
  rintro e w' ⟨rfl, rfl⟩
  go_wp2_with fail
  go_ret
  exact ⟨rfl, rfl⟩
/- Truths as cells. -/
def bv (p : Int → Bool) : Array Value := (Array.range 64).map (fun (k : Nat) => Value.bool (p (k : Int)))
theorem bv_size (p : Int → Bool) : (bv p).size = 64 := by simp [bv]
theorem bv_get (p : Int → Bool) {k : Nat} (h : k < 64) : (bv p)[k]? = some (.bool (p (k : Int))) := by
  unfold bv
  rw [Array.getElem?_map, Array.getElem?_range, if_pos h]
  rfl
theorem bv_eq {cs : Array Value} {p : Int → Bool} (hs : cs.size = 64) (h : ∀ k, k < 64 → cs[k]? = some (.bool (p (k : Int)))) : cs = bv p := by
  apply Array.ext (by rw [hs, bv_size])
  intro i h1 h2
  have e1 := h i (by omega)
  have e2 := bv_get p (k := i) (by omega)
  rw [← e2, Array.getElem?_eq_getElem h1, Array.getElem?_eq_getElem h2] at e1
  exact Option.some.inj e1
theorem bv_ext {p q : Int → Bool} (h : ∀ n, 0 ≤ n → n < 64 → p n = q n) : bv p = bv q := bv_eq (bv_size p) (fun k hk => by rw [bv_get p hk, h k (by omega) (by omega)])
def pu (p : Int → Bool) (a : Int) (x : Bool) (n : Int) : Bool := if n = a then x else p n
theorem bv_set (p : Int → Bool) (a : Nat) (h : a < 64) (x : Bool) : (bv p).setIfInBounds a (.bool x) = bv (pu p (a : Int) x) := bv_eq (by simp [bv_size]) (fun k hk => by
  rw [Array.getElem?_setIfInBounds]
  by_cases e : a = k
  · subst e
    rw [if_pos rfl, if_pos (by rw [bv_size]; exact h)]
    simp [pu]
  · rw [if_neg e, bv_get p hk]
    have : ¬ ((k : Int) = (a : Int)) := by omega
    simp [pu, this])
theorem bv_one (p : Int → Bool) : (bv p).all (·.oneCell') = true := by
  rw [Array.all_eq_true_iff_forall_mem]
  intro x hx
  unfold bv at hx
  rw [Array.mem_map] at hx
  obtain ⟨k, _, rfl⟩ := hx
  rfl
theorem bv_wo (p : Int → Bool) (a : Nat) : bv (pu p (a : Int) false) = bv (wo p (a : Int)) := bv_ext (fun n _ _ => by
  unfold pu wo
  by_cases e : n = (a : Int) <;> simp [e])
theorem bv_no : bv (fun _ => false) = bv (mem []) := bv_ext (fun n _ _ => by unfold mem; simp)
theorem bv_more {l : List Int} {y : Nat} : bv (pu (mem l) (y : Int) true) = bv (mem (l ++ [(y : Int)])) := bv_ext (fun n _ _ => by
  unfold pu mem
  by_cases e : n = (y : Int) <;> simp [e])
theorem bv_past {l : List Int} {y : Int} (h : 64 ≤ y) : bv (mem l) = bv (mem (l ++ [y])) := bv_ext (fun n _ h2 => by
  unfold mem
  have : n ≠ y := by omega
  simp [this])
theorem zeroS (w : World) : (zeroValue 41).run Try.prog w = .ok (.agg (bv (fun _ => false))) w := by kernel_rfl
theorem infoS : (Try.prog.info? 41).map (·.size) = some 64 := by kernel_rfl
theorem loadS {w : World} {Z : Nat} {p : Int → Bool} (h : At w Z (bv p) 41) : (loadVar 41 ⟨Z, 0, none⟩).run Try.prog w = .ok (.agg (bv p)) w :=
  run_loadVar_row _ _ 41 41 _ (0, 0) _ h Try.underlying41 rfl (by rw [bv_size]; exact infoS)
theorem storeS {w : World} {Z : Nat} {p q : Int → Bool} (h : At w Z (bv p) 41) : (storeVar 41 ⟨Z, 0, none⟩ (.agg (bv q))).run Try.prog w = .ok () (w.setRow Z (bv q)) :=
  run_storeVar_row _ _ 41 41 _ _ h (by rw [bv_size]; exact infoS) (by rw [bv_size, bv_size]) (bv_one q)
theorem wpList_loadS {ops : Array Oper} {rest : List Oper} {op : Oper} {act : Act} {w : World} {Q : Exit → Act → World → Prop} (hgd : op.guard = none) (x : Operand) (ho : op.op = .load 41 x) (Z : Nat) (hx : act.eval x = .pointer (some ⟨Z, 0, none⟩)) (cs : Array Value)
    (hld : (loadVar 41 ⟨Z, 0, none⟩).run Try.prog w = .ok (.agg cs) w) (h : wpList Try.prog ops Q rest (act.put op.dst (.agg cs)) w) : wpList Try.prog ops Q (op :: rest) act w :=
  wpList_plain hgd fun _ hK => by
    unfold Oper.wp execOp
    simp only [ho, hx, Instr.loadAt, Instr.sureAddr, Sem.run_bind, Sem.run_pure, Result.andThen_ok, hld]
    exact hK _ _ h
theorem wpList_storeS {ops : Array Oper} {rest : List Oper} {op : Oper} {act : Act} {w : World} {Q : Exit → Act → World → Prop} (hgd : op.guard = none) (x y : Operand) (ho : op.op = .store 41 x y) (Z : Nat) (hx : act.eval x = .pointer (some ⟨Z, 0, none⟩)) (cs : Array Value) (hy : act.eval y = .agg cs) (w2 : World)
    (hst : (storeVar 41 ⟨Z, 0, none⟩ (.agg cs)).run Try.prog w = .ok () w2) (h : wpList Try.prog ops Q rest (act.put op.dst undef) w2) : wpList Try.prog ops Q (op :: rest) act w :=
  wpList_plain hgd fun _ hK => by
    unfold Oper.wp execOp
    simp only [ho, hx, hy, Instr.storeAt, Instr.sureAddr, Sem.run_bind, Sem.run_pure, Result.andThen_ok, hst]
    exact hK _ _ h
theorem resS {fn : Func} {p : Tmp} (h : fn.results = #[.cell p 41]) (tmps : Array Value) {w : World} {Z : Nat} {cs : Array Value} (hp : tmps.getD p undef = .pointer (some ⟨Z, 0, none⟩)) (hld : (loadVar 41 ⟨Z, 0, none⟩).run Try.prog w = .ok (.agg cs) w) :
    (results fn tmps).run Try.prog w = .ok (.agg cs) w := by
  have hp' : tmps[p]?.getD undef = .pointer (some ⟨Z, 0, none⟩) := by simpa using hp
  simp [results, h, asAddr, Sem.run_bind, Sem.run_pure, Result.andThen, hp', hld]
theorem setRow_other {w : World} {Z k : Nat} {cs : Array Value} (h : k ≠ Z) : (w.setRow Z cs).heap[k]? = w.heap[k]? := by
  unfold World.setRow
  rw [Array.getElem?_modify, if_neg (Ne.symm h)]
theorem setRow_size (w : World) (Z : Nat) (cs : Array Value) : (w.setRow Z cs).heap.size = w.heap.size := by
  unfold World.setRow
  simp
theorem at_setRow {w : World} {Z : Nat} {cs ds : Array Value} {T : Nat} (h : At w Z ds T) : At (w.setRow Z cs) Z cs T := by
  unfold At World.setRow at *
  rw [Array.getElem?_modify, h]
  simp
theorem kept_setRow {u w : World} (h : Kept u w) {Z : Nat} (hZ : u.heap.size ≤ Z) (cs : Array Value) : Kept u (w.setRow Z cs) :=
  kept_of (show w.os = u.os from kept_os h) (show w.output = u.output from kept_output h) (by rw [setRow_size]; exact h.2) (fun i hi => (setRow_other (by omega)).trans (kept_block h hi))
set_option maxHeartbeats 3200000 in
theorem set_any (l : List Int) (hu : U8 l) (v : Value) (w : World) (h : Rg encU 1 w v l) : Calls Try.prog 26 #[v] w fun e w' => e = .returned (.agg (bv (mem l))) ∧ Kept w w' := by
  have HR := hid h
  have HU := hid hu
  obtain ⟨a, cap, rfl, hc1, hc2, -, -⟩ := h
  have HG : Hid (∀ k, k < l.length → ∃ y, l[k]? = some y) := hid (fun k hk => ⟨l[k], List.getElem?_eq_getElem hk⟩)
  have HP : Hid (0 < l.length → ∃ g o, a = some ⟨g, o, none⟩) := hid (fun hp => by
    obtain ⟨g, o, c, e⟩ := rg_pos HR.out hp
    injection e with e1
    exact ⟨g, o, e1⟩)
  have HT : Hid (l.take l.length = l) := hid List.take_length
  have hz := zeroS
  unfold maxLen at hc2
  have hm2 : l.length ≤ 9223372036854775807 := by omega
  obtain ⟨R, hR⟩ : ∃ R, w.heap.size = R := ⟨_, rfl⟩
  obtain ⟨w1, hw1⟩ : ∃ w1, w.alloc (.cells (bv (fun _ => false)) 41) = w1 := ⟨_, rfl⟩
  have a1 := at_new w (bv (fun _ => false)) 41
  have k1 := kept_alloc (kept_refl w) (.cells (bv (fun _ => false)) 41)
  have s1 : w1.heap.size = R + 1 := by rw [← hw1, ← hR]; simp
  rw [hw1] at a1 k1
  rw [hR] at a1
  obtain ⟨Z, hZ⟩ : ∃ Z, w1.heap.size = Z := ⟨_, rfl⟩
  obtain ⟨w2, hw2⟩ : ∃ w2, w1.alloc (.cells (bv (fun _ => false)) 41) = w2 := ⟨_, rfl⟩
  have a2 := at_new w1 (bv (fun _ => false)) 41
  have k2 := kept_alloc (kept_refl w1) (.cells (bv (fun _ => false)) 41)
  rw [hw2] at a2 k2
  rw [hZ] at a2
  have HA1 := hid (at_kept a1 k2)
  have HA2 : Hid (At w2 Z (bv (mem [])) 41) := hid (by rw [← bv_no]; exact a2)
  have HK2 := hid (kept_trans k1 k2)
  have HNE : Hid (R ≠ Z ∧ w.heap.size ≤ R ∧ w.heap.size ≤ Z) := hid ⟨by omega, by omega, by omega⟩
  have HO : Hid (∀ u, At u Z (bv (mem l)) 41 → At u R (bv (fun _ => false)) 41 → Kept w u → (loadVar 41 ⟨Z, 0, none⟩).run Try.prog u = .ok (.agg (bv (mem l))) u ∧ (storeVar 41 ⟨R, 0, none⟩ (.agg (bv (mem l)))).run Try.prog u = .ok () (u.setRow R (bv (mem l))) ∧ (loadVar 41 ⟨R, 0, none⟩).run Try.prog (u.setRow R (bv (mem l))) = .ok (.agg (bv (mem l))) (u.setRow R (bv (mem l))) ∧ Kept w (u.setRow R (bv (mem l)))) := hid (fun u h1 h2 h3 => ⟨loadS h1, storeS h2, loadS (at_setRow h2), kept_setRow h3 HNE.out.2.1 _⟩)
  clear a1 k1 s1 a2 k2 hu
  generalize hm : l.length = m at *
  clear hm
  go_enter Try.func26, Try.ntmps26
  go_wp2_with fail
  clear hz hw1 hw2 hR hZ
  go_loopw [8] (fun j wr => ∃ k : Nat, k ≤ m ∧ j = .int .i64 k ∧ Hid (At wr Z (bv (mem (l.take k))) 41) ∧ Hid (At wr R (bv (fun _ => false)) 41) ∧ Hid (Kept w wr)) (fun j _ => m - (intOf j).toNat)
  case atStart => exact ⟨0, Nat.zero_le _, rfl, HA2, HA1, HK2⟩
  case round =>
    obtain ⟨k, hk, rfl, HZ, HRr, HKr⟩ := hrel
    clear HA2 HA1 HK2
    by_cases hlt : k < m
    · obtain ⟨y, hy⟩ := HG.out k hlt
      obtain ⟨g, o, rfl⟩ := HP.out (by omega)
      have c0 := rg_U (rg_kept encU_ok HR.out HKr.out) hy
      have HNx := hid (take_next hy)
      obtain ⟨y0, y1⟩ := HU.out y (List.mem_of_getElem? hy)
      obtain ⟨y, rfl⟩ := Int.eq_ofNat_of_zero_le y0
      clear hy y0
      by_cases e : y < 64
      · have hd : decide ((y : Int) < 64) = true := by simp; omega
        have b1 : (y : Int) < 64 := by omega
        have b2 : ¬ (64 : Int) ≤ (y : Int) := by omega
        have c1 : wr.cell? ⟨Z, y, none⟩ = some (.bool (mem (l.take k) (y : Int))) := (at_cell HZ.out y).trans (bv_get _ e)
        have cf : ∀ j, wr.frozen? ⟨Z, j, none⟩ = false := at_frozen HZ.out
        have HZ3 := hid (at_set HZ.out y (.bool true))
        have HR3 := hid (at_other HRr.out (show R ≠ Z from HNE.out.1) y (.bool true))
        have HK3 := hid (kept_set HKr.out HNE.out.2.2 y (.bool true))
        rw [bv_set _ y e, bv_more, ← HNx.out] at HZ3
        clear e y1 HZ HRr HKr
        go_wp2_with fail
        go_roundw
        case rel => exact ⟨k + 1, by omega, by go_num, HZ3, HR3, HK3⟩
        case measure => simp [intOf]; omega
      · have hd : decide ((y : Int) < 64) = false := by simp; omega
        have HZ3 : Hid (At wr Z (bv (mem (l.take (k + 1)))) 41) := hid (by rw [HNx.out, ← bv_past (by omega)]; exact HZ.out)
        clear e y1 HZ
        go_wp2_with fail
        go_roundw
        case rel => exact ⟨k + 1, by omega, by go_num, HZ3, HRr, HKr⟩
        case measure => simp [intOf]; omega
    · have he : k = m := by omega
      subst he
      rw [HT.out] at HZ
      obtain ⟨e1, e2, e3, e4⟩ := HO.out _ HZ.out HRr.out HKr.out
      have HF := hid e4
      have HL1 := hid e1
      have HL2 := hid e2
      have HL3 := hid e3
      clear e1 e2 e3 e4 HO HZ HRr HKr
      generalize hna : bv (mem l) = na at *
      have HNa := hid hna
      clear hna
      go_wp2_with (first | (refine wpList_loadS rfl _ rfl Z rfl na HL1.out ?_) | (refine wpList_storeS rfl _ _ rfl R rfl na rfl _ HL2.out ?_))
      exact bodyPost_ret (resS Try.results26 _ rfl HL3.out) rfl ⟨by rw [HNa.out], HF.out⟩
end Go.Proofs.Ytfdnfnnagchjcaa
