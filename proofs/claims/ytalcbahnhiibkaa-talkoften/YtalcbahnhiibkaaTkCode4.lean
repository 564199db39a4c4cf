/- The contract of the landed talk's order: the places of its pieces, in the order of telling. A talk has at most 64 pieces. -/
import Derived.Test.YtalcbahnhiibkaaTkCode3
namespace Go.Proofs.Ytalcbahnhiibkaa
open Go.ChangeShapes Go.WideShapes Go.ChangeAt Go.RowKit
set_option linter.unusedVariables false
set_option linter.unusedSimpArgs false
set_option maxRecDepth 100000

theorem infoI : (Try.prog.info? 3).map (fun i => (i.zero, i.size, i.bytes)) = some (some (.int .i64 0), 1, 8) := by kernel_rfl
theorem mk_places (n : Nat) (hn : n ≤ 64) (w : World) : (Instr.makeSlice 59 (.int .i64 (n : Int)) (.int .i64 (n : Int))).run Try.prog w = .ok (.slice (some ⟨w.heap.size, 0, none⟩) n n) (w.alloc (.cells (nv (fun _ => 0) n) 3)) := by
  obtain ⟨i0, hi, hz0, hz1, hz2⟩ := info_parts infoI
  have hr := run_make (P := Try.prog) w 59 3 i0 _ Try.underlying59 hi hz0 .i64 .i64 (n : Int) (n : Int) (by omega) (Int.le_refl _) (by rw [hz2]; omega) (by omega)
  simp only [Int.toNat_natCast] at hr
  rw [hz1, Nat.mul_one] at hr
  rw [hr, nv_all (cs := madeCells (Value.int .i64 0).cells n) (D := fun _ => 0) (n := n) (size_madeCells _ _) (fun k hk => by
    unfold madeCells
    rw [Array.getElem?_map, Array.getElem?_range, if_pos hk]
    show some ((#[Value.int .i64 0] : Array Value)[k % 1]!) = _
    rw [Nat.mod_one]
    rfl)]
theorem pl_put {w : World} {R n : Nat} {D : Nat → Nat} (h : Pl w R n D) {i : Nat} (hi : i < n) (x : Nat) : Pl (w.setCell ⟨R, i, none⟩ (.int .i64 (x : Int))) R n (fun p => if p = i then x else D p) := by
  have h2 := at_set h i (.int .i64 (x : Int))
  unfold Pl
  rw [← nv_all (cs := (nv D n).setIfInBounds i (.int .i64 (x : Int))) (by simp [nv_size]) (fun k hk => ?_)]
  · exact h2
  · rw [Array.getElem?_setIfInBounds, nv_size]
    by_cases e : i = k
    · subst e; rw [if_pos rfl, if_pos hi, if_pos rfl]
    · rw [if_neg e, nv_get D hk, if_neg (Ne.symm e)]
def OrdC (l : List Pc) (w : World) (e : Ending) (w' : World) : Prop := ∃ R D, e = .returned (.slice (some ⟨R, 0, none⟩) l.length l.length) ∧ Pl w' R l.length D ∧ Blk (tol l) D 0 l.length ∧ w.heap.size ≤ R ∧ Kept w w'
theorem og_turn {w w' : World} {R B T : Nat} {v : Value} {l : List Pc} (h : Og encP 4 T w B v l) (hn : ∀ b, v.ownBlock = some b → b ≠ R) (t : Turn R w w') : Og encP 4 T w' B v l := og_block h (fun g cur hg ha => t.2.2.2 g (at_lt ha) (hn g hg))
theorem cmp_ok {Y X R : Nat} {p k v : Value} {l : List Pc} {w : World} (hY : At w Y #[.pointer (some ⟨X, 0, none⟩)] 23) (hX : At w X #[p, k, v] 54) (hO : Og encP 4 62 w 0 v l) (h1 : Y ≠ R) (h2 : X ≠ R) (h3 : ∀ b, v.ownBlock = some b → b ≠ R) : CmpOk (tol l) l.length R (.pointer (some ⟨Y, 0, none⟩)) w := fun u x y ht hx hy => by
  have hp : v ≠ .slice none 0 0 := by
    rintro rfl
    obtain ⟨a, cap, e, _⟩ := og_is encP_ok hO
    injection e with e1 e2
    omega
  obtain ⟨G, cap, rfl⟩ := og_some hO hp
  exact less_any u (at_turn hY ht h1) (at_turn hX ht h2) (og_turn hO h3 ht) hx hy
set_option maxHeartbeats 3200000 in
theorem ord_any {X n k : Nat} {l : List Pc} {F : Nat → Prop} (w : World) (h : TkT w X n k l F) (hl : l.length ≤ 64) : Calls Try.prog 16 #[.pointer (some ⟨X, 0, none⟩)] w (OrdC l w) := by
  obtain ⟨v, hX, hO, -⟩ := h
  have HX := hid hX
  have HO := hid hO
  obtain ⟨Y, hY⟩ : ∃ Y, w.heap.size = Y := ⟨_, rfl⟩
  have hAY := at_new w #[.pointer (some ⟨X, 0, none⟩)] 23
  have hK1 := kept_alloc (kept_refl w) (.cells #[.pointer (some ⟨X, 0, none⟩)] 23)
  have hXY : X < w.heap.size := at_lt hX
  have hs1 : (w.alloc (.cells #[.pointer (some ⟨X, 0, none⟩)] 23)).heap.size = Y + 1 := by rw [← hY]; show (w.heap.push _).size = _; simp
  obtain ⟨w1, hw1⟩ : ∃ w1, w.alloc (.cells #[.pointer (some ⟨X, 0, none⟩)] 23) = w1 := ⟨_, rfl⟩
  rw [hw1] at hAY hK1 hs1
  rw [hY] at hAY
  have HX1 := hid (at_kept hX hK1)
  have HO1 := hid (og_stays hO hK1)
  obtain ⟨a, cap, rfl, -, -⟩ := og_is encP_ok hO
  have c0 : w1.cell? ⟨Y, 0, none⟩ = some (.pointer (some ⟨X, 0, none⟩)) := at_cell hAY 0
  have c1 : w1.cell? ⟨X, 2, none⟩ = some (.slice a l.length cap) := at_cell HX1.out 2
  have hmk := mk_places l.length hl w1
  have hK2 := kept_alloc (kept_refl w1) (.cells (nv (fun _ => 0) l.length) 3)
  have hP2 : Pl (w1.alloc (.cells (nv (fun _ => 0) l.length) 3)) (Y + 1) l.length (fun _ => 0) := by
    have := at_new w1 (nv (fun _ => 0) l.length) 3
    rw [hs1] at this
    exact this
  rw [hs1] at hmk
  obtain ⟨w2, hw2⟩ : ∃ w2, w1.alloc (.cells (nv (fun _ => 0) l.length) 3) = w2 := ⟨_, rfl⟩
  rw [hw2] at hmk hK2 hP2
  obtain ⟨R, hR⟩ : ∃ R, R = Y + 1 := ⟨_, rfl⟩
  rw [← hR] at hmk hP2
  have HY2 := hid (at_kept hAY hK2)
  have HX2 := hid (at_kept HX1.out hK2)
  have HO2 := hid (og_stays HO1.out hK2)
  have HP2 := hid hP2
  have HKw := hid (kept_trans hK1 hK2)
  have HB : Hid (Y ≠ R ∧ X ≠ R ∧ (∀ b, (Value.slice a l.length cap).ownBlock = some b → b ≠ R) ∧ w.heap.size ≤ R) := hid ⟨by omega, by omega, fun b hb => by have := (World.ownsRow.lt hO b hb).2; omega, by omega⟩
  have hmf : ∀ (fn : Fn) (first cap : Array Value) (w : World), (Instr.makeFunc fn first cap).run Try.prog w = .ok (.func fn first cap) w := fun _ _ _ _ => rfl
  clear hX hO hAY hK1 hXY hs1 hK2 hP2 hR HX HO HX1 HO1
  generalize hnn : l.length = m at *
  go_enter Try.func16, Try.ntmps16
  go_wp2_with fail
  clear hw1 hw2 hY hmk c0 c1
  go_loopw [13] (fun j wr => ∃ i : Nat, i ≤ m ∧ j = .int .i64 (i : Int) ∧ Hid (Pl wr R m (fun p => if p < i then p else 0)) ∧ Hid (Turn R w2 wr)) (fun j _ => m - (intOf j).toNat)
  case atStart => exact ⟨0, Nat.zero_le _, rfl, hid (pl_ext HP2.out (fun p _ => by simp)), hid (Turn.refl R w2)⟩
  case round =>
    obtain ⟨i, hi, rfl, HPr, HTr⟩ := hrel
    clear HP2
    by_cases hlt : i < m
    · have hltz : (i : Int) < (m : Int) := by omega
      have ci := pl_cell HPr.out hlt
      have fi := pl_free HPr.out i
      clear hnn
      go_wp2_with fail
      go_roundw
      case rel =>
        refine ⟨i + 1, by omega, by go_num, hid (pl_ext (pl_put HPr.out hlt i) (fun p _ => ?_)), hid (turn_set HTr.out _ _)⟩
        by_cases e : p = i
        · subst e; rw [if_pos rfl, if_pos (by omega)]
        · rw [if_neg e]
          by_cases e2 : p < i
          · rw [if_pos e2, if_pos (by omega)]
          · rw [if_neg e2, if_neg (by omega)]
      case measure => simp [intOf]; omega
    · have hltz : ¬ (i : Int) < (m : Int) := by omega
      have hPi : Pl wr R m (fun p => p) := pl_ext HPr.out (fun p hp => by rw [if_pos (by omega)])
      have hcm : CmpOk (tol l) m R (.pointer (some ⟨Y, 0, none⟩)) wr := by
        have := cmp_ok (R := R) (at_turn HY2.out HTr.out HB.out.1) (at_turn HX2.out HTr.out HB.out.2.1) (og_turn HO2.out HB.out.2.2.1 HTr.out) HB.out.1 HB.out.2.1 HB.out.2.2.1
        rw [hnn] at this
        exact this
      have hS := sort_any (cap := m) wr hcm (sym_all hcm hl 65) hPi hl
      have HNN := hid hnn
      clear hPi hcm hnn
      go_wp2_with fail
      refine hS.mono ?_
      rintro e w5 ⟨rfl, ⟨D, p5, b5⟩, t5⟩
      have HP5 := hid p5
      have HB5 := hid b5
      have HT5 := hid (kept_turn HKw.out HB.out.2.2.2 (HTr.out.trans t5))
      clear p5 b5 t5 hS
      go_wp2_with fail
      go_ret
      refine ⟨R, D, ?_, ?_, ?_, HB.out.2.2.2, HT5.out⟩
      · rw [HNN.out]; rfl
      · rw [HNN.out]; exact HP5.out
      · rw [HNN.out]; exact HB5.out
end Go.Proofs.Ytalcbahnhiibkaa
