/- The contracts of New, Node, Root and Flip: a tree as its leaves (Tr). -/
import Derived.Test.YtpfelbbhhoilpaaMem
namespace Go.Proofs.Ytpfelbbhhoilpaa
open Go.ChangeShapes Go.WideShapes Go.ChangeAt Go.RowKit
set_option linter.unusedVariables false
set_option linter.unusedSimpArgs false
set_option maxRecDepth 100000

def Tr (w : World) (X : Nat) (L : Nat → Int) : Prop := Nd w X (nod L) ∧ Wl L
section
variable {w w' : World} {X Y : Nat} {L M : Nat → Int}
theorem tr_kept (h : Tr w X L) (k : Kept w w') : Tr w' X L := ⟨nd_kept h.1 k, h.2⟩
theorem tr_turn (h : Tr w X L) (t : Turn Y w w') (hn : X ≠ Y) : Tr w' X L := ⟨at_turn h.1 t hn, h.2⟩
theorem tr_ext (h : Tr w X L) (e : Eq64 L M) : Tr w X M := ⟨nd_ext h.1 (fun k hk => nod_ext e hk), fun j hj => by rw [← e j hj]; exact h.2 j hj⟩
theorem tr_lt (h : Tr w X L) : X < w.heap.size := at_lt h.1
end
theorem build54 (w : World) : (Instr.build 54 #[]).run Try.prog w = .ok (.agg (nv (fun _ => 0) 128)) w := by kernel_rfl
theorem wpList_build54 {ops : Array Oper} {rest : List Oper} {op : Oper} {act : Act} {w : World} {Q : Exit → Act → World → Prop} (hgd : op.guard = none) (ho : op.op = .build 54 #[]) (cs : Array Value)
    (hb : (Instr.build 54 #[]).run Try.prog w = .ok (.agg cs) w) (h : wpList Try.prog ops Q rest (act.put op.dst (.agg cs)) w) : wpList Try.prog ops Q (op :: rest) act w :=
  wpList_plain hgd fun _ hK => by
    unfold Oper.wp execOp
    simp only [ho, List.map_toArray, List.map_nil, Sem.run_bind, Sem.run_pure, Result.andThen_ok, hb]
    exact hK _ _ h
def NewC (w : World) (e : Ending) (w' : World) : Prop := e = .returned (.pointer (some ⟨w.heap.size, 0, none⟩)) ∧ Kept w w' ∧ Tr w' w.heap.size (fun _ => 0) ∧ w'.heap.size = w.heap.size + 1
set_option maxHeartbeats 800000 in
theorem new_any (w : World) : Calls Try.prog 9 #[] w (NewC w) := by
  have HB := hid (build54 w)
  have HA := hid (at_new w (nv (fun _ => 0) 128) 54)
  have HK := hid (kept_alloc (kept_refl w) (.cells (nv (fun _ => 0) 128) 54))
  have HE : Hid (∀ w' : World, At w' w.heap.size (nv (fun _ => 0) 128) 54 → Kept w w' → w'.heap.size = w.heap.size + 1 → NewC w (.returned (.pointer (some ⟨w.heap.size, 0, none⟩))) w') := hid (fun w' h k s => ⟨rfl, k, ⟨nd_ext h (fun k hk => by rw [nod_nought]), fun j hj => U_zero⟩, s⟩)
  generalize nv (fun _ => 0) 128 = cs at *
  go_enter Try.func9, Try.ntmps9
  go_wp2_with (refine wpList_build54 rfl rfl cs HB.out ?_)
  go_ret
  exact HE.out _ HA.out HK.out (by simp)
set_option maxHeartbeats 1600000 in
theorem node_any {X : Nat} {L : Nat → Int} (l i : Nat) (hl : l ≤ 6) (hi : i < 2 ^ l) (w : World) (h : Tr w X L) :
    Calls Try.prog 13 #[.pointer (some ⟨X, 0, none⟩), .int .i64 (l : Int), .int .i64 (i : Int)] w fun e w' => e = .returned (.int .u64 (nod L (2 ^ l + i))) ∧ Kept w w' := by
  obtain ⟨p, hp⟩ : ∃ p, 2 ^ l = p := ⟨_, rfl⟩
  have hp64 : p ≤ 64 := by rw [← hp]; exact Nat.le_trans (Nat.pow_le_pow_right (by omega) hl) (by omega)
  have hpw : (2 : Int) ^ l = (p : Int) := by rw [← hp]; simp
  rw [hp] at hi ⊢
  obtain ⟨a, ha⟩ : ∃ a, p + i = a := ⟨_, rfl⟩
  have c0 := nd_cell h.1 (k := a) (by omega)
  rw [ha]
  generalize nod L a = y at *
  clear h
  have e1 : decide ((l : Int) < 0) = false := by simp
  have e2 : decide ((6 : Int) < (l : Int)) = false := by simp; omega
  have e3 : decide ((i : Int) < 0) = false := by simp
  have e4 : decide ((p : Int) ≤ (i : Int)) = false := by simp; omega
  have hwa : IntKind.i64.wrap ((p : Int) + (i : Int)) = (a : Int) := by rw [IntWalk.i64_in _ (by omega)]; omega
  have b1 : (a : Int) < 128 := by omega
  clear ha hp
  go_enter Try.func13, Try.ntmps13
  go_wp2_with fail
  go_quiet (fail)
  go_wp2_with fail
  go_ret
  exact ⟨rfl, kept_drewN (kept_refl w) _⟩
def nodI (L : Nat → Int) (l i : Int) : Int := if 0 ≤ l ∧ l ≤ 6 ∧ 0 ≤ i ∧ i < 2 ^ l.toNat then nod L (2 ^ l.toNat + i.toNat) else 0
set_option maxHeartbeats 1600000 in
theorem node_all {X : Nat} {L : Nat → Int} (l i : Int) (w : World) (h : Tr w X L) :
    Calls Try.prog 13 #[.pointer (some ⟨X, 0, none⟩), .int .i64 l, .int .i64 i] w fun e w' => e = .returned (.int .u64 (nodI L l i)) ∧ Kept w w' := by
  by_cases g : 0 ≤ l ∧ l ≤ 6 ∧ 0 ≤ i ∧ i < 2 ^ l.toNat
  · have HE : nodI L l i = nod L (2 ^ l.toNat + i.toNat) := if_pos g
    rw [HE]
    obtain ⟨g1, g2, g3, g4⟩ := g
    obtain ⟨l, rfl⟩ := Int.eq_ofNat_of_zero_le g1
    obtain ⟨i, rfl⟩ := Int.eq_ofNat_of_zero_le g3
    have g5 : i < 2 ^ l := by
      have : ((i : Nat) : Int) < ((2 ^ l : Nat) : Int) := by simpa using g4
      omega
    exact node_any l i (by omega) g5 w h
  · have HE : nodI L l i = 0 := if_neg g
    rw [HE]
    clear HE h
    by_cases g1 : l < 0
    · have e1 : decide (l < 0) = true := by simpa using g1
      clear g g1
      go_enter Try.func13, Try.ntmps13
      go_wp2_with fail
      go_ret
      exact ⟨rfl, kept_refl w⟩
    · have e1 : decide (l < 0) = false := by simpa using g1
      by_cases g2 : 6 < l
      · have e2 : decide (6 < l) = true := by simpa using g2
        clear g g1 g2
        go_enter Try.func13, Try.ntmps13
        go_wp2_with fail
        go_ret
        exact ⟨rfl, kept_refl w⟩
      · have e2 : decide (6 < l) = false := by simpa using g2
        by_cases g3 : i < 0
        · have e3 : decide (i < 0) = true := by simpa using g3
          clear g g1 g2 g3
          go_enter Try.func13, Try.ntmps13
          go_wp2_with fail
          go_ret
          exact ⟨rfl, kept_refl w⟩
        · have e3 : decide (i < 0) = false := by simpa using g3
          obtain ⟨l, rfl⟩ := Int.eq_ofNat_of_zero_le (show 0 ≤ l by omega)
          obtain ⟨p, hp⟩ : ∃ p, 2 ^ l = p := ⟨_, rfl⟩
          have hpw : (2 : Int) ^ l = (p : Int) := by rw [← hp]; simp
          have hp64 : p ≤ 64 := by rw [← hp]; exact Nat.le_trans (Nat.pow_le_pow_right (by omega) (show l ≤ 6 by omega)) (by omega)
          have hl6 : l ≤ 6 := by omega
          have e4 : decide ((p : Int) ≤ i) = true := by
            have : ¬ i < (p : Int) := fun h => g ⟨by omega, by omega, by omega, by rw [← hpw] at h; simpa using h⟩
            simp; omega
          clear g g1 g2 g3 hp
          go_enter Try.func13, Try.ntmps13
          go_wp2_with fail
          go_ret
          exact ⟨rfl, kept_refl w⟩
theorem node_nil (l i : Int) (w : World) : Calls Try.prog 13 #[.pointer none, .int .i64 l, .int .i64 i] w fun e w' => e = .returned (.int .u64 0) ∧ w' = w := by
  go_enter Try.func13, Try.ntmps13
  go_wp2_with fail
  go_ret
  exact ⟨rfl, rfl⟩
theorem root_any {X : Nat} {L : Nat → Int} (w : World) (h : Tr w X L) : Calls Try.prog 15 #[.pointer (some ⟨X, 0, none⟩)] w fun e w' => e = .returned (.int .u64 (nod L 1)) ∧ Kept w w' := by
  have hN := node_any 0 0 (by omega) (by simp) w h
  simp only [Nat.pow_zero, Nat.add_zero] at hN
  go_enter Try.func15, Try.ntmps15
  go_wp2_with fail
  refine hN.mono ?_
  rintro e w1 ⟨rfl, k1⟩
  clear hN
  go_wp2_with fail
  go_ret
  exact ⟨rfl, k1⟩
theorem root_nil (w : World) : Calls Try.prog 15 #[.pointer none] w fun e w' => e = .returned (.int .u64 0) ∧ w' = w := by
  go_enter Try.func15, Try.ntmps15
  go_wp2_with fail
  refine (node_nil 0 0 w).mono ?_
  rintro e w1 ⟨rfl, rfl⟩
  go_wp2_with fail
  go_ret
  exact ⟨rfl, rfl⟩
end Go.Proofs.Ytpfelbbhhoilpaa
