/- The deferred closure of the landed read: where the reading panicked it recovers and lays the zero message and the error; where it returns it turns nothing. -/
import Derived.Test.YtioeidhblbfgmaaGreatY24
import Derived.Test.YtioeidhblbfgmaaGreatY42
import Derived.Test.YtioeidhblbfgmaaGreatY14
import Derived.Recover

namespace Go.Proofs.YtioeidhblbfgmaaGreat
open Go.ChangeShapes Go.WideShapes Go.ChangeAt Go.RowKit
set_option linter.unusedVariables false
set_option linter.unusedSimpArgs false
set_option maxRecDepth 100000

theorem strM2 : StructOf Tryz.prog 29 12 := ⟨by kernel_rfl, _, Tryz.underlying29, rfl⟩
theorem op_storeW {P : Program} {T : Nat} {w w' : World} {o : Oper} {a : Act} {K : Act → World → Prop} {Q : Exit → Act → World → Prop} (x y : Operand) (ho : o.op = .store T x y) (X : Nat) (hx : a.eval x = .pointer (some ⟨X, 0, none⟩)) (cs : Array Value) (hy : a.eval y = .agg cs)
    (hst : (storeVar T ⟨X, 0, none⟩ (.agg cs)).run P w = .ok () w') (h : K (a.put o.dst undef) w') : o.wp P a w K Q := by
  unfold Oper.wp execOp
  simp only [ho, hx, hy, Instr.storeAt, Instr.sureAddr, Sem.run_bind, Sem.run_pure, Result.andThen_ok, hst]
  exact h
theorem assert_errno (f : Nat) (w : World) : (Instr.typeAssert (.iface 32 (.int .i64 (f : Int))) 20 32 false).run Tryz.prog w = .ok (.int .i64 (f : Int)) w := by kernel_rfl
theorem catch_idle (p q : Addr) (w : World) :
    CallsD Tryz.prog 72 #[.pointer (some p), .pointer (some q)] .returning w fun e u' w' => e = .returned (.tuple #[]) ∧ u' = .returning ∧ w' = w := by
  refine callsD_of_wpS Tryz.func72 rfl fun c₀ cs hu => ?_
  apply wpS_seq
  apply wpS_region
  simp [wpOpsS, go_sem, recoverD, hu, Tryz.ntmps72, Exit.thenS]
  have e9 : (#[Value.pointer (some p), Value.pointer (some q)] ++ ((Array.replicate 7 undef).setIfInBounds 1 Value.nilIface).setIfInBounds 0 Value.nilIface) = #[.pointer (some p), .pointer (some q), .nilIface, .nilIface, undef, undef, undef, undef, undef] := rfl
  rw [e9]
  refine wpS_of_wp ?_
  go_wp2
  refine ⟨rfl, .returning, ?_, .tuple #[], by kernel_rfl, rfl, rfl, rfl⟩
  cases c₀
  simp_all
theorem catch_fault (M E f : Nat) (w : World) (cs0 : Array Value) (v0 : Value) (hM : At w M cs0 29) (h12 : cs0.size = 12) (hE : At w E #[v0] 32) (hn : M ≠ E) :
    CallsD Tryz.prog 72 #[.pointer (some ⟨M, 0, none⟩), .pointer (some ⟨E, 0, none⟩)] (.panicking (fault f)) w fun e u' w' => e = .returned (.tuple #[]) ∧ u' = .panicking [{ v := .iface 32 (.int .i64 (f : Int)), recovered := true }] ∧ At w' M #[.int .u8 0, .int .u8 0, .int .u8 0, .int .u32 0, .int .u8 0, .int .u8 0, .bool false, .slice none 0 0, .slice none 0 0, .slice none 0 0, .slice none 0 0, .slice none 0 0] 29 ∧ At w' E #[.int .i64 (f : Int)] 32 ∧ Tn (fun b => b = M ∨ b = E) w w' := by
  refine callsD_of_wpS Tryz.func72 rfl fun c₀ cs hu => ?_
  unfold fault at hu
  apply wpS_seq
  apply wpS_region
  simp [wpOpsS, go_sem, recoverD, hu, Tryz.ntmps72, Exit.thenS]
  have e9 : (#[Value.pointer (some ⟨M, 0, none⟩), Value.pointer (some ⟨E, 0, none⟩)] ++ ((Array.replicate 7 undef).setIfInBounds 1 (Value.iface 32 (Value.int IntKind.i64 (f : Int)))).setIfInBounds 0 (Value.iface 32 (Value.int IntKind.i64 (f : Int)))) = #[.pointer (some ⟨M, 0, none⟩), .pointer (some ⟨E, 0, none⟩), .iface 32 (.int .i64 (f : Int)), .iface 32 (.int .i64 (f : Int)), undef, undef, undef, undef, undef] := rfl
  rw [e9]
  refine wpS_of_wp ?_
  have hz := zeroMv
  have hta : ∀ w, (Instr.typeAssert (.iface 32 (.int .i64 (f : Int))) 20 32 false).run Tryz.prog w = .ok (.int .i64 (f : Int)) w := fun w => assert_errno f w
  have AM0 : At w.drew M cs0 29 := hM
  have AE0 : At w.drew E #[v0] 32 := hE
  have TN0 : Tn (fun b => b = M ∨ b = E) w w.drew := tn_kept (kept_drew (kept_refl w))
  have hs12 := h12
  clear hM hE e9
  go_wp2_with fail
  refine wp_region_noPanic ?_
  refine wp_region_held_drew (S := (fun _ => True)) (by kernel_rfl) (trivial) (fun hHeld => ?_)
  generalize hwd : w.drew = wd at *
  clear hwd
  refine wpAnyH_take (i := 0) (v := .agg #[.int .u8 0, .int .u8 0, .int .u8 0, .int .u32 0, .int .u8 0, .int .u8 0, .bool false, .slice none 0 0, .slice none 0 0, .slice none 0 0, .slice none 0 0, .slice none 0 0]) rfl (by kernel_rfl) (by kernel_rfl) (by kernel_rfl) (fun _ _ _ h => h) (Or.inl ⟨by rfl, fun w hSw => by (try dsimp only at hSw); go_simp⟩) (by assumption) ?_
  try simp only [List.getElem_toArray, List.getElem_cons_zero, List.getElem_cons_succ, Act.put, List.setIfInBounds_toArray, List.set_cons_zero, List.set_cons_succ]
  refine wpAnyH_take (i := 1) (v := .iface 32 (.int .i64 (f : Int))) rfl (by kernel_rfl) (by kernel_rfl) (by kernel_rfl) (fun _ _ _ h => h) (Or.inl ⟨by rfl, fun w hSw => by (try dsimp only at hSw); go_simp⟩) (by assumption) ?_
  try simp only [List.getElem_toArray, List.getElem_cons_zero, List.getElem_cons_succ, Act.put, List.setIfInBounds_toArray, List.set_cons_zero, List.set_cons_succ]
  refine wpAnyH_take (i := 2) (v := .int .i64 (f : Int)) rfl (by kernel_rfl) (by kernel_rfl) (by kernel_rfl) (fun _ _ _ h => h) (Or.inl ⟨by rfl, fun w hSw => by (try dsimp only at hSw); go_simp⟩) (by assumption) ?_
  try simp only [List.getElem_toArray, List.getElem_cons_zero, List.getElem_cons_succ, Act.put, List.setIfInBounds_toArray, List.set_cons_zero, List.set_cons_succ]
  refine wpAnyH_ready (rs := [3]) (by kernel_rfl) (by simp) ?_
  refine AllReadyH.cons (i := 3) rfl (fun K hK => ?_) AllReadyH.nil
  refine op_storeW (T := 29) _ _ rfl M rfl _ rfl (storeW (cs := #[.int .u8 0, .int .u8 0, .int .u8 0, .int .u32 0, .int .u8 0, .int .u8 0, .bool false, .slice none 0 0, .slice none 0 0, .slice none 0 0, .slice none 0 0, .slice none 0 0]) strM2 AM0 rfl h12 (by simp [Value.oneCell'])) ?_
  have AM1 := at_setRow (cs := #[.int .u8 0, .int .u8 0, .int .u8 0, .int .u32 0, .int .u8 0, .int .u8 0, .bool false, .slice none 0 0, .slice none 0 0, .slice none 0 0, .slice none 0 0, .slice none 0 0]) AM0
  have AE1 := at_outW (ds := #[.int .u8 0, .int .u8 0, .int .u8 0, .int .u32 0, .int .u8 0, .int .u8 0, .bool false, .slice none 0 0, .slice none 0 0, .slice none 0 0, .slice none 0 0, .slice none 0 0]) AE0 (Ne.symm hn)
  have TN1 := tn_comp TN0 (tn_row wd M #[.int .u8 0, .int .u8 0, .int .u8 0, .int .u32 0, .int .u8 0, .int .u8 0, .bool false, .slice none 0 0, .slice none 0 0, .slice none 0 0, .slice none 0 0, .slice none 0 0]) (fun b hb => .inl (.inl hb))
  generalize wd.setRow M #[.int .u8 0, .int .u8 0, .int .u8 0, .int .u32 0, .int .u8 0, .int .u8 0, .bool false, .slice none 0 0, .slice none 0 0, .slice none 0 0, .slice none 0 0, .slice none 0 0] = v1 at *
  clear hHeld
  show K _ _
  refine hK.out _ _ (trivial) (fun hHeld => ?_)
  clear hK K
  try simp only [List.getElem_toArray, List.getElem_cons_zero, List.getElem_cons_succ, Act.put, List.setIfInBounds_toArray, List.set_cons_zero, List.set_cons_succ]
  refine wpAnyH_ready (rs := [4]) (by kernel_rfl) (by simp) ?_
  refine AllReadyH.cons (i := 4) rfl (fun K hK => ?_) AllReadyH.nil
  have c0 := at_cell AE1 0
  have cf := at_frozen AE1 0
  have c1 : v1.cell? ⟨E, 0, none⟩ = some _ := c0
  clear c0
  go_simp
  clear c1 cf
  have AM2 := at_other AM1 hn 0 (.int .i64 (f : Int))
  have AE2 : At (v1.setCell ⟨E, 0, none⟩ (.int .i64 (f : Int))) E #[.int .i64 (f : Int)] 32 := at_set AE1 0 (.int .i64 (f : Int))
  have TN2 := tn_comp TN1 (tn_set v1 E 0 (.int .i64 (f : Int))) (fun b hb => .inl (.inr hb))
  show K _ (v1.setCell ⟨E, 0, none⟩ (.int .i64 (f : Int)))
  generalize v1.setCell ⟨E, 0, none⟩ (.int .i64 (f : Int)) = v2 at *
  clear hHeld
  show K _ _
  refine hK.out _ _ (trivial) (fun hHeld => ?_)
  clear hK K
  try simp only [List.getElem_toArray, List.getElem_cons_zero, List.getElem_cons_succ, Act.put, List.setIfInBounds_toArray, List.set_cons_zero, List.set_cons_succ]
  refine wpAnyH_done (by kernel_rfl) ?_ _
  refine NoPanic.normal ?_
  clear hHeld
  refine ⟨rfl, _, rfl, .tuple #[], by kernel_rfl, rfl, rfl, AM2, AE2, TN2⟩
end Go.Proofs.YtioeidhblbfgmaaGreat
