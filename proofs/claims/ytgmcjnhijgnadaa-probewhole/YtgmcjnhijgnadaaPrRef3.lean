/- The contracts of the reference's New and Answer. -/
import Derived.Test.YtgmcjnhijgnadaaPrRef2
import Derived.Test.YtgmcjnhijgnadaaPrFixed
import Derived.Deep.RegionHeld3
namespace Go.Proofs.Ytgmcjnhijgnadaa
open Go.ChangeShapes Go.WideShapes Go.ChangeAt Go.RowKit
set_option linter.unusedVariables false
set_option linter.unusedSimpArgs false
set_option maxRecDepth 100000

theorem infoP6 : (Try.prog.info? 30).map (·.size) = some 6 := by kernel_rfl
theorem six {a0 a1 a2 a3 a4 a5 : Value} (h0 : a0.oneCell' = true) (h1 : a1.oneCell' = true) (h2 : a2.oneCell' = true) (h3 : a3.oneCell' = true) (h4 : a4.oneCell' = true) (h5 : a5.oneCell' = true) : (#[a0, a1, a2, a3, a4, a5] : Array Value).all (·.oneCell') = true := by simp [h0, h1, h2, h3, h4, h5]
theorem loadP {w : World} {Z : Nat} {a0 a1 a2 a3 a4 a5 : Value} (h : At w Z #[a0, a1, a2, a3, a4, a5] 30) : (loadVar 30 ⟨Z, 0, none⟩).run Try.prog w = .ok (.agg #[a0, a1, a2, a3, a4, a5]) w :=
  run_loadVar_row _ _ 30 30 _ (0, 0) _ h Try.underlying30 rfl infoP6
theorem storeP {w : World} {Z : Nat} {a0 a1 a2 a3 a4 a5 b0 b1 b2 b3 b4 b5 : Value} (h : At w Z #[a0, a1, a2, a3, a4, a5] 30) (hb : (#[b0, b1, b2, b3, b4, b5] : Array Value).all (·.oneCell') = true) : (storeVar 30 ⟨Z, 0, none⟩ (.agg #[b0, b1, b2, b3, b4, b5])).run Try.prog w = .ok () (w.setRow Z #[b0, b1, b2, b3, b4, b5]) :=
  run_storeVar_row _ _ 30 30 _ _ h infoP6 rfl hb
theorem wpList_loadP {ops : Array Oper} {rest : List Oper} {op : Oper} {act : Act} {w : World} {Q : Exit → Act → World → Prop} (hgd : op.guard = none) (x : Operand) (ho : op.op = .load 30 x) (Z : Nat) (hx : act.eval x = .pointer (some ⟨Z, 0, none⟩)) (cs : Array Value)
    (hld : (loadVar 30 ⟨Z, 0, none⟩).run Try.prog w = .ok (.agg cs) w) (h : wpList Try.prog ops Q rest (act.put op.dst (.agg cs)) w) : wpList Try.prog ops Q (op :: rest) act w :=
  wpList_plain hgd fun _ hK => by
    unfold Oper.wp execOp
    simp only [ho, hx, Instr.loadAt, Instr.sureAddr, Sem.run_bind, Sem.run_pure, Result.andThen_ok, hld]
    exact hK _ _ h
theorem wpList_storeP {ops : Array Oper} {rest : List Oper} {op : Oper} {act : Act} {w : World} {Q : Exit → Act → World → Prop} (hgd : op.guard = none) (x y : Operand) (ho : op.op = .store 30 x y) (Z : Nat) (hx : act.eval x = .pointer (some ⟨Z, 0, none⟩)) (cs : Array Value) (hy : act.eval y = .agg cs) (w2 : World)
    (hst : (storeVar 30 ⟨Z, 0, none⟩ (.agg cs)).run Try.prog w = .ok () w2) (h : wpList Try.prog ops Q rest (act.put op.dst undef) w2) : wpList Try.prog ops Q (op :: rest) act w :=
  wpList_plain hgd fun _ hK => by
    unfold Oper.wp execOp
    simp only [ho, hx, hy, Instr.storeAt, Instr.sureAddr, Sem.run_bind, Sem.run_pure, Result.andThen_ok, hst]
    exact hK _ _ h
theorem resPT {fn : Func} {p q : Tmp} (h : fn.results = #[.cell p 30, .tmp q]) (tmps : Array Value) {w : World} {Z : Nat} {cs : Array Value} (hp : tmps.getD p undef = .pointer (some ⟨Z, 0, none⟩)) (hld : (loadVar 30 ⟨Z, 0, none⟩).run Try.prog w = .ok (.agg cs) w) :
    (results fn tmps).run Try.prog w = .ok (.tuple #[.agg cs, tmps.getD q undef]) w := by
  have hp' : tmps[p]?.getD undef = .pointer (some ⟨Z, 0, none⟩) := by simpa using hp
  simp [results, h, asAddr, Sem.run_bind, Sem.run_pure, Result.andThen, hp', hld]
theorem others_step (self : Int) (k : Nat) (h : (k : Int) ≠ self) : others self (k + 1) = others self k ++ [(k : Int)] := by rw [others_next, if_neg h]
theorem others_skip (self : Int) (k : Nat) (h : (k : Int) = self) : others self (k + 1) = others self k := by rw [others_next, if_pos h, List.append_nil]
set_option maxHeartbeats 12800000 in
theorem rnew_ok (self : Int) (n : Nat) (h1 : 1 ≤ n) (h2 : n ≤ 64) (h3 : 0 ≤ self) (h4 : self < n) (w : World) : Calls Try.prog 9 #[.int .u8 self, .int .i64 (n : Int)] w fun e w' => ∃ rv, e = .returned (.tuple #[.agg (cellsP (newP self n) rv (.slice none 0 0)), .int .i64 0]) ∧ Og encU 1 5 w' w.heap.size rv (others self n) ∧ Kept w w' := by
  have hz := zeroP
  have a1 := at_new w #[.int .u8 0, .int .i64 0, .slice none 0 0, .int .i64 0, .slice none 0 0, .int .i64 0] 30
  have k1 := kept_alloc (kept_refl w) (.cells #[.int .u8 0, .int .i64 0, .slice none 0 0, .int .i64 0, .slice none 0 0, .int .i64 0] 30)
  obtain ⟨w1, hw1⟩ : ∃ u, w.alloc (.cells #[.int .u8 0, .int .i64 0, .slice none 0 0, .int .i64 0, .slice none 0 0, .int .i64 0] 30) = u := ⟨_, rfl⟩
  obtain ⟨R, hR⟩ : ∃ u, w.heap.size = u := ⟨_, rfl⟩
  rw [hw1] at a1 k1
  rw [hR] at a1
  have a2 := at_new w1 #[.int .u8 self, .int .i64 (n : Int), .slice none 0 0, .int .i64 0, .slice none 0 0, .int .i64 0] 30
  have k2 := kept_alloc (kept_refl w1) (.cells #[.int .u8 self, .int .i64 (n : Int), .slice none 0 0, .int .i64 0, .slice none 0 0, .int .i64 0] 30)
  obtain ⟨Z, hZ⟩ : ∃ u, w1.heap.size = u := ⟨_, rfl⟩
  rw [hZ] at a2
  have HR2 := hid (at_kept a1 k2)
  have HZ2 := hid a2
  have HK2 := hid (kept_trans k1 k2)
  have HNE : Hid (R < Z ∧ w.heap.size = R) := hid ⟨by have := at_lt a1; omega, hR⟩
  have d1 : decide ((n : Int) < 1) = false := by simp; omega
  have d2 : decide ((64 : Int) < (n : Int)) = false := by simp; omega
  have d3 : decide ((n : Int) ≤ self) = false := by simp; omega
  have e1 : IntKind.i64.wrap self = self := IntWalk.i64_in _ (by omega)
  have HEnd : Hid (∀ rv u, Og encU 1 5 u w.heap.size rv (others self n) → Kept w u → (∃ rv', (Ending.returned (.tuple #[.agg #[.int .u8 self, .int .i64 (n : Int), rv, .int .i64 0, .slice none 0 0, .int .i64 0], .int .i64 0])) = .returned (.tuple #[.agg (cellsP (newP self n) rv' (.slice none 0 0)), .int .i64 0]) ∧ Og encU 1 5 u w.heap.size rv' (others self n) ∧ Kept w u)) := hid (fun rv u h5 h6 => ⟨rv, rfl, h5, h6⟩)
  have HLe : Hid (∀ k, k ≤ n → (others self k).length ≤ 64) := hid (fun k hk => by rw [others_len]; omega)
  clear a1 k1 a2 k2
  go_enter Try.func9, Try.ntmps9
  go_wp2_with fail
  clear hw1 hR hZ d1 d2 d3
  generalize w1.alloc (.cells #[.int .u8 self, .int .i64 (n : Int), .slice none 0 0, .int .i64 0, .slice none 0 0, .int .i64 0] 30) = w2 at *
  have HZl : Hid (Z < w2.heap.size) := hid (at_lt HZ2.out)
  go_loopw [7] (fun iv wr => ∃ (k : Nat) (rv : Value), k ≤ n ∧ iv = .int .i64 (k : Int) ∧ Hid (At wr Z #[.int .u8 self, .int .i64 (n : Int), rv, .int .i64 0, .slice none 0 0, .int .i64 0] 30) ∧ Hid (At wr R #[.int .u8 0, .int .i64 0, .slice none 0 0, .int .i64 0, .slice none 0 0, .int .i64 0] 30) ∧ Hid (Og encU 1 5 wr (Z + 1) rv (others self k)) ∧ Hid (Kept w wr ∧ Z < wr.heap.size)) (fun iv _ => n - (intOf iv).toNat)
  case atStart => exact ⟨0, _, Nat.zero_le _, rfl, HZ2, HR2, hid (og_nil _ _ _ _ _), hid ⟨HK2.out, HZl.out⟩⟩
  case round =>
    obtain ⟨k, rv, hk, rfl, HZr, HRr, HO, HKr⟩ := hrel
    clear HZ2 HR2 HK2
    by_cases hlt : k < n
    · by_cases he : (k : Int) = self
      · have hb : ((k : Int) != self) = false := by simpa using he
        have HX := hid (others_skip self k he)
        clear he
        go_wp2_with fail
        go_roundw
        case rel => exact ⟨k + 1, rv, by omega, by go_num, HZr, HRr, hid (by rw [HX.out]; exact HO.out), HKr⟩
        case measure => simp [intOf]; omega
      · have hb : ((k : Int) != self) = true := by simpa using he
        have HX := hid (others_step self k he)
        have e2 : IntKind.u8.wrap (k : Int) = (k : Int) := by rw [IntKind.wrap_u8]; omega
        obtain ⟨q0, q1, q2, q3, q4, q5⟩ := at_cells6 HZr.out
        have HKa := hid (kept_alloc (kept_refl wr) (.cells #[.int .u8 (k : Int)] 5))
        have HOa := hid (og_stays HO.out HKa.out)
        have HAl := hid (rg_alone encU_ok (y := (k : Int)) (at_new wr #[.int .u8 (k : Int)] 5))
        have HBw : Hid (Z + 1 ≤ (wr.alloc (.cells #[.int .u8 (k : Int)] 5)).heap.size) := hid (by rw [World.size_alloc]; have := HKr.out.2; omega)
        have HZa := hid (at_kept HZr.out HKa.out)
        have HRa := hid (at_kept HRr.out HKa.out)
        clear he
        go_wp2_with (at_builtin; go_must (refine wpList_gapp rfl (.tmp 34) (.tmp 37) rfl encU_ok tyU (by decide) (Z + 1) _ _ _ _ rfl HOa.out rfl HAl.out (by have := HLe.out k hk; simp; omega) HBw.out ?_; intro v3 w4 hown3 hgrow3 hnil3; have HZ4 : Hid (At w4 Z _ 30) := hid ((hgrow3.block Z (at_lt HZa.out) (fun e => by have := og_lt HOa.out e.symm; omega)).trans HZa.out); obtain ⟨s0, s1, s2, s3, s4, s5⟩ := at_cells6 HZ4.out; have sf := at_frozen HZ4.out; obtain ⟨va, vc, hv3, -, -⟩ := og_is encU_ok hown3; subst hv3))
        have HR4 : Hid (At w4 R _ 30) := hid ((hgrow3.block R (at_lt HRa.out) (fun e => by have := og_lt HOa.out e.symm; have := HNE.out; omega)).trans HRa.out)
        have HKg := hid (kept_gr (kept_trans HKr.out.1 HKa.out) hgrow3 (fun j hj => by have := og_lt HOa.out hj; have := HNE.out; omega))
        have HZ5 := hid (at_set HZ4.out 2 (.slice va ((others self k).length + 1) vc))
        have HR5 := hid (at_other HR4.out (show R ≠ Z by have := HNE.out; omega) 2 (.slice va ((others self k).length + 1) vc))
        have HO5 : Hid (Og encU 1 5 (w4.setCell ⟨Z, 2, none⟩ (.slice va ((others self k).length + 1) vc)) (Z + 1) (.slice va ((others self k).length + 1) vc) (others self (k + 1))) := hid (by
          have h7 := og_set hown3 (Nat.lt_succ_self Z) 2 (.slice va ((others self k).length + 1) vc)
          rw [List.length_append] at h7
          rw [HX.out]
          exact h7)
        have HK5 : Hid (Kept w (w4.setCell ⟨Z, 2, none⟩ (.slice va ((others self k).length + 1) vc)) ∧ Z < (w4.setCell ⟨Z, 2, none⟩ (.slice va ((others self k).length + 1) vc)).heap.size) := hid ⟨kept_set HKg.out (by have := HNE.out; omega) _ _, at_lt HZ5.out⟩
        go_roundw
        case rel => exact ⟨k + 1, _, by omega, by go_num, HZ5, HR5, HO5, HK5⟩
        case measure => simp [intOf]; omega
    · have he : k = n := by omega
      subst he
      obtain ⟨va, vc, hrv, -, -⟩ := og_is encU_ok HO.out
      subst hrv
      have HL1 := hid (loadP HZr.out)
      have HS1 := hid (storeP (b0 := .int .u8 self) (b1 := .int .i64 (k : Int)) (b2 := .slice va (others self k).length vc) (b3 := .int .i64 0) (b4 := .slice none 0 0) (b5 := .int .i64 0) HRr.out (six rfl rfl rfl rfl rfl rfl))
      have HL2 := hid (loadP (at_setRow (cs := #[.int .u8 self, .int .i64 (k : Int), .slice va (others self k).length vc, .int .i64 0, .slice none 0 0, .int .i64 0]) HRr.out))
      have HF := hid (HEnd.out (.slice va (others self k).length vc) _ (og_low (og_block HO.out (fun q cur hq ha => setRow_other (Z := R) (cs := #[.int .u8 self, .int .i64 (k : Int), .slice va (others self k).length vc, .int .i64 0, .slice none 0 0, .int .i64 0]) (fun e => by have := og_lt HO.out hq; have := HNE.out; omega))) (by have := HNE.out; omega)) (kept_setRow HKr.out.1 (by have := HNE.out; omega) _))
      go_wp2_with (first | (refine wpList_loadP rfl _ rfl Z rfl _ HL1.out ?_) | (refine wpList_storeP rfl _ _ rfl R rfl _ rfl _ HS1.out ?_))
      exact bodyPost_ret (resPT Try.results9 _ rfl HL2.out) rfl HF.out
set_option maxHeartbeats 3200000 in
theorem rnew_bad (self n : Int) (h3 : 0 ≤ self) (h4 : self < 256) (hn : -9223372036854775808 ≤ n ∧ n ≤ 9223372036854775807) (h : ¬ (1 ≤ n ∧ n ≤ 64 ∧ self < n)) (w : World) : Calls Try.prog 9 #[.int .u8 self, .int .i64 n] w fun e w' => ∃ cs, e = .returned (.tuple #[.agg cs, .int .i64 1]) ∧ cs = #[.int .u8 0, .int .i64 0, .slice none 0 0, .int .i64 0, .slice none 0 0, .int .i64 0] ∧ Kept w w' := by
  have hz := zeroP
  have a1 := at_new w #[.int .u8 0, .int .i64 0, .slice none 0 0, .int .i64 0, .slice none 0 0, .int .i64 0] 30
  have k1 := kept_alloc (kept_refl w) (.cells #[.int .u8 0, .int .i64 0, .slice none 0 0, .int .i64 0, .slice none 0 0, .int .i64 0] 30)
  obtain ⟨w1, hw1⟩ : ∃ u, w.alloc (.cells #[.int .u8 0, .int .i64 0, .slice none 0 0, .int .i64 0, .slice none 0 0, .int .i64 0] 30) = u := ⟨_, rfl⟩
  obtain ⟨R, hR⟩ : ∃ u, w.heap.size = u := ⟨_, rfl⟩
  rw [hw1] at a1 k1
  rw [hR] at a1
  have HS1 := hid (storeP (b0 := .int .u8 0) (b1 := .int .i64 0) (b2 := .slice none 0 0) (b3 := .int .i64 0) (b4 := .slice none 0 0) (b5 := .int .i64 0) a1 (six rfl rfl rfl rfl rfl rfl))
  have HL2 := hid (loadP (at_setRow (cs := #[.int .u8 0, .int .i64 0, .slice none 0 0, .int .i64 0, .slice none 0 0, .int .i64 0]) a1))
  have HK := hid (kept_setRow (Z := R) k1 (by omega) #[.int .u8 0, .int .i64 0, .slice none 0 0, .int .i64 0, .slice none 0 0, .int .i64 0])
  have e1 : IntKind.i64.wrap self = self := IntWalk.i64_in _ (by omega)
  clear a1 k1
  rcases (show n < 1 ∨ (1 ≤ n ∧ 64 < n) ∨ (1 ≤ n ∧ n ≤ 64 ∧ n ≤ self) by omega) with g1 | ⟨g1, g2⟩ | ⟨g1, g2, g3⟩
  · have d1 : decide (n < (1 : Int)) = true := by simpa using g1
    clear g1 h
    go_enter Try.func9, Try.ntmps9
    go_wp2_with (refine wpList_storeP rfl _ _ rfl R rfl _ rfl _ HS1.out ?_)
    exact bodyPost_ret (resPT Try.results9 _ rfl HL2.out) rfl ⟨_, rfl, rfl, HK.out⟩
  · have d1 : decide (n < (1 : Int)) = false := by simpa using g1
    have d2 : decide ((64 : Int) < n) = true := by simpa using g2
    clear g1 g2 h
    go_enter Try.func9, Try.ntmps9
    go_wp2_with (refine wpList_storeP rfl _ _ rfl R rfl _ rfl _ HS1.out ?_)
    exact bodyPost_ret (resPT Try.results9 _ rfl HL2.out) rfl ⟨_, rfl, rfl, HK.out⟩
  · have d1 : decide (n < (1 : Int)) = false := by simpa using g1
    have d2 : decide ((64 : Int) < n) = false := by simpa using g2
    have d3 : decide (n ≤ self) = true := by simpa using g3
    clear g1 g2 g3 h
    go_enter Try.func9, Try.ntmps9
    go_wp2_with (refine wpList_storeP rfl _ _ rfl R rfl _ rfl _ HS1.out ?_)
    exact bodyPost_ret (resPT Try.results9 _ rfl HL2.out) rfl ⟨_, rfl, rfl, HK.out⟩
end Go.Proofs.Ytgmcjnhijgnadaa
