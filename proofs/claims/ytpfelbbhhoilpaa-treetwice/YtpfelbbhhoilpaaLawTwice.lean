/- The law on what is flipped twice, walked: it answers true and turns nothing that was there. -/
import Derived.Test.YtpfelbbhhoilpaaOf
namespace Go.Proofs.Ytpfelbbhhoilpaa
open Go.ChangeShapes Go.WideShapes Go.ChangeAt Go.RowKit
set_option linter.unusedVariables false
set_option linter.unusedSimpArgs false
set_option maxRecDepth 100000

set_option maxHeartbeats 6400000 in
theorem twice_walk (oa : Option Addr) (len cap b o : Nat) (S : Nat → Fx) (f : Fx) (w : World) (hr : Row w oa len cap b o S) (hx : U f.x) :
    Calls Try.prog 7 #[.slice oa len cap, .agg #[.int .i64 f.i, .int .u64 f.x]] w fun e w' => e = .returned (.bool true) ∧ Kept w w' := by
  have HRw := hid hr
  have HX := hid hx
  obtain ⟨w0, hw0⟩ : ∃ w0, w.alloc (.cells #[.int .i64 f.i, .int .u64 f.x] 28) = w0 := ⟨_, rfl⟩
  have HQ0 := hid (at_new w #[.int .i64 f.i, .int .u64 f.x] 28)
  have HK0 := hid (kept_alloc (kept_refl w) (.cells #[.int .i64 f.i, .int .u64 f.x] 28))
  rw [hw0] at HQ0 HK0
  obtain ⟨Q, hQ⟩ : ∃ Q, w.heap.size = Q := ⟨_, rfl⟩
  rw [hQ] at HQ0
  have HB := hid hQ
  clear hr hx
  go_enter Try.func7, Try.ntmps7
  go_wp2_with fail
  refine (new_any w0).mono ?_
  rintro e w1 ⟨rfl, k1, t1, s1⟩
  obtain ⟨X, hX⟩ : ∃ X, w0.heap.size = X := ⟨_, rfl⟩
  rw [hX] at t1 s1 ⊢
  have HLX : Hid (Q < X ∧ X < w1.heap.size) := hid (by have := at_lt HQ0.out; omega)
  have HQ1 := hid (at_kept HQ0.out k1)
  have HK1 := hid (kept_trans HK0.out k1)
  have HT1 := hid t1
  clear k1 t1 s1 hX HQ0 HK0
  go_wp2_with fail
  refine (new_any w1).mono ?_
  rintro e w2 ⟨rfl, k2, t2, s2⟩
  obtain ⟨Y, hY⟩ : ∃ Y, w1.heap.size = Y := ⟨_, rfl⟩
  rw [hY] at t2 s2 HLX ⊢
  have HQ2 := hid (at_kept HQ1.out k2)
  have HK2 := hid (kept_trans HK1.out k2)
  have HT2 := hid (tr_kept HT1.out k2)
  have HU2 := hid t2
  clear k2 t2 s2 hY HQ1 HK1 HT1
  go_wp2_with fail
  refine (fixed_any w2).mono ?_
  rintro e w3 ⟨rfl, k3⟩
  have HQ3 := hid (at_kept HQ2.out k3)
  have HK3 := hid (kept_trans HK2.out k3)
  have HT3 := hid (tr_kept HT2.out k3)
  have HU3 := hid (tr_kept HU2.out k3)
  clear k3 HQ2 HK2 HT2 HU2
  have HF3 := hid (flips_any w3 HT3.out (ops_kept HRw.out HK3.out) (fun hl => by have := (HRw.out.2.2.2.1 hl).2; have := HB.out; have := HLX.out; omega))
  go_wp2_with fail
  refine HF3.out.mono ?_
  rintro e w4 ⟨rfl, t4, r4⟩
  have HT4 := hid r4
  have HQ4 := hid (at_turn HQ3.out t4 (by have := HLX.out; omega))
  have HK4 := hid (kept_turn HK3.out (by have := HLX.out; have := HB.out; omega) t4)
  have HU4 := hid (tr_turn HU3.out t4 (by have := HLX.out; omega))
  clear t4 r4 HF3 HT3 HQ3 HK3 HU3
  have HF4 := hid (flips_any w4 HU4.out (ops_kept HRw.out HK4.out) (fun hl => by have := (HRw.out.2.2.2.1 hl).2; have := HB.out; have := HLX.out; omega))
  generalize nv (fl S (mn len)) 64 = na at *
  go_wp2_with fail
  refine HF4.out.mono ?_
  rintro e w5 ⟨rfl, t5, r5⟩
  have HU5 := hid r5
  have HQ5 := hid (at_turn HQ4.out t5 (by have := HLX.out; omega))
  have HK5 := hid (kept_turn HK4.out (by have := HLX.out; have := HB.out; omega) t5)
  have HT5 := hid (tr_turn HT4.out t5 (by have := HLX.out; omega))
  clear t5 r5 HF4 HT4 HQ4 HK4 HU4
  generalize fl S (mn len) = L at *
  generalize nv L 64 = nb at *
  obtain ⟨q0, q1⟩ : w5.cell? ⟨Q, 0, none⟩ = some (.int .i64 f.i) ∧ w5.cell? ⟨Q, 1, none⟩ = some (.int .u64 f.x) := ⟨at_cell HQ5.out 0, at_cell HQ5.out 1⟩
  have HF5 := hid (flip_any f w5 HT5.out)
  go_wp2_with fail
  refine HF5.out.mono ?_
  rintro e w6 ⟨rfl, t6, r6⟩
  have HT6 := hid r6
  have HQ6 := hid (at_turn HQ5.out t6 (by have := HLX.out; omega))
  have HK6 := hid (kept_turn HK5.out (by have := HLX.out; have := HB.out; omega) t6)
  have HU6 := hid (tr_turn HU5.out t6 (by have := HLX.out; omega))
  have HWl := hid HT5.out.2
  clear t6 r6 HF5 q0 q1 HT5 HQ5 HK5 HU5
  obtain ⟨q0, q1⟩ : w6.cell? ⟨Q, 0, none⟩ = some (.int .i64 f.i) ∧ w6.cell? ⟨Q, 1, none⟩ = some (.int .u64 f.x) := ⟨at_cell HQ6.out 0, at_cell HQ6.out 1⟩
  have HF6 := hid (flip_any f w6 HT6.out)
  generalize (if okI f.i then (0 : Int) else 1) = r0 at *
  go_wp2_with fail
  refine HF6.out.mono ?_
  rintro e w7 ⟨rfl, t7, r7⟩
  have HT7 : Hid (Tr w7 X L) := hid (tr_ext r7 (flipO_twice HWl.out HX.out))
  have HQ7 := hid (at_turn HQ6.out t7 (by have := HLX.out; omega))
  have HK7 := hid (kept_turn HK6.out (by have := HLX.out; have := HB.out; omega) t7)
  have HU7 := hid (tr_turn HU6.out t7 (by have := HLX.out; omega))
  clear t7 r7 HF6 q0 q1 HT6 HQ6 HK6 HU6 HWl HX
  have HW7 := hid (walk_any w7 HT7.out.1 HU7.out.1)
  have HE := hid (wk_eq (N := nod L) (M := nod L) (k := 1) rfl)
  go_wp2_with fail
  refine HW7.out.mono ?_
  rintro e w8 ⟨v8, rfl, o8, k8⟩
  rw [HE.out.1] at o8
  rw [HE.out.2]
  obtain ⟨a8, c8, rfl⟩ := own_is o8
  have HQ8 := hid (at_kept HQ7.out k8)
  have HK8 := hid (kept_trans HK7.out k8)
  clear o8 k8 HW7 HE HQ7 HK7 HT7 HU7
  go_wp2_with fail
  refine (walk_nil1 w8).mono ?_
  rintro e w9 ⟨rfl, k9⟩
  have HQ9 := hid (at_kept HQ8.out k9)
  have HK9 := hid (kept_trans HK8.out k9)
  clear k9 HQ8 HK8
  go_wp2_with fail
  refine (walk_nil2 w9).mono ?_
  rintro e w10 ⟨rfl, k10⟩
  have HQ10 := hid (at_kept HQ9.out k10)
  have HK10 := hid (kept_trans HK9.out k10)
  clear k10 HQ9 HK9
  obtain ⟨q0, q1⟩ : w10.cell? ⟨Q, 0, none⟩ = some (.int .i64 f.i) ∧ w10.cell? ⟨Q, 1, none⟩ = some (.int .u64 f.x) := ⟨at_cell HQ10.out 0, at_cell HQ10.out 1⟩
  have hcs : (cs ([] : List Nat)).length = 0 := rfl
  rw [hcs]
  clear hcs
  go_wp2_with fail
  refine (flip_nil _ _ _).mono ?_
  rintro e w11 ⟨rfl, rfl⟩
  go_wp2_with fail
  refine (root_nil _).mono ?_
  rintro e w12 ⟨rfl, rfl⟩
  go_wp2_with fail
  refine (leaves_nil _).mono ?_
  rintro e w13 ⟨rfl, rfl⟩
  go_wp2_with fail
  refine (apart_nil1 _ _).mono ?_
  rintro e w14 ⟨rfl, rfl⟩
  go_wp2_with fail
  refine (apart_nil2 _).mono ?_
  rintro e w15 ⟨rfl, rfl⟩
  go_wp2_with fail
  go_ret
  exact ⟨rfl, HK10.out⟩
end Go.Proofs.Ytpfelbbhhoilpaa
