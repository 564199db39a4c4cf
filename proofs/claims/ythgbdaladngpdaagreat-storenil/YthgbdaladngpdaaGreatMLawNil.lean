/- The calls of a nil store; the law that it has nothing. -/
import Derived.Test.YthgbdaladngpdaaGreatM20
namespace Go.Proofs.YthgbdaladngpdaaGreat
open Go.ChangeShapes Go.WideShapes Go.ChangeAt Go.RowKit
open Go.Proofs.YthgbdaladngpdaaGreat.Whl (Tn tn_kept tn_refl tn_trans tn_set tn_alloc at_tn kept_tn It)
set_option linter.unusedVariables false
set_option linter.unusedSimpArgs false
set_option maxRecDepth 100000

theorem put_nil (r : R) (now : Int) (w : World) : Calls Tryz.prog 14 #[.pointer none, .agg #[.string r.key, .int .u64 r.s.p, .int .u32 r.s.l, .int .u8 r.s.n, .int .u8 r.kind, .int .u32 r.flags, .int .u64 r.exp, .string r.body], .int .u64 now] w fun e w' => e = .returned (.tuple #[.bool false, .int .i64 1]) ∧ Kept w w' := by
  have HK := hid (kept_alloc (kept_refl w) (.cells #[.string r.key, .int .u64 r.s.p, .int .u32 r.s.l, .int .u8 r.s.n, .int .u8 r.kind, .int .u32 r.flags, .int .u64 r.exp, .string r.body] 42))
  go_enter Tryz.func14, Tryz.ntmps14
  go_wp2_with fail
  go_ret2
  exact ⟨rfl, HK.out⟩
set_option maxHeartbeats 1600000 in
theorem peek_nil (k : ByteArray) (w : World) : Calls Tryz.prog 18 #[.pointer none, .string k] w fun e w' => e = .returned (.tuple #[.agg #[.string zeroR.key, .int .u64 zeroR.s.p, .int .u32 zeroR.s.l, .int .u8 zeroR.s.n, .int .u8 zeroR.kind, .int .u32 zeroR.flags, .int .u64 zeroR.exp, .string zeroR.body], .bool false]) ∧ Kept w w' := by
  have hz := zero27
  have HK := hid (kept_alloc (kept_refl w) (.cells #[.string zeroR.key, .int .u64 zeroR.s.p, .int .u32 zeroR.s.l, .int .u8 zeroR.s.n, .int .u8 zeroR.kind, .int .u32 zeroR.flags, .int .u64 zeroR.exp, .string zeroR.body] 42))
  have HA := hid (at_new w #[.string zeroR.key, .int .u64 zeroR.s.p, .int .u32 zeroR.s.l, .int .u8 zeroR.s.n, .int .u8 zeroR.kind, .int .u32 zeroR.flags, .int .u64 zeroR.exp, .string zeroR.body] 42)
  simp only [zeroR, zero] at HK HA
  obtain ⟨w1, hw1⟩ : ∃ w1, w.alloc (.cells #[.string ⟨#[]⟩, .int .u64 0, .int .u32 0, .int .u8 0, .int .u8 0, .int .u32 0, .int .u64 0, .string ⟨#[]⟩] 42) = w1 := ⟨_, rfl⟩
  obtain ⟨Y, hY⟩ : ∃ Y, w.heap.size = Y := ⟨_, rfl⟩
  have HYl := hid (Nat.le_of_eq hY)
  rw [hw1] at HK HA
  rw [hY] at HA
  obtain ⟨d0, d1, d2, d3, d4, d5, d6, d7, df⟩ := at_cells8 HA.out
  have E1 := hid (at_set8 HA.out (.string ⟨#[]⟩) (.int .u64 0) (.int .u32 0) (.int .u8 0) (.int .u8 0) (.int .u32 0) (.int .u64 0) (.string ⟨#[]⟩))
  have E2 := hid (kept_set8 HK.out HYl.out (.string ⟨#[]⟩) (.int .u64 0) (.int .u32 0) (.int .u8 0) (.int .u8 0) (.int .u32 0) (.int .u64 0) (.string ⟨#[]⟩))
  simp only [set8] at E1 E2
  clear HA HK
  go_enter Tryz.func18, Tryz.ntmps18
  go_wp2_with fail
  exact bodyPost_ret (res2r Tryz.results18 _ rfl rfl E1.out) rfl ⟨rfl, E2.out⟩
set_option maxHeartbeats 1600000 in
theorem get_nil (k : ByteArray) (w : World) : Calls Tryz.prog 16 #[.pointer none, .string k] w fun e w' => e = .returned (.tuple #[.agg #[.string zeroR.key, .int .u64 zeroR.s.p, .int .u32 zeroR.s.l, .int .u8 zeroR.s.n, .int .u8 zeroR.kind, .int .u32 zeroR.flags, .int .u64 zeroR.exp, .string zeroR.body], .bool false]) ∧ Kept w w' := by
  have hz := zero27
  have hP0 := peek_nil k
  have A1 := at_new w #[.string zeroR.key, .int .u64 zeroR.s.p, .int .u32 zeroR.s.l, .int .u8 zeroR.s.n, .int .u8 zeroR.kind, .int .u32 zeroR.flags, .int .u64 zeroR.exp, .string zeroR.body] 42
  have K1 := kept_alloc (kept_refl w) (.cells #[.string zeroR.key, .int .u64 zeroR.s.p, .int .u32 zeroR.s.l, .int .u8 zeroR.s.n, .int .u8 zeroR.kind, .int .u32 zeroR.flags, .int .u64 zeroR.exp, .string zeroR.body] 42)
  obtain ⟨q, hq⟩ : ∃ q, zeroR = q := ⟨_, rfl⟩
  rw [hq] at hP0
  rw [hq]
  clear hq
  simp only [zeroR, zero] at A1 K1
  obtain ⟨w1, hw1⟩ : ∃ w1, w.alloc (.cells #[.string ⟨#[]⟩, .int .u64 0, .int .u32 0, .int .u8 0, .int .u8 0, .int .u32 0, .int .u64 0, .string ⟨#[]⟩] 42) = w1 := ⟨_, rfl⟩
  obtain ⟨Y, hY⟩ : ∃ Y, w.heap.size = Y := ⟨_, rfl⟩
  rw [hw1] at A1 K1
  rw [hY] at A1
  have hP := hP0 w1
  have HA1 := hid A1
  have HK1 := hid K1
  have HYl := hid (Nat.le_of_eq hY)
  clear A1 K1 hP0
  go_enter Tryz.func16, Tryz.ntmps16
  go_wp2_with fail
  refine hP.mono ?_
  rintro e w2 ⟨rfl, k2⟩
  have HK2 := hid (kept_trans HK1.out k2)
  have HA2 := hid (at_kept HA1.out k2)
  clear k2 hP HA1 HK1 hw1
  have A3 := at_new w2 #[.string q.key, .int .u64 q.s.p, .int .u32 q.s.l, .int .u8 q.s.n, .int .u8 q.kind, .int .u32 q.flags, .int .u64 q.exp, .string q.body] 42
  have K3 := kept_alloc (kept_refl w2) (.cells #[.string q.key, .int .u64 q.s.p, .int .u32 q.s.l, .int .u8 q.s.n, .int .u8 q.kind, .int .u32 q.flags, .int .u64 q.exp, .string q.body] 42)
  obtain ⟨w3, hw3⟩ : ∃ w3, w2.alloc (.cells #[.string q.key, .int .u64 q.s.p, .int .u32 q.s.l, .int .u8 q.s.n, .int .u8 q.kind, .int .u32 q.flags, .int .u64 q.exp, .string q.body] 42) = w3 := ⟨_, rfl⟩
  obtain ⟨Z, hZ⟩ : ∃ Z, w2.heap.size = Z := ⟨_, rfl⟩
  rw [hw3] at A3 K3
  rw [hZ] at A3
  have HK3 := hid (kept_trans HK2.out K3)
  have HA3 := hid (at_kept HA2.out K3)
  obtain ⟨z0, z1, z2, z3, z4, z5, z6, z7, zf⟩ := at_cells8 A3
  obtain ⟨d0, d1, d2, d3, d4, d5, d6, d7, df⟩ := at_cells8 HA3.out
  have E1 := hid (at_set8 HA3.out (.string q.key) (.int .u64 q.s.p) (.int .u32 q.s.l) (.int .u8 q.s.n) (.int .u8 q.kind) (.int .u32 q.flags) (.int .u64 q.exp) (.string q.body))
  have E2 := hid (kept_set8 HK3.out HYl.out (.string q.key) (.int .u64 q.s.p) (.int .u32 q.s.l) (.int .u8 q.s.n) (.int .u8 q.kind) (.int .u32 q.flags) (.int .u64 q.exp) (.string q.body))
  simp only [set8] at E1 E2
  clear HA2 HK2 A3 K3 HA3 HK3
  go_wp2_with fail
  exact bodyPost_ret (res2r Tryz.results16 _ rfl rfl E1.out) rfl ⟨rfl, E2.out⟩
theorem purge_nil (t : Int) (w : World) : Calls Tryz.prog 21 #[.pointer none, .int .u64 t] w fun e w' => e = .returned (.int .i64 0) ∧ w' = w := by
  go_enter Tryz.func21, Tryz.ntmps21
  go_wp2_with fail
  go_ret
  exact ⟨rfl, rfl⟩
theorem range_nil (t : Int) (w : World) : Calls Tryz.prog 30 #[.pointer none, .int .i64 t] w fun e w' => e = .returned (.slice none 0 0) ∧ w' = w := by
  go_enter Tryz.func30, Tryz.ntmps30
  go_wp2_with fail
  go_ret
  exact ⟨rfl, rfl⟩
theorem dig_nil (t : Int) (w : World) : Calls Tryz.prog 27 #[.pointer none, .int .i64 t] w fun e w' => e = .returned (.int .u64 0) ∧ w' = w := by
  go_enter Tryz.func27, Tryz.ntmps27
  go_wp2_with fail
  go_ret
  exact ⟨rfl, rfl⟩
theorem len_nil (w : World) : Calls Tryz.prog 22 #[.pointer none] w fun e w' => e = .returned (.int .i64 0) ∧ w' = w := by
  go_enter Tryz.func22, Tryz.ntmps22
  go_wp2_with fail
  go_ret
  exact ⟨rfl, rfl⟩
theorem size_nil (w : World) : Calls Tryz.prog 23 #[.pointer none] w fun e w' => e = .returned (.int .i64 0) ∧ w' = w := by
  go_enter Tryz.func23, Tryz.ntmps23
  go_wp2_with fail
  go_ret
  exact ⟨rfl, rfl⟩
theorem ev_nil (w : World) : Calls Tryz.prog 25 #[.pointer none] w fun e w' => e = .returned (.int .i64 0) ∧ w' = w := by
  go_enter Tryz.func25, Tryz.ntmps25
  go_wp2_with fail
  go_ret
  exact ⟨rfl, rfl⟩
theorem floor_nil (t : Int) (w : World) : Calls Tryz.prog 26 #[.pointer none, .int .i64 t] w fun e w' => e = .returned (.agg #[.int .u64 0, .int .u32 0, .int .u8 0]) ∧ Kept w w' := by
  have hz := zero33
  have HA := hid (at_new w #[.int .u64 0, .int .u32 0, .int .u8 0] 33)
  have HK := hid (kept_alloc (kept_refl w) (.cells #[.int .u64 0, .int .u32 0, .int .u8 0] 33))
  obtain ⟨w1, hw1⟩ : ∃ w1, w.alloc (.cells #[.int .u64 0, .int .u32 0, .int .u8 0] 33) = w1 := ⟨_, rfl⟩
  obtain ⟨Y, hY⟩ : ∃ Y, w.heap.size = Y := ⟨_, rfl⟩
  rw [hw1] at HA HK
  rw [hY] at HA
  have hYl : w.heap.size ≤ Y := Nat.le_of_eq hY
  obtain ⟨c0, c1, c2, cf⟩ := at_cells3 HA.out
  have HA2 := hid (at_set (at_set (at_set HA.out 0 (.int .u64 0)) 1 (.int .u32 0)) 2 (.int .u8 0))
  have HK2 := hid (kept_set (kept_set (kept_set HK.out hYl 0 (.int .u64 0)) hYl 1 (.int .u32 0)) hYl 2 (.int .u8 0))
  clear HA HK hYl
  go_enter Tryz.func26, Tryz.ntmps26
  go_wp2_with fail
  exact bodyPost_ret (res1s Tryz.results26 _ rfl HA2.out) rfl ⟨rfl, HK2.out⟩
theorem eq_zero33 (w : World) : (Op.equalIn 10000 33 (.agg #[.int .u64 0, .int .u32 0, .int .u8 0]) (.agg #[.int .u64 0, .int .u32 0, .int .u8 0])).run Tryz.prog w = .ok true w := by
  have := eq_stamp zero zero w
  simpa [zero, same] using this
set_option maxHeartbeats 1600000 in
theorem nil_walk (r : R) (now k : Int) (w : World) (hr : r.ok) (hn : (Lit.int .u64 now).wf = true) (hk : (Lit.int .i64 k).wf = true) :
    Calls Tryz.prog 7 #[.agg #[.string r.key, .int .u64 r.s.p, .int .u32 r.s.l, .int .u8 r.s.n, .int .u8 r.kind, .int .u32 r.flags, .int .u64 r.exp, .string r.body], .int .u64 now, .int .i64 k] w fun e w' => e = .returned (.bool true) ∧ Kept w w' := by
  have hz := zero27
  have hz3 := zero33
  have heq := eq_zero33
  have K1 := kept_alloc (kept_refl w) (.cells #[.string r.key, .int .u64 r.s.p, .int .u32 r.s.l, .int .u8 r.s.n, .int .u8 r.kind, .int .u32 r.flags, .int .u64 r.exp, .string r.body] 42)
  have A1 := at_new w #[.string r.key, .int .u64 r.s.p, .int .u32 r.s.l, .int .u8 r.s.n, .int .u8 r.kind, .int .u32 r.flags, .int .u64 r.exp, .string r.body] 42
  obtain ⟨w1, hw1⟩ : ∃ w1, w.alloc (.cells #[.string r.key, .int .u64 r.s.p, .int .u32 r.s.l, .int .u8 r.s.n, .int .u8 r.kind, .int .u32 r.flags, .int .u64 r.exp, .string r.body] 42) = w1 := ⟨_, rfl⟩
  obtain ⟨Y, hYs⟩ : ∃ Y, w.heap.size = Y := ⟨_, rfl⟩
  rw [hw1] at K1 A1
  rw [hYs] at A1
  have HK1 := hid K1
  have HA1 := hid A1
  obtain ⟨d0, d1, d2, d3, d4, d5, d6, d7⟩ := at_cells8' A1
  clear K1 A1
  go_enter Tryz.func7, Tryz.ntmps7
  go_wp2_with fail
  refine (put_nil r now _).mono ?_
  rintro e w2 ⟨rfl, k2⟩
  have HK2 := hid (kept_trans HK1.out k2)
  have HA2 := hid (at_kept HA1.out k2)
  clear d0 d1 d2 d3 d4 d5 d6 d7 k2 HK1 HA1 hw1
  obtain ⟨d0, _⟩ := at_cells8' HA2.out
  have hG := get_nil r.key
  have hP := peek_nil r.key
  obtain ⟨q, hq⟩ : ∃ q, zeroR = q := ⟨_, rfl⟩
  rw [hq] at hG hP
  clear hq
  go_wp2_with fail
  refine (hG _).mono ?_
  rintro e w3 ⟨rfl, k3⟩
  have HK3 := hid (kept_alloc (kept_trans HK2.out k3) (.cells #[.string q.key, .int .u64 q.s.p, .int .u32 q.s.l, .int .u8 q.s.n, .int .u8 q.kind, .int .u32 q.flags, .int .u64 q.exp, .string q.body] 42))
  have HA3 := hid (at_alloc (at_kept HA2.out k3) (.cells #[.string q.key, .int .u64 q.s.p, .int .u32 q.s.l, .int .u8 q.s.n, .int .u8 q.kind, .int .u32 q.flags, .int .u64 q.exp, .string q.body] 42))
  clear d0 k3 HK2 HA2 hG
  obtain ⟨w4, hw4⟩ : ∃ w4, w3.alloc (.cells #[.string q.key, .int .u64 q.s.p, .int .u32 q.s.l, .int .u8 q.s.n, .int .u8 q.kind, .int .u32 q.flags, .int .u64 q.exp, .string q.body] 42) = w4 := ⟨_, rfl⟩
  rw [hw4] at HK3 HA3
  obtain ⟨d0, _⟩ := at_cells8' HA3.out
  go_wp2_with fail
  refine (hP _).mono ?_
  rintro e w5 ⟨rfl, k5⟩
  have HK5 := hid (kept_alloc (kept_trans HK3.out k5) (.cells #[.string q.key, .int .u64 q.s.p, .int .u32 q.s.l, .int .u8 q.s.n, .int .u8 q.kind, .int .u32 q.flags, .int .u64 q.exp, .string q.body] 42))
  clear d0 k5 HK3 HA3 hP hw4
  go_wp2_with fail
  generalize w5.alloc (.cells #[.string q.key, .int .u64 q.s.p, .int .u32 q.s.l, .int .u8 q.s.n, .int .u8 q.kind, .int .u32 q.flags, .int .u64 q.exp, .string q.body] 42) = w6 at *
  refine (fixed_any _).mono ?_
  rintro e w7 ⟨rfl, k7⟩
  have HK7 := hid (kept_trans HK5.out k7)
  clear k7 HK5
  go_wp2_with fail
  refine (purge_nil now _).mono ?_
  rintro e w8 ⟨rfl, rfl⟩
  go_wp2_with fail
  refine (range_nil k _).mono ?_
  rintro e w9 ⟨rfl, rfl⟩
  go_wp2_with fail
  refine (dig_nil k _).mono ?_
  rintro e w10 ⟨rfl, rfl⟩
  go_wp2_with fail
  refine (floor_nil k _).mono ?_
  rintro e w11 ⟨rfl, k11⟩
  have HK11 := hid (kept_trans HK7.out k11)
  clear k11 HK7
  go_wp2_with fail
  refine (len_nil _).mono ?_
  rintro e w12 ⟨rfl, rfl⟩
  go_wp2_with fail
  refine (size_nil _).mono ?_
  rintro e w13 ⟨rfl, rfl⟩
  go_wp2_with fail
  refine (ev_nil _).mono ?_
  rintro e w14 ⟨rfl, rfl⟩
  go_wp2_with fail
  go_ret
  exact ⟨rfl, HK11.out⟩
end Go.Proofs.YthgbdaladngpdaaGreat
